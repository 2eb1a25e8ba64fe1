import PyProof.Rows.All
import Wide.All
import OpenK.AllK
import Wide.FinOn
import Lean
import PyProof.EqAt
import PyProof.EqKinds
import PyProof.TupleCall
import PyProof.FactsAll.set
import PyProof.DictWalks
import PyProof.CollectWalk
import PyProof.Rows.SetFrom
import PyProof.Rows.SortWalk
import PyProof.Rows.SortStr
import PyProof.WalksMore
import KE.KDictOf
import KE.KDictSum
import KE.KEqDict
import KE.KPairComp
import KE.LcSums
import OpenK.KMake
import OpenK.KMore
import OpenK.KOwn
import PyProof.AttrMissHeap
import PyProof.DictCompW
import PyProof.DictFindH
import PyProof.DictItems
import PyProof.ExcAttrAll.ValueError
import PyProof.ExcBaseAll.ValueError
import PyProof.FString5
import PyProof.InstStoreFacts
import PyProof.IsInstanceT
import PyProof.IsiTupleAll
import PyProof.NeKinds
import PyProof.P3Eq
import PyProof.RaisesMany
import PyProof.Rows.CatchOwn
import PyProof.Rows.MinMaxN
import PyProof.Rows.SortShellK
import PyProof.Rows.StrFit
import PyProof.Rows.TopTwo
import PyProof.StrCalls
import PyProof.StrCalls2
import PyProof.StrCalls6
import PyProof.StrOps
import PyProof.TupleKey
import PySem.Challenge.RW_hourstairs_k96_questions_told
noncomputable def ac{C:Sort _}(h:False):C:=h.elim
def bd{P:Prop}(h:false=true):P:=Bool.noConfusion h
def bi(a b:Bool):((a&&b)=true)=(a=true∧b=true):=Bool.and_eq_true a b
open PySem PySem.Spec PyProof.Rows
set_option Elab.async false
set_option linter.all false
set_option maxRecDepth 100000
set_option maxHeartbeats 4000000
set_option genSizeOf false
set_option compiler.extract_closed false
set_option genSizeOfSpec false
abbrev MA:=@PySem.wpAny_bind
abbrev MB:=@PySem.Heap.get?_push_of_some
abbrev MC:=@PySem.wpAny_pure
abbrev MD:=@List.mem_cons_of_mem
abbrev ME:=@Bool.false_ne_true
abbrev MF:=@List.mem_singleton
abbrev MG:=@bi
abbrev MH:=@PySem.Heap.get?_push_size
abbrev MI:=@List.length_map
abbrev MJ:=@Nat.le_refl
abbrev MK:=@if_pos
abbrev ML:=@Nat.lt_of_lt_of_le
abbrev MM:=@if_neg
abbrev MN:=@List.mem_append
abbrev MP:=@List.mem_cons_self
abbrev MQ:=@PySem.Heap.lt_size
abbrev MR:=@List.mem_map
abbrev MS:=@List.length_append
abbrev MT:=@List.getElem?_eq_some_iff
abbrev MU:=@List.mem_cons
abbrev MV:=@Nat.ne_of_lt
abbrev MW:=@List.mem_of_getElem?
abbrev MX:=@Nat.le_trans
abbrev MY:=@List.getElem?_append_right
abbrev MZ:=@List.append_assoc
abbrev M0:=@List.getElem?_append_left
abbrev M1:=@decide_eq_true
abbrev M3:=@List.map_cons
abbrev M4:=@List.getElem?_eq_getElem
abbrev M5:=@List.getElem?_map
abbrev M6:=@List.length_take
abbrev M7:=@PySem.Heap.get?_update_self
abbrev M8:=@decide_eq_false
abbrev M9:=@List.mem_of_mem_drop
abbrev M_:=@PySem.StrLaws.strSub_toList
abbrev NA:=@PySem.Heap.get?_update_other
abbrev NB:=@Array.length_toList
abbrev NC:=@Option.some.inj
abbrev ND:=@List.nodup_cons
abbrev NF:=@List.mem_append_right
abbrev NG:=@List.getElem?_set_self
abbrev NH:=@List.length_drop
abbrev NI:=@Array.getElem?_eq_getElem
abbrev NJ:=@List.getElem?_set_ne
abbrev NK:=@List.all_eq_true
abbrev NL:=@List.size_toArray
abbrev NM:=@List.map_append
abbrev NO:=@Int.toNat_natCast
abbrev NP:=@List.take_of_length_le
abbrev NQ:=@List.mem_of_mem_take
abbrev NR:=@Nat.le_of_ble_eq_true
abbrev NS:=@congrArg
abbrev NT:=@List.length_cons
abbrev NU:=@PySem.wpAny_holding
abbrev NV:=@PySem.mem_of_lookup
abbrev NW:=@PySem.Heap.SameBut.update
abbrev NX:=@PyProof.Rows.cnt_cons
abbrev NY:=@of_decide_eq_true
abbrev NZ:=@PySem.StrLaws.subAt_one
abbrev N0:=@PyProof.Rows.cnt_append
abbrev N1:=@Nat.pow_le_pow_right
abbrev N2:=@List.map_map
abbrev N3:=@PySem.F.plainAttrs_str
abbrev N4:=@Bool.true_and
abbrev N5:=@List.append_nil
abbrev N6:=@List.mem_append_left
abbrev N7:=@PySem.StrLaws.found_one
abbrev N8:=@Array.getElem?_eq_some_iff
abbrev N9:=@Bool.eq_iff_iff
abbrev N_:=@PyProof.Rows.slot_tuple_getitem
abbrev OA:=@Nat.lt_succ_self
abbrev OB:=@List.all_cons
abbrev OC:=@List.take_add_one
abbrev OD:=@PyProof.Rows.F.plain_set_update_loop
abbrev OE:=@Nat.ne_of_gt
abbrev OF:=@PyProof.Rows.callWith_type1
abbrev OG:=@PySem.W.Looks.here
abbrev OH:=@List.drop_eq_nil_of_le
abbrev OI:=@Option.map_eq_some_iff
abbrev OJ:=@List.getElem_mem
abbrev OL:=@List.prefix_refl
abbrev OM:=@List.mem_filterMap
abbrev ON:=@PySem.F.slot_tuple_iterator_next
abbrev OO:=@beq_iff_eq
abbrev OP:=@List.drop_drop
abbrev OR:=@List.mem_filter
abbrev OS:=@List.forIn_cons
abbrev OT:=@Int.natCast_mul
abbrev OU:=@Nat.le_of_lt
abbrev OV:=@Nat.zero_le
abbrev OW:=@Nat.lt_succ_of_lt
abbrev OX:=@Array.all_eq_true_iff_forall_mem
abbrev OY:=@Nat.lt_irrefl
abbrev OZ:=@List.filterMap_cons
abbrev Sh:=@List.map_eq_nil_iff
abbrev Ud:=@PySem.Heap.size_push
abbrev Rw:=@List.length_eq_zero_iff
abbrev Tw:=@Nat.zero_lt_succ
abbrev Rx:=@Nat.add_sub_cancel_left
abbrev U3:=@Nat.lt_trans
abbrev Ry:=@Array.getElem?_eq_none
abbrev Sq:=@List.pairwise_cons
abbrev Pj:=@List.dropLast_concat_getLast
abbrev O9:=@List.any_cons
abbrev O_:=@PySem.F.slot_dict_get
abbrev PB:=@List.take_append_drop
abbrev PC:=@List.length_range
abbrev PD:=@PySem.F.typeOf_object_class
abbrev PF:=@List.ext_getElem
abbrev PH:=@List.lookup_cons
abbrev PJ:=@Nat.le_add_right
abbrev PL:=@List.take_length
abbrev PM:=@List.any_eq_true
abbrev PN:=@List.drop_eq_getElem_cons
abbrev PP:=@PySem.Value.isStrOf_shape
abbrev PQ:=@List.takeWhile_cons
abbrev PR:=@List.getElem?_take_of_lt
abbrev PU:=@PySem.F.args_tuple_add_2
abbrev PY:=@PyProof.noPylong_of_log2
abbrev PZ:=@Nat.gcd_pos_of_pos_right
abbrev P0:=@PySem.StrLaws.join_split
abbrev P1:=@Nat.lt_of_le_of_lt
abbrev P2:=@PySem.F.entry_tuple_add
abbrev P4:=@List.take_sublist
abbrev P5:=@PySem.F.slot_tuple_add
abbrev P6:=@PySem.W.mg_of
abbrev P7:=@Bool.and_false
abbrev P8:=@List.reverse_cons
abbrev P9:=@Nat.gcd_comm
abbrev P_:=@List.set_append_right
abbrev QA:=@PySem.intText_digits
abbrev QB:=@Nat.not_lt_zero
abbrev QC:=@List.nil_append
abbrev QD:=@Nat.min_eq_left
abbrev QE:=@Bool.or_eq_true
abbrev QF:=@List.getElem?_range
abbrev QG:=@PySem.W.kia_one
abbrev QH:=@Bool.false_and
abbrev QI:=@PySem.Heap.IsSliceOf.new
abbrev QJ:=@PySem.SeqAt.EqAt.int_int
abbrev QK:=@Nat.pos_of_ne_zero
abbrev QL:=@List.prefix_append
abbrev QM:=@List.take_left
abbrev QN:=@PySem.F.args_str_split_2
abbrev QO:=@Array.size_extract
abbrev QP:=@Int.natCast_nonneg
abbrev QQ:=@List.drop_zero
abbrev QR:=@Nat.log2_lt
abbrev QS:=@List.nodup_append
abbrev QT:=@PySem.F.entry_str_split
abbrev QU:=@List.getElem?_set
abbrev QV:=@List.drop_sublist
abbrev QW:=@List.cons.inj
abbrev QX:=@beq_self_eq_true
abbrev QY:=@PySem.F.slot_str_split
abbrev QZ:=@Nat.mod_lt
abbrev Q0:=@Nat.sub_self
abbrev Q1:=@List.of_mem_zip
abbrev Q2:=@List.length_set
abbrev Q3:=@Int.ediv_nonneg
abbrev Q4:=@List.mem_range
abbrev Q5:=@List.nodup_nil
abbrev Q6:=@Nat.mul_one
abbrev Q7:=@Nat.not_lt
abbrev Q8:=@List.map_nil
abbrev Q9:=@Int.le_of_lt
abbrev Q_:=@Nat.le_of_eq
abbrev RA:=@Nat.mul_comm
abbrev RB:=@Nat.pow_succ
abbrev RC:=@Nat.sub_zero
abbrev RD:=@Nat.le_succ
abbrev RE:=@List.not_lt
namespace L2
noncomputable abbrev Key:=Sum Int Str
noncomputable def qA:Key->Value->Bool
 | .inl k,v=>Value.isInt k v
 | .inr x,v=>Value.isStrOf x v
noncomputable def Mi (w:World):Key->Int
 | .inl k=>hashInt k
 | .inr x=>hashStr w x
def bK:∀ {k:Key}{v:Value},qA k v=true->(∃i t,k=Sum.inl i/\v=Value.int i t)\/(∃x t,k=Sum.inr x/\v=Value.str x t)
 | .inl i,v,h=>by obtain⟨t,e⟩:=Value.isInt_shape (k:=i) (v:=v) h;exact .inl ⟨i,t,rfl,e⟩
 | .inr x,v,h=>by obtain⟨t,e⟩:=PP (x:=x) (v:=v) h;exact .inr ⟨x,t,rfl,e⟩
def yX (i:Int)(t:Tok):qA (.inl i) (.int i t)=true:=by simp[qA,Value.isInt]
def yU (x:Str)(t:Tok):qA (.inr x) (.str x t)=true:=by simp[qA,Value.isStrOf]
def HG (a b:Int):decide ((Sum.inl a:Key)=Sum.inl b)=(a == b):=by
 by_cases e:a=b
 ·subst e;simp
 simp_all
def Iz (a b:Str):decide ((Sum.inr a:Key)=Sum.inr b)=decide (a=b):=by simp
def IG (a:Int)(b:Str):decide ((Sum.inl a:Key)=Sum.inr b)=false:=M8 (λq=>nomatch q)
def Iu (a:Str)(b:Int):decide ((Sum.inr a:Key)=Sum.inl b)=false:=M8 (λq=>nomatch q)
noncomputable def cA (prog:Program)(w:World):PySem.KeyKind prog w Key where
 is:=qA
 hash:=Mi w
 inj:=λv a b ha hb=>by
  rcases bK ha with⟨i,t,rfl,rfl⟩|⟨x,t,rfl,rfl⟩
  ·rcases bK hb with⟨j,u,rfl,e⟩|⟨y,u,rfl,e⟩
   ·simp_all
   simp_all
  ·rcases bK hb with⟨j,u,rfl,e⟩|⟨y,u,rfl,e⟩
   ·simp_all
   simp_all
 byValue:=λk v h=>by rcases bK h with⟨i,t,rfl,rfl⟩|⟨x,t,rfl,rfl⟩ <;> rfl
 pyHash:=λhv h=>by
  rcases bK hv with⟨i,t,rfl,rfl⟩|⟨x,t,rfl,rfl⟩
  ·exact wpAny_pyHash_int h
  ·exact wpAny_pyHash_str h
 eqBool:=λhu hv h=>by
  rcases bK hu with⟨i,t,rfl,rfl⟩|⟨x,t,rfl,rfl⟩
  ·rcases bK hv with⟨j,u,rfl,rfl⟩|⟨y,u,rfl,rfl⟩
   ·rw[HG] at h;exact wpAny_eqBool_int h
   ·rw[IG] at h;exact SeqAt.EqAt.int_str i t y u _ _ _ _ h
  ·rcases bK hv with⟨j,u,rfl,rfl⟩|⟨y,u,rfl,rfl⟩
   ·rw[Iu] at h;exact SeqAt.EqAt.str_int x t j u _ _ _ _ h
   ·rw[Iz] at h;exact wpAny_eqBool_str h
 «strs»:=λk x t v h=>by
  rcases bK h with⟨i,u,rfl,e⟩|⟨y,u,rfl,e⟩
  ·exact nomatch e
  ·injection e with e1 _
   subst e1;cases v <;> rfl
def uN (prog:Program)(w:World)(i:Int)(t:Tok):(cA prog w).is (.inl i) (.int i t)=true:=yX i t
def fM (prog:Program)(w:World)(x:Str)(t:Tok):(cA prog w).is (.inr x) (.str x t)=true:=yU x t
inductive V where
 | non|bl (b:Bool)|int (i:Int)|str (x:Str)|W_ (b:Array UInt8)|flt (b:UInt64)|ref (a:Addr)|ty (n:String)
 deriving DecidableEq
noncomputable def RelV:V->Value->Prop
 | .non,u=>u=Value.none
 | .bl b,u=>u=Value.bool b
 | .int i,u=>∃t,u=Value.int i t
 | .str x,u=>∃t,u=Value.str x t
 | .W_ b,u=>∃t,u=Value.bytes b t
 | .flt b,u=>∃t,u=Value.float b t
 | .ref a,u=>u=Value.ref a
 | .ty n,u=>u=Value.type n
noncomputable abbrev Vals:List V->List Value->Prop:=Paired RelV
theorem Vals.length {xs:List V}{us:List Value}(r:Vals xs us):xs.length=us.length:=Paired.length r
theorem Vals.get:∀ {xs:List V}{us:List Value}{i:Nat}{x:V},Vals xs us->xs[i]?=some x->∃u,us[i]?=some u/\RelV x u
 | _,_,_,_,.nil,e=>by simp at e
 | _,_,0,_,.cons r _,e=>by simp at e;subst e;exact⟨_,rfl,r⟩
 | _,_,i+1,x,.cons _ t,e=>by
  obtain⟨u,h1,h2⟩:=Vals.get (i:=i) (x:=x) t (by simpa using e)
  solve_by_elim
theorem Vals.set {x:V}{u:Value}(r:RelV x u):∀ {xs:List V}{us:List Value} (i:Nat),Vals xs us->Vals (xs.set i x) (us.set i u)
 | _,_,_,.nil=>.nil
 | _,_,0,.cons _ t=>.cons r t
 | _,_,i+1,.cons q t=>.cons q (Vals.set r i t)
theorem Vals.append:∀ {xs ys:List V}{us ws:List Value},Vals xs us->Vals ys ws->Vals (xs++ys) (us++ws)
 | _,_,_,_,.nil,s=>s
 | _,_,_,_,.cons r t,s=>.cons r (Vals.append t s)
theorem Vals.take:∀ {xs:List V}{us:List Value} (n:Nat),Vals xs us->Vals (xs.take n) (us.take n)
 | _,_,0,_=>.nil
 | _,_,_+1,.nil=>.nil
 | _,_,n+1,.cons r t=>.cons r (Vals.take n t)
theorem Vals.drop:∀ {xs:List V}{us:List Value} (n:Nat),Vals xs us->Vals (xs.drop n) (us.drop n)
 | _,_,0,r=>r
 | _,_,_+1,.nil=>.nil
 | _,_,n+1,.cons _ t=>Vals.drop n t
noncomputable def XJ:Option V->Option Value->Prop
 | some v,some u=>RelV v u
 | none,none=>True
 | _,_=>False
noncomputable def KV {κ:Type}:List (κ × V)->List (κ × Value)->Prop:=Paired λ(p:κ × V) (q:κ × Value)=>p.1=q.1/\RelV p.2 q.2
noncomputable def kV:Key->V
 | .inl i=>.int i
 | .inr x=>.str x
set_option genInjectivity false
inductive HO where
 | lst (xs:List V)
 | tup (xs:List V)
 | dK (kvs:List (Key × V))
 | VF (o:Obj) (u:HO)
 | ext (φ:Heap->Prop)
noncomputable abbrev Hp:=Addr->Option HO
noncomputable def upd (H:Hp)(a:Addr)(o:HO):Hp:=λb=>if b=a then some o else H b
def bq {H:Hp}{a:Addr}{o:HO}:upd H a o a=some o:=by unfold upd;simp
def bg {H:Hp}{a b:Addr}{o:HO}(h:b≠a):upd H a o b=H b:=by unfold upd;rw[MM h]
def dX {H:Hp}{a b:Addr}{o:HO}(h:H a=some o)(h':H b=none):a≠b:=by intro e;simp_all
section
variable (P:Program) (w:World)
noncomputable def ZL (H:Hp)(h:Heap)(a:Addr):HO->Prop
 | .lst xs=>xs.length<=sizeLine/\∃(its:List Value) (n:Nat),Vals xs its/\h.get? a=some { cls:=.type "list",data:=.seq its.toArray n }
 | .tup xs=>xs.length<=sizeLine/\∃its:List Value,Vals xs its/\IsTup h a its.toArray
 | .dK kvs=>kvs.length<=sizeLine/\(a == sysModules)=false/\∃vs,KV kvs vs/\h.DictOf (cA P w) a vs
 | .VF o u=>h.get? a=some o/\ZL H h a u
 | .ext φ=>φ h/\(∃o,h.get? a=some o)/\∀h1 h2:Heap,φ h1->(∀o,h1.get? a=some o->h2.get? a=some o)->φ h2
def YX (H:Hp)(h:Heap):Prop:=∀a o,H a=some o->ZL P w H h a o
end
section
variable {P:Program}{w:World}{H H':Hp}{h h':Heap}{a:Addr}{o:HO}
theorem ZL.lt (x:ZL P w H h a o):a<h.objs.size:=by
 cases o with
 | lst xs=>obtain⟨_,_,_,_,e⟩:=x;exact MQ e
 | tup xs=>obtain⟨_,_,_,p⟩:=x;exact p.lt
 | dK kvs=>obtain⟨_,_,_,_,o,_,_,e,_⟩:=x;exact MQ e
 | VF ob u=>obtain⟨e,_⟩:=x;exact MQ e
 | ext φ=>obtain⟨_,⟨_,e⟩,_⟩:=x;exact MQ e
def ZL.stay (x:ZL P w H h a o)(k:∀u,h.get? a=some u->h'.get? a=some u):ZL P w H' h' a o:=by
 induction o with
 | lst xs=>obtain⟨z,its,n,r,e⟩:=x;exact⟨z,its,n,r,k _ e⟩
 | tup xs=>obtain⟨z,its,r,ob,e,c⟩:=x;exact⟨z,its,r,ob,k _ e,c⟩
 | dK kvs=>obtain⟨z,y,vs,r,ob,es,ep,e,c⟩:=x;exact⟨z,y,vs,r,ob,es,ep,k _ e,c⟩
 | VF ob u ih=>obtain⟨e,q⟩:=x;exact⟨k _ e,ih q⟩
 | ext φ=>obtain⟨p,⟨o,e⟩,st⟩:=x;exact⟨st _ _ p λo q=>k _ q,⟨o,k _ e⟩,st⟩
theorem YX.lt (x:YX P w H h)(e:H a=some o):a<h.objs.size:=(x a o e).lt
def YX.fresh (x:YX P w H h)(e:h.objs.size<=a):H a=none:=by
 cases q:H a with
 | none=>rfl
 | some u=>exact absurd (ML (x.lt q) e) (OY _)
def YX.kept (x:YX P w H h)(k:∀b u,h.get? b=some u->h'.get? b=some u):YX P w H h':=λa o e =>
 (x a o e).stay λu q=>k a u q
def YX.laid (x:YX P w H h)(k:∀b u,h.get? b=some u->h'.get? b=some u)(hp:h.objs.size<=a)(new:ZL P w (upd H a o) h' a o):YX P w (upd H a o) h':=λb u e=>by
 have hn:=x.fresh hp;by_cases hb:b=a
 ·subst hb;rw[bq] at e;cases e;exact new
 ·rw[bg hb] at e;exact(x b u e).stay λv q=>k b v q
end
def Rd (H:Hp)(a:Addr)(u:HO):Prop:=H a=some u\/∃o,H a=some (.VF o u)
def Rd.ok {P:Program}{w:World}{H:Hp}{h:Heap}{a:Addr}{u:HO}(r:Rd H a u)(x:YX P w H h):ZL P w H h a u:=by
 rcases r with r|⟨o,r⟩
 ·exact x a u r
 ·obtain⟨_,q⟩:=x a _ r;exact q
noncomputable def Rv:Option HO->Prop
 | some (.lst _)=>True
 | some (.dK _)=>True
 | some (.ext _)=>True
 | _=>False
section
variable {P:Program}{w:World}{H:Hp}{h h':Heap}{x:Addr}{o':HO}
def YX.write (ok:YX P w H h)(k:∀b u,b≠x->h.get? b=some u->h'.get? b=some u)(new:ZL P w (upd H x o') h' x o'):YX P w (upd H x o') h':=λb u q=>by
 by_cases hb:b=x
 ·subst hb;rw[bq] at q;cases q;exact new
 ·rw[bg hb] at q;exact(ok b u q).stay λv r=>k b v hb r
end
set_option genCtorIdx false
structure Un (fs ex:List Addr)(H H':Hp)(h h':Heap):Prop where
 keep:∀b o,h.get? b=some o->H b=none->b ∉ fs->b ∉ ex->h'.get? b=some o
 slot:∀b o,h.get? b=some o->H b=none->b∈fs->b ∉ ex->∃sl,h'.get? b=some { o with slots:=sl }
 free:∀b o,h.get? b=some o->H b=none->b ∉ ex->H' b=none
 there:∀b o,h.get? b=some o->b ∉ ex->∃o',h'.get? b=some o'
 Wa:∀b u,H b=some u->¬Rv (some u)->H' b=some u
section
variable {fs fs' ex ex':List Addr}{H H1 H2:Hp}{h h1 h2 h':Heap}{a x e:Addr}{o:HO}
def Un.Px (u:Un fs ex H H1 h h1)(b:Addr)(o:Obj)(v:HO)(e:H b=some (.VF o v)):H1 b=some (.VF o v):=u.Wa _ _ e id
def Un.any (u:Un fs ex H H1 h h1){b:Addr}{ob:Obj}(q:h.get? b=some ob)(n:H b=none)(hx:b ∉ ex):∃sl,h1.get? b=some { ob with slots:=sl }:=by
 by_cases hb:b∈fs
 ·exact u.slot b ob q n hb hx
 ·exact⟨ob.slots,u.keep b ob q n hb hx⟩
def Un.kept (k:∀b u,h.get? b=some u->h'.get? b=some u):Un fs ex H H h h' :=
 ⟨λb ob q _ _ _=>k b ob q,λb ob q _ _ _=>⟨ob.slots,k b ob q⟩,λ_ _ _ n _=>n,λb ob q _=>⟨ob,k b ob q⟩,λ_ _ q _=>q⟩
def Un.refl:Un fs ex H H h h:=Un.kept λ_ _ q=>q
def Un.laid (k:∀b u,h.get? b=some u->h'.get? b=some u)(hp:h.objs.size<=a)(hn:H a=none):Un fs ex H (upd H a o) h h' where
 keep:=λb u q _ _ _=>k b u q
 slot:=λb u q _ _ _=>⟨u.slots,k b u q⟩
 free:=λb u q n _=>by rw[bg (MV (ML (MQ q) hp))];exact n
 there:=λb u q _=>⟨u,k b u q⟩
 Wa:=λb u q _=>by rw[bg (dX q hn)];exact q
def Un.write (mu:Rv (H x))(k:∀b u,b≠x->h.get? b=some u->h'.get? b=some u)(heo:∃u,h'.get? x=some u):Un fs ex H (upd H x o) h h':=by
 have hx:∀b,H b=none->b≠x:=λb n z=>by subst z;rw[n] at mu;exact mu
 refine⟨λb u q n _ _=>k b u (hx b n) q,λb u q n _ _=>⟨u.slots,k b u (hx b n) q⟩,λb u q n _=>by rw[bg (hx b n)];exact n,λb u q _=>?_,λb u q nm=>by rw[bg λz=>by subst z;rw[q] at mu;exact nm mu];exact q⟩;by_cases hb:b=x
 ·rw[hb];exact heo
 ·exact⟨u,k b u hb q⟩
end
noncomputable def R7 (h:Heap)(H:Hp):List Addr:=(List.range h.objs.size).filter λa=>(H a).isSome
noncomputable def uS (h:Heap)(H:Hp):Heap:=W.hideAll h (R7 h H)
def zR (h:Heap)(H:Hp):(uS h H).objs.size=h.objs.size:=W.hideAll_size _ _
def tV {h:Heap}{H:Hp}{b:Addr}{o:Obj}(e:h.get? b=some o)(n:H b=none):(uS h H).get? b=some o :=
 W.hideAll_get _ e λhm=>by
  have q:(H b).isSome=true:=(OR.mp hm).2
  simp_all
def EU {h:Heap}{H:Hp}{b:Addr}{o:Obj}(e:(uS h H).get? b=some o):h.get? b=some o/\H b=none:=by
 have e':h.get? b=some o:=W.of_hideAll (R7 h H) e;refine⟨e',?_⟩;cases q:H b with
 | none=>rfl
 | some x =>
  have hm:b∈R7 h H:=OR.mpr ⟨Q4.mpr (MQ e'),by simp[q]⟩;have z:(uS h H).get? b=none:=W.hideAll_none (R7 h H) hm
  simp_all
end L2
namespace L2
structure Mod (K:W.Frag)(mg:Str->Option Value)(base:Heap):Prop where
 Wd:K.In base
 glob:base.Ns mainGlobals mg
 blt:∃mb,base.Ns builtinsNs mb/\∀x:Str,x≠"__name__"->mb x=bootBuiltins x
 nolimit:base.NoLimit
structure Cx where
 prog:Program
 w:World
 K:W.Frag
 mg:Str->Option Value
 base:Heap
 A:Around
 N:List Str
 s₀:Shared
 H₀:Hp
 env:Env
 outer:List Env
 stack:List Env
 ex:List Addr
 fn:Str->Bool
 calm:Bool
 pn:List (Addr × Obj)
 xe:Value->Shared->Prop
noncomputable def frs (l:List Env):List Addr:=l.filterMap (·.frame)
noncomputable abbrev Cx.fs (X:Cx):List Addr:=frs X.outer
def SJ (sc:Scope)(x:Str):Prop:=sc.names.lookup x=some .local\/sc.names.lookup x=some .cell\/sc.names.lookup x=some .free
def Loc (sc:Scope)(x:Str):Prop:=sc.names.lookup x=some .local\/sc.names.lookup x=some .cell
def LL (env:Env)(h:Heap)(m:Str->Option Value)(x:Str)(u:Value):Prop :=
 (env.kindOf x=some .local/\m x=some u)\/((env.kindOf x=some .cell\/env.kindOf x=some .free)/\∃c,env.cells.lookup x=some c/\h.IsCell c (some u))
structure Cx.Ok (X:Cx):Prop where
 mod:Mod X.K X.mg X.base
 kind:X.env.scope.kind=.function
 glob:X.env.globals=mainGlobals
 blt:X.env.builtins=builtinsNs
 above:X.s₀.heap.objs.size<=X.env.locals
 inj:∀x y c,X.env.cells.lookup x=some c->X.env.cells.lookup y=some c->x=y
 has:∀x,(X.env.kindOf x=some .cell\/X.env.kindOf x=some .free)->∃c,X.env.cells.lookup x=some c
 cab:∀x c,X.fn x=true->X.env.cells.lookup x=some c->X.s₀.heap.objs.size<=c
 hd:X.calm=true->X.A.handled=none
 frames:X.A.frames=some X.stack
 stk:X.stack=X.outer\/(X.stack=X.env::X.outer/\X.env.frame=some X.env.locals)
 VD:∀b∈X.ex,b≠X.env.locals/\∀x c,X.env.cells.lookup x=some c->c≠b
 bs:∀b o,X.base.get? b=some o->X.s₀.heap.get? b=some o/\X.H₀ b=none
 WW:X.base.objs.size<=X.s₀.heap.objs.size
 Yo:∀b o,X.base.get? b=some o->b ∉ X.ex
 Yl:∀b∈X.ex,b ∉ X.fs
 Y4:X.s₀.heap.FunFrames X.base X.outer
 Wm:∀b∈X.fs,X.H₀ b=none
structure Inv (X:Cx)(pins:List (Addr × Obj))(O:List (Option V))(H:Hp)(s:Shared):Prop where
 ok:X.Ok
 os:s.os=X.s₀.os
 bare:AllBare s.gens
 base:Un X.fs X.ex X.H₀ H X.s₀.heap s.heap
 loc:∃m,s.heap.Ns X.env.locals m/\∀(i:Nat) (x:Str) (v:V),X.N[i]?=some x->O[i]?=some (some v)->SJ X.env.scope x->∃u,RelV v u/\LL X.env s.heap m x u
 cell:∀x c,X.env.cells.lookup x=some c->∃v,s.heap.IsCell c v
 free:H X.env.locals=none
 ZF:∀x c,X.env.cells.lookup x=some c->H c=none
 pin:∀p∈X.pn++pins,s.heap.get? p.1=some p.2/\H p.1=none/\p.1≠X.env.locals/\p.1 ∉ X.fs/\∀v,p.2.data≠.cell v
 hok:YX X.prog X.w H s.heap
 len:O.length=X.N.length
section
variable {X:Cx}{pins:List (Addr × Obj)}{O:List (Option V)}{H H':Hp}{s:Shared}{h':Heap}
def Cx.Ok.Rb (ok:X.Ok){b:Addr}{o:Obj}(e:X.base.get? b=some o):b ∉ X.fs:=λhb=>by
 have:=(ok.Y4.mem hb).1
 simp_all
theorem Inv.bs (I:Inv X pins O H s):∀b o,X.base.get? b=some o->s.heap.get? b=some o/\H b=none:=λb o e =>
 ⟨I.base.keep b o (I.ok.bs b o e).1 (I.ok.bs b o e).2 (I.ok.Rb e) (I.ok.Yo b o e),I.base.free b o (I.ok.bs b o e).1 (I.ok.bs b o e).2 (I.ok.Yo b o e)⟩
def Inv.bk (I:Inv X pins O H s):∀b o,X.base.get? b=some o->s.heap.get? b=some o:=λb o e=>(I.bs b o e).1
theorem Inv.mod (I:Inv X pins O H s):Mod X.K X.mg X.base:=I.ok.mod
def Inv.X8 (I:Inv X pins O H s):X.K.In s.heap:=I.ok.mod.Wd.keeps I.bk
theorem Inv.lt (I:Inv X pins O H s):X.env.locals<s.heap.objs.size:=let ⟨_,hn,_⟩:=I.loc;hn.lt
def Inv.sz (I:Inv X pins O H s):X.s₀.heap.objs.size<=s.heap.objs.size:=MX I.ok.above (OU I.lt)
def Inv.Uv (I:Inv X pins O H s){a:Addr}(h:s.heap.objs.size<=a):a ∉ X.fs:=λhb=>by obtain⟨_,o,ho,_⟩:=I.ok.Y4.mem hb;exact absurd (ML (MQ ho) (MX I.sz h)) (OY _)
def Inv.V7 (I:Inv X pins O H s):∀x c,X.env.cells.lookup x=some c->c≠X.env.locals:=λx c e z=>by
 obtain⟨v,o,ho,hd⟩:=I.cell x c e;obtain⟨m,⟨o',es,ep,ho',hd',_⟩,_⟩:=I.loc
 simp_all
theorem Inv.Y4 (I:Inv X pins O H s):s.heap.FunFrames X.base X.outer:=by
 have all:∀(l:List Env),(∀b∈frs l,b∈X.fs)->X.s₀.heap.FunFrames X.base l->s.heap.FunFrames X.base l:=by
  intro l
  induction l with
  | nil=>intro _ _;trivial
  | cons env r ih =>intro hs hl;obtain⟨hk,⟨L,o,hf,hn,ho,hd⟩,hr⟩:=hl;have hL:L∈X.fs:=hs L (by unfold frs;rw[OZ,hf];solve_by_elim);obtain⟨sl,e⟩:=I.base.slot L o ho (I.ok.Wm L hL) hL λz=>I.ok.Yl L z hL;exact⟨hk,⟨L,_,hf,hn,e,hd⟩,ih (λb hb=>hs b (by unfold frs;rw[OZ,hf];solve_by_elim)) hr⟩
 exact all X.outer (λ_ hb=>hb) I.ok.Y4
theorem Inv.stack (I:Inv X pins O H s):s.heap.FunFrames X.base X.stack:=by
 rcases I.ok.stk with e|⟨e,hf⟩
 ·rw[e];exact I.Y4
 ·rw[e];obtain⟨m,hn,_⟩:=I.loc;refine .cons (by rw[I.ok.kind];decide) hf hn ?_ I.Y4;exact Heap.get?_none_of_le (MX I.ok.WW I.ok.above)
def Inv.Xh (I:Inv X pins O H s):∀b∈frs X.stack,b∈X.env.locals::X.fs:=λb hb=>by
 rcases I.ok.stk with e|⟨e,hf⟩
 ·rw[e] at hb;solve_by_elim
 ·rw[e] at hb;unfold frs at hb;rw[OZ,hf] at hb;exact hb
def Inv.YG (I:Inv X pins O H s):∀b∈frs X.stack,H b=none:=λb hb=>by
 rcases MU.mp (I.Xh b hb) with e|hb
 ·rw[e];exact I.free
 ·obtain⟨_,o,ho,_⟩:=I.ok.Y4.mem hb;exact I.base.free b o ho (I.ok.Wm b hb) λz=>I.ok.Yl b z hb
def Inv.step {g':Array GenState}{t':Nat}{d':Drawn}{ch:List Addr}(I:Inv X pins O H s)
  (hch:∀b∈ch,(b∈X.ex\/X.s₀.heap.objs.size<=b)/\b≠X.env.locals/\(∀x c,X.env.cells.lookup x=some c->c≠b)/\∀p∈X.pn++pins,p.1≠b)
  (keep:∀b o,b≠X.env.locals->b ∉ X.fs->b ∉ ch->s.heap.get? b=some o->H b=none->h'.get? b=some o)
  (slot:∀b o,b≠X.env.locals->b∈X.fs->b ∉ ch->s.heap.get? b=some o->H b=none->∃sl,h'.get? b=some { o with slots:=sl }) (free:∀b o,b ∉ ch->s.heap.get? b=some o->H b=none->H' b=none)
  (there:∀b o,b ∉ ch->s.heap.get? b=some o->∃o',h'.get? b=some o')
  (Wa:∀b u,H b=some u->¬Rv (some u)->H' b=some u)
  (ns:∀m,s.heap.Ns X.env.locals m->h'.Ns X.env.locals m) (hok:YX X.prog X.w H' h') (hg:AllBare g') :
  Inv X pins O H' { s with heap:=h',gens:=g',drawn:=d',toks:=t' }:=by
 have Oh:∀b o,X.s₀.heap.get? b=some o->b≠X.env.locals:=λb o e=>MV (ML (MQ e) I.ok.above);have T6:∀b o,X.s₀.heap.get? b=some o->b ∉ X.ex->b ∉ ch:=λb o e hx hb=>by
  rcases (hch b hb).1 with z|z
  ·exact hx z
  ·exact absurd (ML (MQ e) z) (OY _)
 have cellK:∀x c,X.env.cells.lookup x=some c->∀v,s.heap.IsCell c v->h'.IsCell c v:=λx c e v ⟨o,ho,hd⟩=>by
  have Td:c ∉ ch:=λz=>(hch c z).2.2.1 x c e rfl;by_cases hc:c∈X.fs
  ·obtain⟨sl,q⟩:=slot c o (I.V7 x c e) hc Td ho (I.ZF x c e);exact⟨_,q,hd⟩
  ·exact⟨o,keep c o (I.V7 x c e) hc Td ho (I.ZF x c e),hd⟩
 refine⟨I.ok,I.os,hg,⟨λb o e n hb hx=>?_,λb o e n hb hx=>?_,λb o e n hx=>?_,λb o e hx=>?_,λb u e n=>Wa b u (I.base.Wa b u e n) n⟩,?_,λx c e=>?_,?_,λx c e=>?_,λp hp=>?_,hok,I.len⟩
 ·exact keep b o (Oh b o e) hb (T6 b o e hx) (I.base.keep b o e n hb hx) (I.base.free b o e n hx)
 ·obtain⟨sl,e1⟩:=I.base.slot b o e n hb hx;obtain⟨sl',e2⟩:=slot b _ (Oh b o e) hb (T6 b o e hx) e1 (I.base.free b o e n hx);exact⟨sl',e2⟩
 ·obtain⟨o',e1⟩:=I.base.there b o e hx;exact free b o' (T6 b o e hx) e1 (I.base.free b o e n hx)
 ·obtain⟨o',e1⟩:=I.base.there b o e hx;exact there b o' (T6 b o e hx) e1
 ·obtain⟨m,hn,hl⟩:=I.loc;refine⟨m,ns m hn,λi x v e1 e2 e3=>?_⟩;obtain⟨u,r,l⟩:=hl i x v e1 e2 e3;refine⟨u,r,?_⟩;rcases l with l|⟨k,c,e,z⟩
  ·exact .inl l
  ·exact .inr ⟨k,c,e,cellK x c e _ z⟩
 ·obtain⟨v,z⟩:=I.cell x c e;exact⟨v,cellK x c e v z⟩
 ·obtain⟨m,⟨o,_,_,ho,_⟩,_⟩:=I.loc;exact free _ o (λz=>(hch _ z).2.1 rfl) ho I.free
 ·obtain⟨v,o,ho,hd⟩:=I.cell x c e;exact free c o (λz=>(hch c z).2.2.1 x c e rfl) ho (I.ZF x c e)
 ·obtain⟨e,n,ne,nf,d⟩:=I.pin p hp;have Td:p.1 ∉ ch:=λz=>(hch p.1 z).2.2.2 p hp rfl;exact⟨keep p.1 p.2 ne nf Td e n,free p.1 p.2 Td e n,ne,nf,d⟩
def Inv.un {t':Nat}(I:Inv X pins O H s)(u:Un X.fs [] H H' s.heap h')(hok:YX X.prog X.w H' h'):Inv X pins O H' { s with heap:=h',toks:=t' }:=by
 obtain⟨m,⟨o,es,ep,ho,r⟩,_⟩:=id I.loc;obtain⟨sl,hL⟩:=u.any ho I.free (by simp);exact I.step (g':=s.gens) (d':=s.drawn) (ch:=[]) (λ_ z=>nomatch z) (λb o _ hb _ e n=>u.keep b o e n hb (by simp)) (λb o _ hb _ e n=>u.slot b o e n hb (by simp)) (λb o _ e n=>u.free b o e n (by simp)) (λb o _ e=>u.there b o e (by simp)) u.Wa (λm' hm=>by obtain⟨o',es',ep',ho',r'⟩:=hm;rw[ho] at ho';cases ho';exact⟨_,es',ep',hL,r'⟩) hok I.bare
def Inv.call {g':Array GenState}{t':Nat}{d':Drawn}{ch:List Addr}(I:Inv X pins O H s)(u:Un (frs X.stack) ch H H' s.heap h')(hok:YX X.prog X.w H' h')(hg:AllBare g')
  (hch:∀b∈ch,(b∈X.ex\/X.s₀.heap.objs.size<=b)/\b≠X.env.locals/\(∀x c,X.env.cells.lookup x=some c->c≠b)/\∀p∈X.pn++pins,p.1≠b) :
  Inv X pins O H' { s with heap:=h',gens:=g',drawn:=d',toks:=t' }:=by
 obtain⟨m,⟨o,es,ep,ho,r⟩,_⟩:=id I.loc;obtain⟨sl,hL⟩:=u.any ho I.free λz=>(hch _ z).2.1 rfl;exact I.step (ch:=ch) hch (λb o hL hb hc e n=>u.keep b o e n (λz=>(MU.mp (I.Xh b z)).elim hL hb) hc) (λb o _ _ hc e n=>u.any e n hc) (λb o hc e n=>u.free b o e n hc) (λb o hc e=>u.there b o e hc) u.Wa (λm' hm=>by obtain⟨o',es',ep',ho',r'⟩:=hm;rw[ho] at ho';cases ho';exact⟨_,es',ep',hL,r'⟩) hok hg
def Inv.turned {t':Nat}{it:Addr}(I:Inv X pins O H s)(k:∀b o,b≠it->s.heap.get? b=some o->h'.get? b=some o)(hn:H it=none)(hL:it≠X.env.locals)
  (h1:it∈X.ex\/X.s₀.heap.objs.size<=it) (h2:∀x c,X.env.cells.lookup x=some c->c≠it) (h3:∀p∈X.pn++pins,p.1≠it):Inv X pins O H { s with heap:=h',toks:=t' }:=by
 have Te:∀b u,H b=some u->b≠it:=λb u e z=>by simp_all
 refine I.step (g':=s.gens) (d':=s.drawn) (ch:=[it]) (λb hb=>?_) (λb o _ _ hc e _=>k b o (λz=>hc (by simp[z])) e) (λb o _ _ hc e _=>⟨o.slots,k b o (λz=>hc (by simp[z])) e⟩) (λ_ _ _ _ n=>n)
  (λb o hc e=>⟨o,k b o (λz=>hc (by simp[z])) e⟩) (λ_ _ e _=>e) (λm hm=>?_) (λb u e=>?_) I.bare
 ·have e:b=it:=by simpa using hb
  subst e;exact⟨h1,hL,h2,h3⟩
 ·obtain⟨o,es,ep,ho,r⟩:=hm;exact⟨o,es,ep,k _ o (Ne.symm hL) ho,r⟩
 ·exact(I.hok b u e).stay λv q=>k b v (Te b u e) q
def Inv.tok (I:Inv X pins O H s)(t:Nat):Inv X pins O H { s with toks:=t }:=I.un (h':=s.heap) (t':=t) Un.refl I.hok
theorem Inv.kept {t':Nat}(I:Inv X pins O H s)(k:∀b u,s.heap.get? b=some u->h'.get? b=some u):Inv X pins O H { s with heap:=h',toks:=t' }:=I.un (Un.kept k) (I.hok.kept k)
theorem Inv.laid {a:Addr}{o:HO}{t':Nat}(I:Inv X pins O H s)(k:∀b u,s.heap.get? b=some u->h'.get? b=some u)(hp:s.heap.objs.size<=a)(new:ZL X.prog X.w (upd H a o) h' a o) :
  Inv X pins O (upd H a o) { s with heap:=h',toks:=t' }:=I.un (Un.laid k hp (I.hok.fresh hp)) (I.hok.laid k hp new)
theorem Inv.write {x:Addr}{o:HO}{t':Nat}(I:Inv X pins O H s)(mu:Rv (H x))(k:∀b u,b≠x->s.heap.get? b=some u->h'.get? b=some u)(heo:∃u,h'.get? x=some u)
  (new:ZL X.prog X.w (upd H x o) h' x o):Inv X pins O (upd H x o) { s with heap:=h',toks:=t' }:=I.un (Un.write mu k heo) (I.hok.write k new)
def Inv.W6 {U9:List (Addr × Obj)}(I:Inv X pins O H s)(h:∀p∈U9,s.heap.get? p.1=some p.2/\H p.1=none/\p.1≠X.env.locals/\p.1 ∉ X.fs/\∀v,p.2.data≠.cell v):Inv X U9 O H s :=
 ⟨I.ok,I.os,I.bare,I.base,I.loc,I.cell,I.free,I.ZF,λp hp=>(MN.mp hp).elim (λz=>I.pin p (N6 _ z)) (h p),I.hok,I.len⟩
def oB {N:List Str}(hN:N.Nodup){i j:Nat}{x:Str}(a:N[i]?=some x)(b:N[j]?=some x):i=j:=by obtain⟨h1,e1⟩:=MT.mp a;obtain⟨h2,e2⟩:=MT.mp b;exact(List.getElem_inj hN).mp (e1.trans e2.symm)
def kY {M:Model}{A:Around}{E:Value->Shared->Prop}{i:Nat}{x:Str}{v:V}{u:Value}{Q:Unit->Shared->Prop}(I:Inv X pins O H s)(hN:X.N.Nodup)(hi:X.N[i]?=some x)(hx:Loc X.env.scope x)(r:RelV v u)
  (h:∀s',Inv X pins (O.set i (some v)) H s'->(∃a,Heap.SameBut a s.heap s'.heap/\(a=X.env.locals\/X.env.cells.lookup x=some a))->Q () s') (hf:X.fn x=true\/X.env.scope.names.lookup x=some .local:=by first|exact .inl rfl|exact .inr rfl|assumption):wpAny M A (storeName X.env x u) Q E s:=by
 obtain⟨m,hn,hl⟩:=id I.loc;have hcls:(X.env.scope.kind == .class || (X.env.scope.kind == .module && X.env.locals != X.env.globals))=false:=by rw[I.ok.kind];rfl
 have Nx:i<O.length:=by rw[I.len];exact(MT.mp hi).1
 have V7:=I.V7;have tracked:∀ {a:Addr}{h':Heap},(∃o,s.heap.get? a=some o/\H a=none)->Heap.SameBut a s.heap h'->YX X.prog X.w H h':=λ{a h'} ha hs b ob e=>by
  obtain⟨_,_,hfree⟩:=ha;refine(I.hok b ob e).stay λw' q=>(hs.2 b ?_).trans q;rintro rfl
  simp_all
 rcases hx with hk|hk
 ·refine wpAny_storeName_local hk hn (λh' hn' hs=>?_) hcls;obtain⟨oL,_,_,hoL,_⟩:=id hn;refine h _ ⟨I.ok,I.os,I.bare,⟨λb o e n hb hx=>?_,λb o e n hb hx=>?_,I.base.free,λb o e hx=>?_,I.base.Wa⟩,⟨_,hn',λj y v' e1 e2 e3=>?_⟩,λy c e=>?_,I.free,I.ZF,λp hp=>?_,tracked ⟨oL,hoL,I.free⟩ hs,by simpa using I.len⟩ ⟨_,hs,.inl rfl⟩
  ·exact(hs.2 b (MV (ML (MQ e) I.ok.above))).trans (I.base.keep b o e n hb hx)
  ·obtain⟨sl,e1⟩:=I.base.slot b o e n hb hx;exact⟨sl,(hs.2 b (MV (ML (MQ e) I.ok.above))).trans e1⟩
  ·obtain⟨o',e1⟩:=I.base.there b o e hx;exact⟨o',(hs.2 b (MV (ML (MQ e) I.ok.above))).trans e1⟩
  ·by_cases hj:j=i
   ·subst hj;rw[hi] at e1;cases e1;rw[NG Nx] at e2;cases e2;exact⟨u,r,.inl ⟨hk,by simp⟩⟩
   ·rw[NJ (Ne.symm hj)] at e2;obtain⟨u',r',q⟩:=hl j y v' e1 e2 e3;refine⟨u',r',?_⟩;rcases q with⟨k,e⟩|⟨k,c,e,z⟩
    ·refine .inl ⟨k,?_⟩;have:y≠x:=λe=>hj (oB hN e1 (e ▸ hi));simp[*]
    ·exact .inr ⟨k,c,e,z.sameBut hs (V7 y c e)⟩
  ·obtain⟨w',z⟩:=I.cell y c e;exact⟨w',z.sameBut hs (V7 y c e)⟩
  ·obtain⟨e,n,ne,nf,d⟩:=I.pin p hp;exact⟨(hs.2 p.1 ne).trans e,n,ne,nf,d⟩
 ·have hfn:X.fn x=true:=by
   rcases hf with z|z
   ·exact z
   ·rw[z] at hk;cases hk
  obtain⟨c,hc⟩:=I.ok.has x (.inl hk);obtain⟨w',z⟩:=I.cell x c hc;refine wpAny_storeName_cell I.ok.kind hk hc z (λh' hc' hs=>?_);obtain⟨oc,hoc,Qq⟩:=id z;refine h { s with heap:=h' } ⟨I.ok,I.os,I.bare,⟨λb o e n hb hx=>?_,λb o e n hb hx=>?_,I.base.free,λb o e hx=>?_,I.base.Wa⟩,⟨m,hn.sameBut hs (Ne.symm (V7 x c hc)),λj y v' e1 e2 e3=>?_⟩,λy c' e=>?_,I.free,I.ZF,λp hp=>?_,tracked ⟨oc,hoc,I.ZF x c hc⟩ hs,by simpa using I.len⟩ ⟨c,hs,.inr hc⟩
  ·exact(hs.2 b (MV (ML (MQ e) (I.ok.cab x c hfn hc)))).trans (I.base.keep b o e n hb hx)
  ·obtain⟨sl,e1⟩:=I.base.slot b o e n hb hx;exact⟨sl,(hs.2 b (MV (ML (MQ e) (I.ok.cab x c hfn hc)))).trans e1⟩
  ·obtain⟨o',e1⟩:=I.base.there b o e hx;exact⟨o',(hs.2 b (MV (ML (MQ e) (I.ok.cab x c hfn hc)))).trans e1⟩
  ·by_cases hj:j=i
   ·subst hj;rw[hi] at e1;cases e1;rw[NG Nx] at e2;cases e2;exact⟨u,r,.inr ⟨.inl hk,c,hc,hc'⟩⟩
   ·rw[NJ (Ne.symm hj)] at e2;obtain⟨u',r',q⟩:=hl j y v' e1 e2 e3;refine⟨u',r',?_⟩;rcases q with q|⟨k,c',e,z'⟩
    ·exact .inl q
    ·refine .inr ⟨k,c',e,z'.sameBut hs ?_⟩;rintro rfl;exact hj (oB hN e1 (I.ok.inj _ _ _ e hc ▸ hi))
  ·by_cases hcc:c'=c
   ·subst hcc;exact⟨_,hc'⟩
   ·obtain⟨w2,z2⟩:=I.cell y c' e;exact⟨w2,z2.sameBut hs hcc⟩
  ·obtain⟨e,n,ne,nf,d⟩:=I.pin p hp;refine⟨(hs.2 p.1 ?_).trans e,n,ne,nf,d⟩;intro q;rw[q,hoc] at e;have q':oc=p.2:=NC e;exact d w' (by rw[<-q'];exact Qq)
def gk {M:Model}{A:Around}{E:Value->Shared->Prop}{i:Nat}{x:Str}{v:V}{u:Value}{Q:Unit->Shared->Prop}(I:Inv X pins O H s)(hN:X.N.Nodup)(hi:X.N[i]?=some x)(hx:Loc X.env.scope x)(r:RelV v u)
  (h:∀s',Inv X pins (O.set i (some v)) H s'->Q () s') (hf:X.fn x=true\/X.env.scope.names.lookup x=some .local:=by first|exact .inl rfl|exact .inr rfl|assumption):wpAny M A (storeName X.env x u) Q E s :=
 kY I hN hi hx r (λs' I' _=>h s' I') hf
def Inv.call' {s':Shared}{ch:List Addr}(I:Inv X pins O H s)(ho:s'.os=s.os)(u:Un (frs X.stack) ch H H' s.heap s'.heap)(hok:YX X.prog X.w H' s'.heap)(hg:AllBare s'.gens)
  (hch:∀b∈ch,(b∈X.ex\/X.s₀.heap.objs.size<=b)/\b≠X.env.locals/\(∀x c,X.env.cells.lookup x=some c->c≠b)/\∀p∈X.pn++pins,p.1≠b):Inv X pins O H' s':=by
 obtain⟨h',g',d',t',o'⟩:=s';have e:o'=s.os:=ho;subst e;exact I.call (g':=g') (t':=t') (d':=d') u hok hg hch
end
noncomputable abbrev XK:=Value->Option Addr->Hp->Prop
noncomputable abbrev St:=List (Option V)
noncomputable abbrev VK:=V->Hp->Prop
noncomputable abbrev TE:=St->Hp->VK->Prop
noncomputable abbrev TT:=St->Hp->(Bool->Hp->Prop)->Prop
noncomputable abbrev TA:=St->Hp->(List V->Hp->Prop)->Prop
structure Ends where
 nx:St->Hp->Prop
 rt:VK
 bk:St->Hp->Prop:=λ_ _=>False
 ct:St->Hp->Prop:=λ_ _=>False
noncomputable abbrev TS:=Ends->St->Hp->Prop
def EP (X:Cx)(pins:List (Addr × Obj))(O:St)(Q:VK)(u:Value)(s':Shared):Prop:=∃v H',Inv X pins O H' s'/\RelV v u/\Q v H'
def TP (X:Cx)(pins:List (Addr × Obj))(O:St)(Q:Bool->Hp->Prop)(b:Bool)(s':Shared):Prop:=∃H',Inv X pins O H' s'/\Q b H'
def AP (X:Cx)(pins:List (Addr × Obj))(O:St)(Q:List V->Hp->Prop)(us:List Value)(s':Shared):Prop:=∃vs H',Inv X pins O H' s'/\Vals vs us/\Q vs H'
def SP (X:Cx)(pins:List (Addr × Obj))(D:Ends)(f:Flow)(s':Shared):Prop :=
 match f with
 | .next=>∃O' H',Inv X pins O' H' s'/\D.nx O' H'
 | .brk=>∃O' H',Inv X pins O' H' s'/\D.bk O' H'
 | .cont=>∃O' H',Inv X pins O' H' s'/\D.ct O' H'
 | .ret u=>∃v O' H',Inv X pins O' H' s'/\RelV v u/\D.rt v H'
def PE (X:Cx)(e:Expr)(t:TE):Prop :=
 ∀(pins:List (Addr × Obj)) (s:Shared) (O:St) (H:Hp) (Q:VK),Inv X pins O H s->t O H Q->wpAny (model X.prog X.w) X.A (eval e X.env) (EP X pins O Q) X.xe s
def PT (X:Cx)(e:Expr)(t:TT):Prop :=
 ∀(pins:List (Addr × Obj)) (s:Shared) (O:St) (H:Hp) (Q:Bool->Hp->Prop),Inv X pins O H s->t O H Q->wpAny (model X.prog X.w) X.A (isTrue e X.env (eval e X.env)) (TP X pins O Q) X.xe s
def PW (X:Cx)(e:Expr)(t:TT):Prop :=
 ∀(whole:Sem Value) (pins:List (Addr × Obj)) (s:Shared) (O:St) (H:Hp) (Q:Bool->Hp->Prop),Inv X pins O H s->t O H Q->wpAny (model X.prog X.w) X.A (isTrue e X.env whole) (TP X pins O Q) X.xe s
def PW.pt {X:Cx}{e:Expr}{t:TT}(h:PW X e t):PT X e t:=h _
def PA (X:Cx)(es:List Expr)(t:TA):Prop :=
 ∀(pos:Pos) (pins:List (Addr × Obj)) (s:Shared) (O:St) (H:Hp) (Q:List V->Hp->Prop),Inv X pins O H s->t O H Q->wpAny (model X.prog X.w) X.A (spliced (backTo pos (starEach es X.env))) (AP X pins O Q) X.xe s
def PS (X:Cx)(st:Stmt)(t:TS):Prop :=
 ∀(pins:List (Addr × Obj)) (s:Shared) (O:St) (H:Hp) (D:Ends),Inv X pins O H s->t D O H->wpAny (model X.prog X.w) X.A (exec st X.env) (SP X pins D) X.xe s
def Xk (X:Cx)(st:List Stmt)(t:TS):Prop :=
 ∀(pins:List (Addr × Obj)) (s:Shared) (O:St) (H:Hp) (D:Ends),Inv X pins O H s->t D O H->wpAny (model X.prog X.w) X.A (execs st X.env) (SP X pins D) X.xe s
def ZP {α:Type}{t:Sem α}{Q Q':α->Shared->Prop}{M:Model}{A:Around}{E:Value->Shared->Prop}{s:Shared}(h:wpAny M A t Q E s)(hQ:∀a s,Q a s->Q' a s):wpAny M A t Q' E s:=wpAny_mono h hQ λ_ _ x=>x
section
variable {X:Cx}
noncomputable def Eg (i:Nat):TE:=λO H Q=>∃v,O[i]?=some (some v)/\Q v H
noncomputable def tC (v:V):TE:=λ_ H Q=>Q v H
def o_ {i:Nat}{x:Str}{pos:Pos}(hN:X.N[i]?=some x)(hv:SJ X.env.scope x)(hd:(x == ("__debug__":Str))=false:=by decide)(hcd:(x == ("__classdict__":Str))=false:=by decide):PE X (.Name x pos) (Eg i):=by
 intro pins s O H Q I h;obtain⟨v,e,h⟩:=h;obtain⟨m,hn,hl⟩:=I.loc;obtain⟨u,r,l⟩:=hl i x v hN e hv;have fin:EP X pins O Q u s:=⟨v,H,I,r,h⟩;rcases l with⟨hk,hm⟩|⟨hk,c,hc,hcell⟩
 ·exact wpAny_Name (wpAny_loadName_local I.ok.kind hk hn hm fin) hd
 ·rcases hk with hk|hk
  ·exact wpAny_Name (wpAny_loadName_cell I.ok.kind hk hc hcell fin) hd
  ·exact wpAny_Name (wpAny_loadName_free I.ok.kind hk hc hcell fin hcd) hd
def sP {i j pos}:PE X (.Constant (.int i) j pos) (tC (.int i)):=λ_ _ _ H _ I h=>wpAny_Constant_int ⟨.int i,H,I.tok _,⟨_,rfl⟩,h⟩
def Ly {b j pos}:PE X (.Constant (.bool b) j pos) (tC (.bl b)):=λ_ _ _ H _ I h=>Constant_bool ⟨.bl b,H,I,rfl,h⟩
def vE {j pos}:PE X (.Constant .none j pos) (tC .non):=λ_ _ _ H _ I h=>Constant_none ⟨.non,H,I,rfl,h⟩
def rO {x j pos}:PE X (.Constant (.str x) j pos) (tC (.str x)):=λ_ _ _ H _ I h=>Calls.Constant_str ⟨.str x,H,I.tok _,⟨_,rfl⟩,h⟩
def Gl (X:Cx)(x:Str):Prop:=X.env.kindOf x=some .globalImplicit
def iP {E:Value->Shared->Prop}{pins:List (Addr × Obj)}{s:Shared}{O:St}{H:Hp}{x:Str}{u:Value}{pos:Pos}{Q:Value->Shared->Prop}(I:Inv X pins O H s)(hg:Gl X x)(hm:X.mg x=some u)(h:Q u s)
  (hd:(x == ("__debug__":Str))=false:=by decide):wpAny (model X.prog X.w) X.A (eval (.Name x pos) X.env) Q E s :=
 Calls.Name_function_global I.ok.kind hg (Calls.loadGlobal_global (by rw[I.ok.glob];exact I.mod.glob.keeps I.bk) hm h) hd
def lM {E:Value->Shared->Prop}{pins:List (Addr × Obj)}{s:Shared}{O:St}{H:Hp}{x:Str}{u:Value}{pos:Pos}{Q:Value->Shared->Prop}(I:Inv X pins O H s)(hg:Gl X x)(hm:X.mg x=none)(hv:bootBuiltins x=some u)(h:Q u s)
  (hn:x≠"__name__":=by decide) (hd:(x == ("__debug__":Str))=false:=by decide):wpAny (model X.prog X.w) X.A (eval (.Name x pos) X.env) Q E s:=by
 obtain⟨mb,h1,h2⟩:=I.mod.blt;exact Calls.Name_function_global I.ok.kind hg (Calls.loadGlobal_builtin (by rw[I.ok.glob];exact I.mod.glob.keeps I.bk) hm (by rw[I.ok.blt];exact h1.keeps I.bk) ((h2 x hn).trans hv) h) hd
def sD {x:Str}{v:V}{u:Value}{pos:Pos}(hg:Gl X x)(hm:X.mg x=some u)(r:RelV v u)(hd:(x == ("__debug__":Str))=false:=by decide):PE X (.Name x pos) (tC v) :=
 λ_ _ _ H _ I h=>iP I hg hm ⟨v,H,I,r,h⟩ hd
def xT {x:Str}{v:V}{u:Value}{pos:Pos}(hg:Gl X x)(hm:X.mg x=none)(hv:bootBuiltins x=some u)(r:RelV v u)(hn:x≠"__name__":=by decide)(hd:(x == ("__debug__":Str))=false:=by decide):PE X (.Name x pos) (tC v) :=
 λ_ _ _ H _ I h=>lM I hg hm hv ⟨v,H,I,r,h⟩ hn hd
variable {a b:Expr}{ta tb:TE}{pos:Pos}
variable {tA tB':TT}{rest:List Expr}
noncomputable def LO (t u:TT):TT:=λO H Q=>t O H λc H1=>if c=true then u O H1 Q else Q false H1
noncomputable def Mh (t:TT):TT:=λO H Q=>t O H λc H1=>Q (!c) H1
def DR (ha:PT X a tA):PW X (.BoolOp .And [a] pos) tA:=by
 intro wh pins s O H Q I h;refine isTrue_and (ZP (ha pins s O H Q I h) λc s1 e=>?_);cases c with
 | true=>solve_by_elim
 | false=>exact e
def Je (ha:PT X a tA):PW X (.BoolOp .Or [a] pos) tA:=by
 intro wh pins s O H Q I h;refine isTrue_or (ZP (ha pins s O H Q I h) λc s1 e=>?_);cases c with
 | false=>solve_by_elim
 | true=>exact e
def Ie (ha:PT X a tA):PT X (.UnaryOp .Not a pos) (Mh tA):=by intro pins s O H Q I h;exact isTrue_not (ha pins s O H (λc H1=>Q (!c) H1) I h)
noncomputable def KM (ta:TE):TE:=λO H Q=>ta O H λx H1=>∃c,x=.bl c/\Q (.bl (!c)) H1
def Hx {op}{t:TE}(h:PE X a t):PE X (.BoolOp op [a] pos) t:=λpins s O H Q I hw=>BoolOp_one (h pins s O H Q I hw)
def IH (ha:PE X a ta):PE X (.UnaryOp .Not a pos) (KM ta):=by intro pins s O H Q I h;refine UnaryOp_ (ZP (ha pins s O H _ I h) λv s1 ⟨x,H1,I1,r1,q1⟩=>?_);obtain⟨c,rfl,q1⟩:=q1;cases r1;exact not_of (wpAny_truthy_bool ⟨.bl (!c),H1,I1,rfl,q1⟩)
noncomputable def tIf (t:TT)(ta tb:TE):TE:=λO H Q=>t O H λc H1=>if c=true then ta O H1 Q else tb O H1 Q
def CY {c:Expr}(hc:PT X c tA)(ha:PE X a ta)(hb:PE X b tb):PE X (.IfExp c a b pos) (tIf tA ta tb):=by
 intro pins s O H Q I h;refine wpAny_IfExp (ZP (hc pins s O H _ I h) λd s1 ⟨H1,I1,q1⟩=>?_);cases d with
 | true=>solve_by_elim
 | false=>solve_by_elim
end
def Zr (K:W.Frag)(H:Hp)(a:Addr)(xs:List V):Prop :=
 Rd H a (.lst xs) \/
  ∃(o:Obj) (its:Array Value) (n:Nat),K.lookup a=some o/\o.cls=.type "list"/\o.dict=none/\o.data=.seq its n/\its.size<=sizeLine/\Vals xs its.toList
def ZC (K:W.Frag)(H:Hp)(a:Addr)(xs:List V):Prop :=
 Rd H a (.tup xs) \/
  ∃(o:Obj) (its:Array Value) (n:Nat),K.lookup a=some o/\o.cls=.type "tuple"/\o.data=.seq its n/\its.size<=sizeLine/\Vals xs its.toList
noncomputable def LW:Value->Option V
 | .none=>some .non
 | .bool b=>some (.bl b)
 | .int i _=>some (.int i)
 | .str x _=>some (.str x)
 | .bytes b _=>some (.W_ b)
 | .float b _=>some (.flt b)
 | .ref a=>some (.ref a)
 | .type n=>some (.ty n)
 | _=>none
def RelV.abs {x:V}{u:Value}(r:RelV x u):LW u=some x:=by
 cases x with
 | non=>cases r;rfl
 | bl _=>cases r;rfl
 | int _=>obtain⟨t,rfl⟩:=r;rfl
 | str _=>obtain⟨t,rfl⟩:=r;rfl
 | W_ _=>obtain⟨t,rfl⟩:=r;rfl
 | flt _=>obtain⟨t,rfl⟩:=r;rfl
 | ref _=>cases r;rfl
 | ty _=>cases r;rfl
def RelV.inj {x y:V}{u:Value}(r:RelV x u)(q:RelV y u):x=y:=NC (r.abs.symm.trans q.abs)
theorem Vals.inj:∀ {xs ys:List V}{us:List Value},Vals xs us->Vals ys us->xs=ys
 | _,_,_,.nil,.nil=>rfl
 | _,_,_,.cons r t,.cons r' t'=>by rw[r.inj r',Vals.inj t t']
section
variable {X:Cx}{pins:List (Addr × Obj)}{O:St}{H:Hp}{s:Shared}{a:Addr}{xs ys:List V}
def Zr.of {K:W.Frag}(h:H a=some (.lst xs)):Zr K H a xs:=.inl (.inl h)
def ZC.of {K:W.Frag}(h:H a=some (.tup xs)):ZC K H a xs:=.inl (.inl h)
def Inv.list (I:Inv X pins O H s)(h:Zr X.K H a xs):∃its:List Value,Vals xs its/\PlainL s.heap a its.toArray/\xs.length<=sizeLine:=by
 rcases h with h|⟨o,its,n,hk,hc,hd,hs,hz,r⟩
 ·obtain⟨z,its,n,r,e⟩:=h.ok I.hok;exact⟨its,r,⟨_,n,e,rfl,rfl,rfl⟩,z⟩
 ·refine⟨its.toList,r,⟨o,n,I.X8 a o hk,hc,hd,by assumption⟩,?_⟩;have e:=r.length;simp[*]
def Inv.tuple (I:Inv X pins O H s)(h:ZC X.K H a xs):∃its:List Value,Vals xs its/\IsTup s.heap a its.toArray/\xs.length<=sizeLine:=by
 rcases h with h|⟨o,its,n,hk,hc,hs,hz,r⟩
 ·obtain⟨z,its,r,p⟩:=h.ok I.hok;exact⟨its,r,p,z⟩
 ·refine⟨its.toList,r,⟨o,I.X8 a o hk,hc,n,by assumption⟩,?_⟩;have e:=r.length;simp[*]
def Inv.We (I:Inv X pins O H s)(h:Zr X.K H a xs)(h':Zr X.K H a ys):xs=ys:=by
 obtain⟨its,r,⟨o,n,e,_,_,d⟩,_⟩:=I.list h;obtain⟨its',r',⟨o',n',e',_,_,d'⟩,_⟩:=I.list h';rw[e] at e';cases e';rw[d] at d';injection d' with d1 _
 have:its=its':=by simpa using NS Array.toList d1
 subst this;exact r.inj r'
def Inv.Yc (I:Inv X pins O H s)(h:ZC X.K H a xs)(h':ZC X.K H a ys):xs=ys:=by
 obtain⟨its,r,⟨o,e,_,n,d⟩,_⟩:=I.tuple h;obtain⟨its',r',⟨o',e',_,n',d'⟩,_⟩:=I.tuple h';rw[e] at e';cases e';rw[d] at d';injection d' with d1 _
 have:its=its':=by simpa using NS Array.toList d1
 subst this;exact r.inj r'
end
noncomputable abbrev Cx.wish (X:Cx)(E:Value->Shared->Prop):Cx:={ X with xe:=E }
noncomputable abbrev Cx.Zi (X:Cx):Cx:=X.wish λ_ _=>False
theorem Cx.Ok.wish {X:Cx}(ok:X.Ok)(E:Value->Shared->Prop):(X.wish E).Ok :=
 ⟨ok.mod,ok.kind,ok.glob,ok.blt,ok.above,ok.inj,ok.has,ok.cab,ok.hd,ok.frames,ok.stk,ok.VD,ok.bs,ok.WW,ok.Yo,ok.Yl,ok.Y4,ok.Wm⟩
def Cx.Ok.ZZ {X:Cx}{E:Value->Shared->Prop}(ok:(X.wish E).Ok):X.Ok :=
 ⟨ok.mod,ok.kind,ok.glob,ok.blt,ok.above,ok.inj,ok.has,ok.cab,ok.hd,ok.frames,ok.stk,ok.VD,ok.bs,ok.WW,ok.Yo,ok.Yl,ok.Y4,ok.Wm⟩
section
variable {X:Cx}{pins:List (Addr × Obj)}{O:St}{H:Hp}{s:Shared}{E:Value->Shared->Prop}
theorem Inv.wish (I:Inv X pins O H s)(E:Value->Shared->Prop):Inv (X.wish E) pins O H s:=⟨I.ok.wish E,I.os,I.bare,I.base,I.loc,I.cell,I.free,I.ZF,I.pin,I.hok,I.len⟩
theorem Inv.ZZ (I:Inv (X.wish E) pins O H s):Inv X pins O H s:=⟨I.ok.ZZ,I.os,I.bare,I.base,I.loc,I.cell,I.free,I.ZF,I.pin,I.hok,I.len⟩
theorem SP.ZZ {D:Ends}{f:Flow}{s':Shared}(h:SP (X.wish E) pins D f s'):SP X pins D f s':=by
 cases f with
 | next=>obtain⟨O',H',I,q⟩:=h;exact⟨O',H',I.ZZ,q⟩
 | brk=>obtain⟨O',H',I,q⟩:=h;exact⟨O',H',I.ZZ,q⟩
 | cont=>obtain⟨O',H',I,q⟩:=h;exact⟨O',H',I.ZZ,q⟩
 | ret u=>obtain⟨v,O',H',I,r,q⟩:=h;exact⟨v,O',H',I.ZZ,r,q⟩
theorem Xk.Zi {st:List Stmt}{t:TS}(h:Xk X.Zi st t):Xk X st t:=λpins s O H D I hw =>
 wpAny_mono (h pins s O H D (I.wish _) hw) (λ_ _ q=>q.ZZ) λ_ _ z=>ac z
end
section
variable {X:Cx}{st:Stmt}{rest:List Stmt}{t u:TS}{e:Expr}{te:TE}{pos:Pos}
noncomputable def J6:TS:=λD O H=>D.nx O H
noncomputable def LG (t u:TS):TS:=λD O H=>t { D with nx:=u D } O H
def yA:Xk X [] J6:=λ_ _ O H _ I h=>wpAny_execs_nil ⟨O,H,I,h⟩
def oz (h1:PS X st t)(h2:Xk X rest u):Xk X (st::rest) (LG t u):=by
 intro pins s O H D I h;refine wpAny_execs_cons (ZP (h1 pins s O H { D with nx:=u D } I h) λf s1 q=>?_);cases f with
 | next =>
  obtain⟨O',H',I',q⟩:=q
  solve_by_elim
 | ret v=>exact q
 | brk=>exact q
 | cont=>exact q
def Inv.quiet {pins:List (Addr × Obj)}{O:St}{H:Hp}{s:Shared}(I:Inv X pins O H s):interactive X.env=false:=by simp[interactive,I.ok.kind]
noncomputable def Kd (te:TE):TS:=λD O H=>te O H λ_ H1=>D.nx O H1
def xZ (he:PE X e te)(hs:swapsWith e none pos.line X.env=pure false:=by rfl):PS X (.Expr e pos) (Kd te):=by intro pins s O H D I h;exact wpAny_Expr_any (ZP (he pins s O H _ I h) λv s1 ⟨x,H1,I1,r1,q1⟩=>⟨O,H1,I1,q1⟩) I.quiet hs
noncomputable def LH (te:TE):TS:=λD O H=>te O H D.rt
def B_ (he:PE X e te):PS X (.Return (some e) pos) (LH te):=by intro pins s O H D I h;exact wpAny_Return_some (ZP (he pins s O H _ I h) λv s1 ⟨x,H1,I1,r1,q1⟩=>⟨x,O,H1,I1,r1,q1⟩)
noncomputable def Me (c:TT)(t u:TS):TS:=λD O H=>c O H λb H1=>if b=true then t D O H1 else u D O H1
def Kv {c:Expr}{a b:List Stmt}{tc:TT}(hc:PT X c tc)(ha:Xk X a t)(hb:Xk X b u):PS X (.If c a b pos) (Me tc t u):=by
 intro pins s O H D I h;refine wpAny_If (ZP (hc pins s O H _ I h) λd s1 ⟨H1,I1,q1⟩=>?_);cases d with
 | true=>solve_by_elim
 | false=>solve_by_elim
end
noncomputable abbrev TG:=V->St->Hp->(St->Hp->Prop)->Prop
noncomputable abbrev U4:=List V->St->Hp->(St->Hp->Prop)->Prop
def PG (X:Cx)(target:Expr)(t:TG):Prop :=
 ∀(pins:List (Addr × Obj)) (s:Shared) (O:St) (H:Hp) (v:V) (u:Value) (Q:St->Hp->Prop),Inv X pins O H s->RelV v u->t v O H Q ->
  wpAny (model X.prog X.w) X.A (assign target X.env u) (λ_ s'=>∃O' H',Inv X pins O' H' s'/\Q O' H') X.xe s
def Su (X:Cx)(ts:List Expr)(t:U4):Prop :=
 ∀(pins:List (Addr × Obj)) (s:Shared) (O:St) (H:Hp) (vs:List V) (us:List Value) (Q:St->Hp->Prop),Inv X pins O H s->Vals vs us->t vs O H Q ->
  wpAny (model X.prog X.w) X.A (assignInOrder ((assignEach ts X.env).map (·.2)) us) (λ_ s'=>∃O' H',Inv X pins O' H' s'/\Q O' H') X.xe s
noncomputable abbrev Js:=V->V->V->Hp->(Hp->Prop)->Prop
def Hv (X:Cx)(t:Js):Prop :=
 ∀(pins:List (Addr × Obj)) (s:Shared) (O:St) (H:Hp) (o i v:V) (ov iv u:Value) (Q:Hp->Prop),Inv X pins O H s->RelV o ov->RelV i iv->RelV v u->t o i v H Q ->
  wpAny (model X.prog X.w) X.A (setItem ov iv u) (λ_ s'=>∃H',Inv X pins O H' s'/\Q H') X.xe s
noncomputable abbrev Pn:=V->V->Hp->VK->Prop
def Pk (X:Cx)(op:Operator)(t:Pn):Prop :=
 ∀(pins:List (Addr × Obj)) (s:Shared) (O:St) (H:Hp) (x y:V) (v u:Value) (Q:VK),Inv X pins O H s->RelV x v->RelV y u->t x y H Q ->
  wpAny (model X.prog X.w) X.A (inplaceOp op v u) (EP X pins O Q) X.xe s
section
variable {X:Cx}{pos:Pos}
noncomputable def Hd (i:Nat):TG:=λv O H Q=>Q (O.set i (some v)) H
def D0 {i:Nat}{x:Str}(hN:X.N.Nodup)(hi:X.N[i]?=some x)(hx:Loc X.env.scope x)(hf:X.fn x=true\/X.env.scope.names.lookup x=some .local:=by first|exact .inl rfl|exact .inr rfl|assumption):PG X (.Name x pos) (Hd i):=by intro pins s O H v u Q I r h;exact wpAny_assign_Name (gk I hN hi hx r (λs' I'=>⟨_,H,I',h⟩) hf)
noncomputable def L4:U4:=λvs O H Q=>vs=[]/\Q O H
noncomputable def Kl (t:TG)(u:U4):U4:=λvs O H Q=>∃v r,vs=v::r/\t v O H λO' H'=>u r O' H' Q
def E7:Su X [] L4:=by intro pins s O H vs us Q I r h;obtain⟨e,h⟩:=h;subst e;cases r;exact assignInOrder_nil ⟨O,H,I,h⟩
def CJ {e:Expr}{es:List Expr}{t:TG}{u:U4}(h1:PG X e t)(h2:Su X es u)
  (hs:(assignEach (e::es) X.env).map (·.2)=assign e X.env::(assignEach es X.env).map (·.2):=by rfl):Su X (e::es) (Kl t u):=by
 intro pins s O H vs us Q I r h;obtain⟨v,vr,e1,h⟩:=h;subst e1;cases r with
 | cons r rr =>
  rw[hs];refine assignInOrder_cons (ZP (h1 pins s O H _ _ _ I r h) λ_ s1 ⟨O1,H1,I1,q1⟩=>?_)
  solve_by_elim
noncomputable def L3 (K:W.Frag)(n:Nat)(t:U4):TG:=λv O H Q=>∃a xs,v=.ref a/\ZC K H a xs/\xs.length=n/\t xs O H Q
def Jx {es:List Expr}{k:Nat}{t:U4}{n:Nat}(hc:X.calm=true)(h:Su X es t)
  (hn:(assignEach es X.env).length=n:=by rfl) (hst:(assignEach es X.env).findIdx? (·.1)=none:=by rfl):PG X (.Tuple es k pos) (L3 X.K n t):=by
 intro pins s O H v u Q I r hw;obtain⟨a,xs,e1,hq,hl,hw⟩:=hw;subst e1;cases r;obtain⟨its,rv,ht,hz⟩:=I.tuple hq;refine assign_Tuple_tuple (I.ok.hd hc) ht (by simp[hn,<-hl,rv.length]) hst λh' hx=>?_;have I1:Inv X pins O H { s with heap:=h' }:=I.kept (t':=s.toks) λb o e=>hx b o (MV (MQ e)) e
 solve_by_elim
noncomputable def Mb (to ti:TE)(t:Js):TG:=λv O H Q=>to O H λo H1=>ti O H1 λi H2=>t o i v H2 λH3=>Q O H3
def Im {o i:Expr}{to ti:TE}{t:Js}(ho:PE X o to)(hi:PE X i ti)(hs:Hv X t)
  (ha:∀v,assign (.Subscript o i pos) X.env v=(do
   let ov <-holding [v] (eval o X.env);let iv <-holding [v,ov] (eval i X.env)
   standAt pos
   holding [v,ov,iv] (setItem ov iv v)
   release [v,ov,iv] []):=by intro _;rfl):PG X (.Subscript o i pos) (Mb to ti t):=by
 intro pins s O H v u Q I r h;rw[ha];refine MA (NU (ZP (ho pins s O H _ I h) λov s1 ⟨x,H1,I1,r1,q1⟩=>?_));refine MA (NU (ZP (hi pins s1 O H1 _ I1 q1) λiv s2 ⟨y,H2,I2,r2,q2⟩=>?_));refine MA (wpAny_standAt (MA (NU (ZP (hs pins s2 O H2 x y v ov iv u _ I2 r1 r2 r q2) λ_ s3 ⟨H3,I3,q3⟩=>?_))));exact wpAny_release ⟨O,H3,I3,q3⟩
noncomputable def Jm (te:TE)(g:TG):TS:=λD O H=>te O H λx H1=>g x O H1 D.nx
def Ax {tg e:Expr}{te:TE}{g:TG}(he:PE X e te)(hg:PG X tg g)(hs:swapsWithSole [tg] e pos.line X.env=pure false:=by rfl)(hw:swappedStores [tg] e X.env=pure none:=by rfl)
  (h1:(assignEach [tg] X.env).map (·.2)=[assign tg X.env]:=by rfl):PS X (.Assign [tg] e pos) (Jm te g):=by
 intro pins s O H D I h;refine wpAny_Assign_stores (ZP (he pins s O H _ I h) λv s1 ⟨x,H1,I1,r1,q1⟩=>?_) hs hw;rw[h1]
 solve_by_elim
def sZ {i:Nat}{x:Str}{e:Expr}{te:TE}{pos':Pos}(hN:X.N.Nodup)(hi:X.N[i]?=some x)(hx:Loc X.env.scope x)(he:PE X e te)(hs:swapsWith e (some (.Name x pos')) pos.line X.env=pure false:=by rfl)(hf:X.fn x=true\/X.env.scope.names.lookup x=some .local:=by first|exact .inl rfl|exact .inr rfl|assumption) :
  PS X (.Assign [.Name x pos'] e pos) (Jm te (Hd i)):=by
 intro pins s O H D I h;refine wpAny_Assign_Name (ZP (he pins s O H _ I h) λv s1 ⟨y,H1,I1,r1,q1⟩=>?_) hs;exact gk I1 hN hi hx r1 (λs2 I2=>⟨_,H1,I2,q1⟩) hf
noncomputable def L6 (i j:Nat)(ta:TA):TS:=λD O H=>ta O H λvs H1=>∃v w,vs=[v,w]/\D.nx ((O.set i (some v)).set j (some w)) H1
def Jc {i j:Nat}{x y:Str}{a b:Expr}{ta:TA}{px py pt:Pos}{kt k2 Tj}(hc:X.calm=true)(hN:X.N.Nodup)(hi:X.N[i]?=some x)(hj:X.N[j]?=some y)(hij:i≠j)
  (hx:X.env.scope.names.lookup x=some .local) (hy:X.env.scope.names.lookup y=some .local) (ha:PA X [a,b] ta)
  (hw:swappedStores [.Tuple [.Name x px,.Name y py] kt pt] (.Tuple [a,b] k2 Tj) X.env=pure (some [x,y]))
  (hs:swapsWithSole [.Tuple [.Name x px,.Name y py] kt pt] (.Tuple [a,b] k2 Tj) pos.line X.env=pure false:=by rfl) :
  PS X (.Assign [.Tuple [.Name x px,.Name y py] kt pt] (.Tuple [a,b] k2 Tj) pos) (L6 i j ta):=by
 intro pins s O H D I h;rw[exec_Assign_arm];refine MA (wpAny_standAt ?_);rw[hs];refine MA (MC ?_);rw[MM (by decide)];refine MA (Tuple_ (ZP (ha _ pins s O H _ I h) λus s1 ⟨vs,H1,I1,r1,q1⟩=>?_));obtain⟨v,w,e1,q1⟩:=q1;subst e1;obtain⟨u1,u2,rfl,rv,rw'⟩:∃u1 u2,us=[u1,u2]/\RelV v u1/\RelV w u2:=by
  cases r1 with
  | cons p q =>
   cases q with
   | cons p' q' =>cases q';exact⟨_,_,rfl,p,p'⟩
 refine wpAny_newObj_type ?_ (by show 2<=sizeLine;decide);have I2:Inv X pins O H1 { s1 with heap:=s1.heap.push { cls:=.type "tuple",data:=.seq [u1,u2].toArray } }:=I1.kept (t':=s1.toks) λb o e=>MB _ e;rw[hw];refine MA (MC ?_);show wpAny (model X.prog X.w) X.A (do rule "assign.swapped-stores";let items <-unpackItems (.ref s1.heap.objs.size) 2 none;assignInOrder [λv=>bindName X.env y v,λv=>bindName X.env x v] items.reverse;pure Flow.next) _ _ _;refine MA (wpAny_rule (MA (unpackItems_tuple (items:=#[u1,u2]) (I.ok.hd hc) (IsTup.new s1.heap _) λh' hx'=>?_)));have I3:=I2.kept (h':=h') (t':=s1.toks) λb o e=>hx' b o (MV (MQ e)) e;show wpAny _ _ (assignInOrder [λv=>bindName X.env y v,λv=>bindName X.env x v] [u2,u1] >>= λ_=>pure Flow.next) _ _ _;refine MA (assignInOrder_cons (wpAny_bindName (gk I3 hN hj (.inl hy) rw' (λs2 I4=>?_) (.inr hy))));refine assignInOrder_cons (wpAny_bindName (gk I4 hN hi (.inl hx) rv (λs3 I5=>assignInOrder_nil (MC ?_)) (.inr hx)));rw[List.set_comm _ _ (Ne.symm hij)] at I5;exact⟨_,H1,I5,q1⟩
noncomputable def LM (i:Nat)(te:TE)(ti:Pn):TS:=λD O H=>∃x,O[i]?=some (some x)/\te O H λy H1=>ti x y H1 λz H2=>D.nx (O.set i (some z)) H2
def Iy {i:Nat}{x:Str}{e:Expr}{te:TE}{op:Operator}{ti:Pn}{pos':Pos}(hN:X.N.Nodup)(hi:X.N[i]?=some x)(hx:Loc X.env.scope x)(he:PE X e te)(ho:Pk X op ti)(hf:X.fn x=true\/X.env.scope.names.lookup x=some .local:=by first|exact .inl rfl|exact .inr rfl|assumption) :
  PS X (.AugAssign (.Name x pos') op e pos) (LM i te ti):=by
 intro pins s O H D I h;obtain⟨v,e1,h⟩:=h;obtain⟨m,hn,hl⟩:=I.loc;have XH:SJ X.env.scope x:=by rcases hx with k|k;exact .inl k;exact .inr (.inl k)
 obtain⟨u,r,l⟩:=hl i x v hi e1 XH;refine wpAny_AugAssign_Name ?_;have go:wpAny (model X.prog X.w) X.A (eval e X.env) (λw s₂=>wpAny (model X.prog X.w) X.A (inplaceOp op u w) (λr s₃=>wpAny (model X.prog X.w) X.A (storeName X.env x r) (λ_=>SP X pins D .next) X.xe s₃) X.xe s₂) X.xe s:=by refine ZP (he pins s O H _ I h) λw s1 ⟨y,H1,I1,r1,q1⟩=>?_;refine ZP (ho pins s1 O H1 v y u w _ I1 r r1 q1) λz s2 ⟨zv,H2,I2,r2,q2⟩=>?_;exact gk I2 hN hi hx r2 (λs3 I3=>⟨_,H2,I3,q2⟩) hf
 rcases l with⟨hk,hm⟩|⟨hk,c,hc,hcell⟩
 ·exact wpAny_loadName_local I.ok.kind hk hn hm go
 ·rcases hk with hk|hk
  ·exact wpAny_loadName_cell I.ok.kind hk hc hcell go
  ·rcases hx with k|k
   ·have:X.env.scope.names.lookup x=some .free:=hk
    simp_all
   ·have:X.env.scope.names.lookup x=some .free:=hk
    simp_all
end
section
variable {X:Cx}{pos:Pos}
noncomputable def AA (c:TT)(tb:TS):TS:=λD O H=>∃W:Nat->St->Hp->Prop,(∃m,W m O H)/\∀m O H,W m O H ->
 c O H λb H1=>if b=true then ∃N:St->Hp->Prop,(∀O' H',N O' H'->∃m',m'<m/\W m' O' H')/\tb { D with nx:=N,ct:=N,bk:=D.nx } O H1 else D.nx O H1
def BD {c:Expr}{body:List Stmt}{tc:TT}{tb:TS}(hp:PassesOwn (model X.prog X.w) X.A X.env X.xe)(hc:PT X c tc)(hb:Xk X body tb):PS X (.While c body [] pos) (AA tc tb):=by
 intro pins s O H D I h;obtain⟨W,⟨m0,w0⟩,turn⟩:=h;refine wpAny_While (codeAny_whileLoop (λn s'=>∃O' H',Inv X pins O' H' s'/\W n O' H') ?_ m0 ⟨O,H,I,w0⟩);rintro n s1 ⟨O1,H1,I1,w1⟩;refine wpAny_passesOwn hp (ZP (hc pins s1 O1 H1 _ I1 (turn n O1 H1 w1)) λb s2 ⟨H2,I2,q2⟩=>?_);cases b with
 | true =>
  obtain⟨N,hN,q2⟩:=q2;rw[MK rfl];refine wpAny_passesOwn hp (ZP (hb pins s2 O1 H2 _ I2 q2) λf s3 q3=>?_);cases f with
  | next =>obtain⟨O3,H3,I3,n3⟩:=q3;obtain⟨m',hm,w3⟩:=hN O3 H3 n3;exact⟨m',hm,O3,H3,I3,w3⟩
  | cont =>obtain⟨O3,H3,I3,n3⟩:=q3;obtain⟨m',hm,w3⟩:=hN O3 H3 n3;exact⟨m',hm,O3,H3,I3,w3⟩
  | brk=>exact q3
  | ret v=>exact q3
 | false =>rw[MM ME];exact wpAny_execs_nil ⟨O1,H2,I2,q2⟩
end
structure It where
 go:Nat->Hp->Prop
 Rp:Nat->Hp->V->Hp->Prop
 stop:Nat->Hp->Prop
def ik (X:Cx)(pins:List (Addr × Obj))(H:Hp)(b:Addr):Prop :=
 H b=none/\b≠X.env.locals/\b ∉ X.fs/\(b∈X.ex\/X.s₀.heap.objs.size<=b)/\(∀x c,X.env.cells.lookup x=some c->c≠b)/\∀p∈X.pn++pins,p.1≠b
def Inv.Xu {X:Cx}{pins:List (Addr × Obj)}{O:St}{H H':Hp}{s:Shared}{b:Addr}(I:Inv X pins O H s)(hb:s.heap.objs.size<=b)(hn:H' b=none):ik X pins H' b:=by
 refine⟨hn,OE (ML I.lt hb),I.Uv hb,.inr (MX I.sz hb),λx c e z=>?_,λp hp z=>?_⟩
 ·obtain⟨v,q⟩:=I.cell x c e;exact absurd (ML q.lt (by simp_all)) (OY _)
 ·exact absurd (ML (MQ (I.pin p hp).1) (by simp_all)) (OY _)
structure vJ (P:Program)(w:World)(K:W.Frag)(tg:Expr)(J:It)(fp:List Addr)(it:Addr)(tn:Nat->Heap->Prop):Prop where
 mem:it∈fp
 obj:∀i h,tn i h->∀b∈fp,∃o,h.get? b=some o/\∀v,o.data≠.cell v
 keep:∀i h h',tn i h->(∀b∈fp,∀o,h.get? b=some o->h'.get? b=some o)->tn i h'
 item:∀(X:Cx),X.prog=P->X.w=w->X.K=K->X.calm=true->∀(i:Nat) (pins:List (Addr × Obj)) (s:Shared) (O:St) (H:Hp) (E:Value->Shared->Prop),Inv X pins O H s->(∀b∈fp,ik X pins H b)->tn i s.heap->J.go i H ->
  wpAny (model P w) X.A (pyNext (.ref it)) (λr s1=>∃u,r=some u /\
   wpAny (model P w) X.A (letOwnedTupleGo tg (.ref it) u) (λ_ s2=>∃x H',Inv X pins O H' s2/\RelV x u/\J.Rp i H x H'/\tn (i+1) s2.heap/\∀b∈fp,H' b=none) E s1) E s
 done:∀(X:Cx),X.prog=P->X.w=w->X.K=K->X.calm=true->∀(i:Nat) (pins:List (Addr × Obj)) (s:Shared) (O:St) (H:Hp) (E:Value->Shared->Prop),Inv X pins O H s->(∀b∈fp,ik X pins H b)->tn i s.heap->J.stop i H ->
  wpAny (model P w) X.A (pyNext (.ref it)) (λr s1=>r=none/\Inv X pins O H s1) E s
 self:∀(A:Around) (i:Nat) (s:Shared) (Q:Value->Shared->Prop) (E:Value->Shared->Prop),tn i s.heap->Q (.ref it) s->wpAny (model P w) A (pyIter (.ref it)) Q E s
noncomputable abbrev TI:=St->Hp->(It->Hp->Prop)->Prop
def PIE (X:Cx)(pins:List (Addr × Obj))(O:St)(tg:Expr)(R:It->Hp->Prop)(itv:Value)(s2:Shared):Prop :=
 ∃(it:Addr) (fp:List Addr) (tn:Nat->Heap->Prop) (J:It) (H':Hp),itv=.ref it/\Inv X pins O H' s2/\vJ X.prog X.w X.K tg J fp it tn/\tn 0 s2.heap/\(∀b∈fp,ik X pins H' b)/\R J H'
def PI (X:Cx)(tg iter:Expr)(wi:TI):Prop :=
 ∀(pins:List (Addr × Obj)) (s:Shared) (O:St) (H:Hp) (R:It->Hp->Prop),Inv X pins O H s->wi O H R ->
  wpAny (model X.prog X.w) X.A (eval iter X.env) (λv s1=>wpAny (model X.prog X.w) X.A (pyIter v) (PIE X pins O tg R) X.xe s1) X.xe s
def vq {M:Model}{A:Around}{E:Value->Shared->Prop}{s:Shared}{tg:Expr}{it:Addr}{u:Value}{o:Obj}{n:String}{vs:Array Value}{Q:Unit->Shared->Prop}(ho:s.heap.get? it=some o)(hc:o.cls=.type n)(hd:o.data=.fields vs)
  (hn:["enumerate","zip","dict_itemiterator","dict_reverseitemiterator","odict_iterator","itertools.zip_longest","itertools.pairwise"].contains n=false) (hQ:Q () s):wpAny M A (letOwnedTupleGo tg (.ref it) u) Q E s:=by
 unfold letOwnedTupleGo;cases tg <;> first
  | exact MC hQ
  | (cases u <;> first
    | exact MC hQ
    | (refine MA (wpAny_load ho ?_)
       rw[hc,hd];show wpAny M A (if (["enumerate","zip","dict_itemiterator","dict_reverseitemiterator","odict_iterator","itertools.zip_longest","itertools.pairwise"].contains n && vs[0]? == some (rawInt _))=true then _ else _) Q E s;rw[MM (by intro h;rw[hn,QH] at h;cases h)];exact MC hQ))
noncomputable def Rq (K:W.Frag)(a:Addr):It :=
 ⟨λi H=>∃xs x,Zr K H a xs/\xs[i]?=some x,λi H x H'=>H'=H/\∀xs,Zr K H a xs->xs[i]?=some x,λi H=>∃xs,Zr K H a xs/\xs.length<=i⟩
noncomputable def Ph (K:W.Frag)(a:Addr):It :=
 ⟨λi H=>∃xs x,ZC K H a xs/\xs[i]?=some x,λi H x H'=>H'=H/\∀xs,ZC K H a xs->xs[i]?=some x,λi H=>∃xs,ZC K H a xs/\xs.length<=i⟩
noncomputable def Ru (lo:Int)(n:Nat):It:=⟨λi _=>i<n,λi H x H'=>H'=H/\x=.int (lo+i),λi _=>n<=i⟩
def ze {P:Program}{w:World}{K:W.Frag}{tg:Expr}(a it:Addr):vJ P w K tg (Rq K a) [it] it (λi h=>h.IsListIter it a i) where
 mem:=by simp
 obj:=λi h st b hb=>by
  have e:b=it:=by simpa using hb
  subst e;obtain⟨o,e,c,d⟩:=st;exact⟨o,e,λv z=>by simp_all⟩
 keep:=λi h h' st k=>st.at λo e=>k it (by simp) o e
 item:=by intro X hP hw hK hc i pins s O H E I hf st hg;subst hP hw hK;obtain⟨xs,x,hq,hx⟩:=hg;obtain⟨its,rv,p,hz⟩:=I.list hq;obtain⟨u,hu,ru⟩:=rv.get hx;obtain⟨f0,f1,f2,f3,f4,f5⟩:=hf it (by simp);refine wpAny_pyNext_list_item st p.isList (x:=u) (by simpa using hu) λh' st' sb=>?_;have I1:Inv X pins O H { s with heap:=h' }:=I.turned (t':=s.toks) (λb o hb e=>(sb.2 b hb).trans e) f0 f1 f3 f4 f5;obtain⟨o,e,c,d⟩:=id st';exact⟨u,rfl,vq (s:={ s with heap:=h' }) e c d (by decide) ⟨x,H,I1,ru,⟨rfl,λys hy=>by rw[I.We hy hq];exact hx⟩,st',λb hb=>(hf b hb).1⟩⟩
 done:=by intro X hP hw hK hc i pins s O H E I hf st hg;subst hP hw hK;obtain⟨xs,hq,hx⟩:=hg;obtain⟨its,rv,p,hz⟩:=I.list hq;obtain⟨f0,f1,f2,f3,f4,f5⟩:=hf it (by simp);have hl:=rv.length;exact wpAny_pyNext_list_end (I.ok.hd hc) st p.isList (by simp;simp_all) λh' eb=>⟨rfl,I.turned (t':=s.toks) (λb o hb e=>eb b o hb e) f0 f1 f3 f4 f5⟩
 self:=λ_ _ _ _ _ st h=>wpAny_pyIter_listiter st h
def wD {P:Program}{w:World}{K:W.Frag}{tg:Expr}(a it:Addr):vJ P w K tg (Ph K a) [it] it (λi h=>h.IsTupleIter it a i) where
 mem:=by simp
 obj:=λi h st b hb=>by
  have e:b=it:=by simpa using hb
  subst e;obtain⟨o,e,c,d⟩:=st;exact⟨o,e,λv z=>by simp_all⟩
 keep:=λi h h' st k=>st.at λo e=>k it (by simp) o e
 item:=by intro X hP hw hK hc i pins s O H E I hf st hg;subst hP hw hK;obtain⟨xs,x,hq,hx⟩:=hg;obtain⟨its,rv,p,hz⟩:=I.tuple hq;obtain⟨u,hu,ru⟩:=rv.get hx;obtain⟨f0,f1,f2,f3,f4,f5⟩:=hf it (by simp);refine wpAny_pyNext_tuple_item st (show s.heap.IsTuple a its.toArray from p) (x:=u) (by simpa using hu) λh' st' sb=>?_;have I1:Inv X pins O H { s with heap:=h' }:=I.turned (t':=s.toks) (λb o hb e=>(sb.2 b hb).trans e) f0 f1 f3 f4 f5;obtain⟨o,e,c,d⟩:=id st';exact⟨u,rfl,vq (s:={ s with heap:=h' }) e c d (by decide) ⟨x,H,I1,ru,⟨rfl,λys hy=>by rw[I.Yc hy hq];exact hx⟩,st',λb hb=>(hf b hb).1⟩⟩
 done:=by intro X hP hw hK hc i pins s O H E I hf st hg;subst hP hw hK;obtain⟨xs,hq,hx⟩:=hg;obtain⟨its,rv,p,hz⟩:=I.tuple hq;obtain⟨f0,f1,f2,f3,f4,f5⟩:=hf it (by simp);have hl:=rv.length;exact wpAny_pyNext_tuple_end (I.ok.hd hc) st (show s.heap.IsTuple a its.toArray from p) (by simp;omega) λh' eb=>⟨rfl,I.turned (t':=s.toks) (λb o hb e=>eb b o hb e) f0 f1 f3 f4 f5⟩
 self:=λ_ _ _ _ _ st h=>wpAny_pyIter_tupleiter st h
def wZ {P:Program}{w:World}{K:W.Frag}{tg:Expr}(it:Addr)(lo:Int)(n:Nat):vJ P w K tg (Ru lo n) [it] it (λi h=>IsRangeIter h it (lo+(i:Nat)*1) ((n:Int)-(i:Nat)) 1) where
 mem:=by simp
 obj:=λi h st b hb=>by
  simp_all
 keep:=λi h h' st k=>k it (by simp) _ st
 item:=by intro X hP hw hK hc i pins s O H E I hf st hg;subst hP hw hK;obtain⟨f0,f1,f2,f3,f4,f5⟩:=hf it (by simp);have W:=Walks.range (prog:=X.prog) (w:=X.w) (I.ok.hd hc) it lo 1 n;refine W.item i s _ _ hg st λv h' tk hv st' kk=>?_;obtain⟨t,rfl⟩:=hv;have I1:Inv X pins O H { s with heap:=h',toks:=tk }:=I.turned (λb o hb e=>kk b o (by simpa using hb) e) f0 f1 f3 f4 f5;refine ⟨_,rfl,vq (s:={ s with heap:=h',toks:=tk }) (n:="range_iterator") st' rfl rfl (by decide) ⟨.int (lo+i),H,I1,⟨t,?_⟩,⟨rfl,rfl⟩,st',λb hb=>(hf b hb).1⟩⟩;simp
 done:=by intro X hP hw hK hc i pins s O H E I hf st hg;subst hP hw hK;obtain⟨f0,f1,f2,f3,f4,f5⟩:=hf it (by simp);exact wpAny_pyNext_range_end (I.ok.hd hc) st (by have:n<=i:=hg;lia) λh' eb=>⟨rfl,I.turned (t':=s.toks) (λb o hb e=>eb b o hb e) f0 f1 f3 f4 f5⟩
 self:=λ_ _ _ _ _ st h=>wpAny_pyIter_rangeiter st h
section
variable {X:Cx}{tg:Expr}
def Dt {pins:List (Addr × Obj)}{O:St}{H:Hp}{s:Shared}{R:It->Hp->Prop}{E:Value->Shared->Prop}{lo hi:Int}{t u v:Tok}{tk:Nat}(I:Inv X pins O H s)(h1:-(2 ^ 62)<=lo)(h2:lo<2 ^ 62)(h3:-(2 ^ 62)<=hi)(h4:hi<2 ^ 62)
  (q:R (Ru lo (hi-lo).toNat) H):wpAny (model X.prog X.w) X.A (pyIter (.ref s.heap.objs.size)) (PIE X pins O tg R) E { s with heap:=s.heap.push { cls:=.type "range",data:=.fields #[.int lo t,.int hi u,.int 1 v] },toks:=tk }:=by
 refine wpAny_pyIter_range (IsRange.new ..) (small_one h1 h2 h3 h4) ?_;have I1:Inv X pins O H { s with heap:=s.heap.push { cls:=.type "range",data:=.fields #[.int lo t,.int hi u,.int 1 v] },toks:=tk }:=I.kept λb o e=>MB _ e;refine ⟨(s.heap.push { cls:=.type "range",data:=.fields #[.int lo t,.int hi u,.int 1 v] }).objs.size,[(s.heap.push { cls:=.type "range",data:=.fields #[.int lo t,.int hi u,.int 1 v] }).objs.size],_,_,H,rfl,
  I1.kept (t':=tk) λb o e=>MB _ e,wZ _ lo (hi-lo).toNat,?_,λb hb=>?_,q⟩
 ·have e1:lo+((0:Nat):Int)*1=lo:=by simp
  have e2:(((hi-lo).toNat:Nat):Int)-((0:Nat):Int)=Builtin.Range.rangeSize lo hi 1:=by rw[rangeSize_one];split <;> omega
  show IsRangeIter _ _ (lo+((0:Nat):Int)*1) ((((hi-lo).toNat:Nat):Int)-((0:Nat):Int)) 1;rw[e1,e2];exact MH _ rfl
 ·have e:b=(s.heap.push { cls:=.type "range",data:=.fields #[.int lo t,.int hi u,.int 1 v] }).objs.size:=by simpa using hb
  subst e;exact I1.Xu (MJ _) (I1.hok.fresh (MJ _))
noncomputable def JQ (ta:TA):TI:=λO H R=>ta O H λvs H1=>∃j:Int,vs=[.int j]/\-(2 ^ 62)<=j/\j<2 ^ 62/\R (Ru 0 j.toNat) H1
def zQ {a:Expr}{ta:TA}{p pos:Pos}(hg:Gl X "range")(hm:X.mg "range"=none)(ha:PA X [a] ta)(hs:starEach [a] X.env=[(false,eval a X.env)]:=by rfl):PI X tg (.Call (.Name "range" p) [a] [] pos) (JQ ta):=by
 intro pins s O H R I h;refine Call_ (lM I hg hm boot_range (OF (ZP (ha pos pins s O H _ I h) λus s1 ⟨vs,H1,I1,r1,q1⟩=>?_) hs rfl));obtain⟨j,e,q1,q2,q⟩:=q1;subst e;cases r1 with
 | cons r rr =>cases rr;obtain⟨t,rfl⟩:=r;exact call_range_1 (Dt I1 (by simp) (by simp) q1 q2 (by simpa using q))
noncomputable def Lo (wi:TI)(g:TG)(tb:TS):TS:=λD O H=>wi O H λJ H1=>∃W:Nat->Nat->St->Hp->Prop,(∃m,W 0 m O H1)/\∀i m O H,W i m O H ->
 (J.stop i H/\D.nx O H)\/(J.go i H/\∃N:St->Hp->Prop,(∀O' H',N O' H'->∃m',m'<m/\W (i+1) m' O' H')/\∀x H',J.Rp i H x H'->g x O H' λO2 H2=>tb { D with nx:=N,ct:=N,bk:=D.nx } O2 H2)
noncomputable def nP (fp:List Addr)(h:Heap):List (Addr × Obj):=fp.filterMap λb=>(h.get? b).map λo=>(b,o)
def gE {fp:List Addr}{h:Heap}{b:Addr}{o:Obj}(hb:b∈fp)(e:h.get? b=some o):(b,o)∈nP fp h:=OM.mpr ⟨b,hb,by rw[e];rfl⟩
def zG {fp:List Addr}{h:Heap}{p:Addr × Obj}(hp:p∈nP fp h):p.1∈fp/\h.get? p.1=some p.2:=by
 obtain⟨b,hb,e⟩:=OM.mp hp;cases q:h.get? b with
 | none=>simp_all
 | some o =>rw[q] at e;have e':(b,o)=p:=NC e;subst e';exact⟨hb,q⟩
def Inv.pinned {pins:List (Addr × Obj)}{O:St}{H:Hp}{s:Shared}{fp:List Addr}(I:Inv X pins O H s)(hf:∀b∈fp,ik X pins H b)(ho:∀b∈fp,∃o,s.heap.get? b=some o/\∀v,o.data≠.cell v):Inv X (pins++nP fp s.heap) O H s :=
 I.W6 λp hp=>(MN.mp hp).elim (λz=>I.pin p (NF _ z)) λz=>by obtain⟨hb,e⟩:=zG z;obtain⟨f0,f1,f2,_⟩:=hf p.1 hb;obtain⟨o,e',d⟩:=ho p.1 hb;rw[e] at e';cases e';exact⟨e,f0,f1,f2,d⟩
def Inv.YJ {pins pl:List (Addr × Obj)}{O:St}{H:Hp}{s:Shared}(I:Inv X (pins++pl) O H s):Inv X pins O H s:=I.W6 λp hp=>I.pin p (NF _ (N6 _ hp))
def Ip {iter:Expr}{body:List Stmt}{wi:TI}{g:TG}{tb:TS}{pos:Pos}(hp:PassesOwn (model X.prog X.w) X.A X.env X.xe)(hc:X.calm=true)(hi:PI X tg iter wi)(hg:PG X tg g)(hb:Xk X body tb)
  (hs:∀x,foldedSetIterable iter X.env x=pure x:=by intro _;rfl):PS X (.For tg iter body [] pos) (Lo wi g tb):=by
 intro pins s O H D I h;refine wpAny_For (ZP (hi pins s O H _ I h) λv s1 h1=>ZP h1 λitv s2 h2=>?_) hs;obtain⟨it,fp,tn,J,H2,e,I2,T,st2,f2,W,⟨m0,w0⟩,turn⟩:=h2;subst e;have stat:∀ {H':Hp},(∀b∈fp,H' b=none)->∀b∈fp,ik X pins H' b:=λhn b hb=>⟨hn b hb,(f2 b hb).2⟩;refine codeAny_forLoop_any (λn s'=>∃i O' H',Inv X pins O' H' s'/\tn i s'.heap/\(∀b∈fp,H' b=none)/\W i n O' H') ?_ m0 ⟨0,O,H2,I2,st2,λb hb=>(f2 b hb).1,w0⟩;rintro n s3 ⟨i,O3,H3,I3,st3,Nq,w3⟩;rcases turn i n O3 H3 w3 with⟨stop,qn⟩|⟨go,N,hN,step⟩
 ·refine wpAny_passesOwn hp (ZP (T.done X rfl rfl rfl hc i pins s3 O3 H3 X.xe I3 (stat Nq) st3 stop) λr s4 ⟨hr,I4⟩=>?_);subst hr;exact wpAny_execs_nil ⟨O3,H3,I4,qn⟩
 ·refine wpAny_passesOwn hp (ZP (T.item X rfl rfl rfl hc i pins s3 O3 H3 X.xe I3 (stat Nq) st3 go) λr s4 ⟨u,hr,h4⟩=>?_);subst hr;refine wpAny_passesOwn hp (ZP h4 λ_ s5 ⟨x,H5,I5,r5,y5,Yb,Pu⟩=>?_);have Pb:=I5.pinned (stat Pu) (T.obj _ _ Yb);refine wpAny_passesOwn hp (ZP (hg _ s5 O3 H5 x u _ Pb r5 (step x H5 y5)) λ_ s6 ⟨O6,H6,I6,q6⟩=>?_);refine wpAny_passesOwn hp (ZP (hb _ s6 O6 H6 _ I6 q6) λf s7 q7=>?_);have again:∀ {O7:St}{H7:Hp},Inv X (pins++nP fp s5.heap) O7 H7 s7->N O7 H7->∃m,m<n/\∃i O' H',Inv X pins O' H' s7/\tn i s7.heap/\(∀b∈fp,H' b=none)/\W i m O' H':=λ{O7 H7} I7 n7=>by obtain⟨m',hm,w7⟩:=hN O7 H7 n7;refine⟨m',hm,i+1,O7,H7,I7.YJ,T.keep _ _ _ Yb λb hb o e=>(I7.pin (b,o) (NF _ (NF _ (gE hb e)))).1,λb hb=>?_,w7⟩;obtain⟨o,e,d⟩:=T.obj _ _ Yb b hb;exact(I7.pin (b,o) (NF _ (NF _ (gE hb e)))).2.1
  cases f with
  | next=>obtain⟨O7,H7,I7,n7⟩:=q7;exact again I7 n7
  | cont=>obtain⟨O7,H7,I7,n7⟩:=q7;exact again I7 n7
  | brk=>obtain⟨O7,H7,I7,q7⟩:=q7;exact⟨O7,H7,I7.YJ,q7⟩
  | ret v=>obtain⟨x7,O7,H7,I7,r7,q7⟩:=q7;exact⟨x7,O7,H7,I7.YJ,r7,q7⟩
end
noncomputable abbrev R2:=V->V->Hp->VK->Prop
def Y9 (X:Cx)(f:Value->Value->Sem Value)(r:R2):Prop :=
 ∀(pins:List (Addr × Obj)) (s:Shared) (O:St) (H:Hp) (x y:V) (v u:Value) (Q:VK),Inv X pins O H s->RelV x v->RelV y u->r x y H Q ->
  wpAny (model X.prog X.w) X.A (f v u) (EP X pins O Q) X.xe s
def Pq (X:Cx)(f:Value->Sem Value)(r:V->Hp->VK->Prop):Prop :=
 ∀(pins:List (Addr × Obj)) (s:Shared) (O:St) (H:Hp) (x:V) (v:Value) (Q:VK),Inv X pins O H s->RelV x v->r x H Q ->
  wpAny (model X.prog X.w) X.A (f v) (EP X pins O Q) X.xe s
def cH (X:Cx)(f:Value)(r:List V->Hp->VK->Prop):Prop :=
 ∀(pins:List (Addr × Obj)) (s:Shared) (O:St) (H:Hp) (xs:List V) (us:List Value) (Q:VK),Inv X pins O H s->Vals xs us->r xs H Q ->
  wpAny (model X.prog X.w) X.A (call f us) (EP X pins O Q) X.xe s
def LJ (X:Cx)(r:V->Hp->(Bool->Hp->Prop)->Prop):Prop :=
 ∀(pins:List (Addr × Obj)) (s:Shared) (O:St) (H:Hp) (x:V) (v:Value) (Q:Bool->Hp->Prop),Inv X pins O H s->RelV x v->r x H Q ->
  wpAny (model X.prog X.w) X.A (truthy v) (TP X pins O Q) X.xe s
noncomputable def Tr (r:R2)(ta tb:TE):TE:=λO H Q=>ta O H λx H1=>tb O H1 λy H2=>r x y H2 Q
noncomputable def tUn (r:V->Hp->VK->Prop)(ta:TE):TE:=λO H Q=>ta O H λx H1=>r x H1 Q
noncomputable def rI (C:Int->Int->Prop)(g:Int->Int->V):R2:=λx y H Q=>∃i j,x=.int i/\y=.int j/\C i j/\Q (g i j) H
noncomputable def Ux (g:Int->Int->V):R2:=λx y H Q=>∃i j,x=.int i/\y=.int j/\Q (g i j) H
noncomputable def rU (g:Int->V):V->Hp->VK->Prop:=λx H Q=>∃i,x=.int i/\Q (g i) H
section
variable {X:Cx}{a b c:Expr}{ta tb tc:TE}{pos:Pos}
def IC (ha:PE X a ta)(hb:PE X b tb){pins:List (Addr × Obj)}{s:Shared}{O:St}{H:Hp}{R:V->V->Hp->Prop}(I:Inv X pins O H s)
  (h:ta O H λx H1=>tb O H1 λy H2=>R x y H2) {Q:Value->Shared->Prop}{f:Value->Value->Sem Value}
  (hf:∀v u s2 x y H2,Inv X pins O H2 s2->RelV x v->RelV y u->R x y H2->wpAny (model X.prog X.w) X.A (f v u) Q X.xe s2) :
  wpAny (model X.prog X.w) X.A (eval a X.env) (λv s₁=>wpAny (model X.prog X.w) X.A (eval b X.env) (λu s₂=>wpAny (model X.prog X.w) X.A (f v u) Q X.xe s₂) X.xe s₁) X.xe s:=by
 refine ZP (ha pins s O H _ I h) λv s1 ⟨x,H1,I1,r1,q1⟩=>?_;refine ZP (hb pins s1 O H1 _ I1 q1) λu s2 ⟨y,H2,I2,r2,q2⟩=>?_
 solve_by_elim
def Bq {op:Operator}{r:R2}(ho:Y9 X (binaryOp op) r)(ha:PE X a ta)(hb:PE X b tb):PE X (.BinOp a op b pos) (Tr r ta tb):=by intro pins s O H Q I h;exact wpAny_BinOp (IC ha hb I h λv u s2 x y H2 I2 rx ry q=>ho pins s2 O H2 x y v u Q I2 rx ry q)
def Cc {op:UnaryOp}{r:V->Hp->VK->Prop}(ho:Pq X (unaryOp op) r)(ha:PE X a ta):PE X (.UnaryOp op a pos) (tUn r ta):=by intro pins s O H Q I h;exact UnaryOp_ (ZP (ha pins s O H _ I h) λv s1 ⟨x,H1,I1,r1,q1⟩=>ho pins s1 O H1 x v Q I1 r1 q1)
def R3 {f:Value->Value->Sem Value}{C:Int->Int->Prop}{g:Int->Int->Int}
  (rule:∀(i j:Int) (t u:Tok) (s:Shared) (Q:Value->Shared->Prop) (E:Value->Shared->Prop),C i j->Q (.int (g i j) s.toks) { s with toks:=s.toks+1 }->wpAny (model X.prog X.w) X.A (f (.int i t) (.int j u)) Q E s) :
  Y9 X f (rI C λi j=>.int (g i j)):=by
 intro pins s O H x y v u Q I rx ry h;obtain⟨i,j,rfl,rfl,hc,q⟩:=h;obtain⟨t,rfl⟩:=rx;obtain⟨t',rfl⟩:=ry;exact rule i j t t' s _ _ hc ⟨.int (g i j),H,I.tok _,⟨_,rfl⟩,q⟩
def Km {f:Value->Value->Sem Value}{g:Int->Int->Int}
  (rule:∀(i j:Int) (t u:Tok) (s:Shared) (Q:Value->Shared->Prop) (E:Value->Shared->Prop),Q (.int (g i j) s.toks) { s with toks:=s.toks+1 }->wpAny (model X.prog X.w) X.A (f (.int i t) (.int j u)) Q E s) :
  Y9 X f (Ux λi j=>.int (g i j)):=by
 intro pins s O H x y v u Q I rx ry h;obtain⟨i,j,rfl,rfl,q⟩:=h;obtain⟨t,rfl⟩:=rx;obtain⟨t',rfl⟩:=ry;exact rule i j t t' s _ _ ⟨.int (g i j),H,I.tok _,⟨_,rfl⟩,q⟩
def HD {f:Value->Value->Sem Value}{g:Int->Int->Bool}
  (rule:∀(i j:Int) (t u:Tok) (s:Shared) (Q:Value->Shared->Prop) (E:Value->Shared->Prop),Q (.bool (g i j)) s->wpAny (model X.prog X.w) X.A (f (.int i t) (.int j u)) Q E s) :
  Y9 X f (Ux λi j=>.bl (g i j)):=by
 intro pins s O H x y v u Q I rx ry h;obtain⟨i,j,rfl,rfl,q⟩:=h;obtain⟨t,rfl⟩:=rx;obtain⟨t',rfl⟩:=ry;exact rule i j t t' s _ _ ⟨.bl (g i j),H,I,rfl,q⟩
def zk (i j:Int):Prop:=0<=j/\j<=1000000/\i.natAbs<2 ^ 64
def Hy:Y9 X (binaryOp .Add) (Ux λi j=>.int (i+j)):=Km λ_ _ _ _ _ _ _ q=>add_int q
def Ik:Y9 X (binaryOp .Sub) (Ux λi j=>.int (i-j)):=Km λ_ _ _ _ _ _ _ q=>sub_int q
def Ju:Y9 X (binaryOp .Mod) (rI (λ_ j=>0<j) λi j=>.int (i % j)):=R3 λi j _ _ _ _ _ hc q=>by have h1:(0:Int)<j:=hc;exact mod_int' (by lia) (by rw[Int.fmod_eq_emod_of_nonneg i (by lia)];exact q)
def HQ:Y9 X (binaryOp .Pow) (rI zk λi j=>.int (i ^ j.toNat)):=R3 λ_ _ _ _ _ _ _ hc q=>pow_int_small hc.1 hc.2.1 hc.2.2 q
def unI {f:Value->Sem Value}{g:Int->Int}
  (rule:∀(i:Int) (t:Tok) (s:Shared) (Q:Value->Shared->Prop) (E:Value->Shared->Prop),Q (.int (g i) s.toks) { s with toks:=s.toks+1 }->wpAny (model X.prog X.w) X.A (f (.int i t)) Q E s) :
  Pq X f (rU λi=>.int (g i)):=by
 intro pins s O H x v Q I rx h;obtain⟨i,rfl,q⟩:=h;obtain⟨t,rfl⟩:=rx;exact rule i t s _ _ ⟨.int (g i),H,I.tok _,⟨_,rfl⟩,q⟩
def vD:Pq X (unaryOp .USub) (rU λi=>.int (-i)):=unI λ_ _ _ _ _ q=>neg_int q
end
noncomputable def JE:V->V->Bool
 | .non,.non=>true | .non,.int _=>true | .int _,.non=>true | .non,.bl _=>true | .bl _,.non=>true | .non,.str _=>true | .str _,.non=>true
 | .int _,.int _=>true | .bl _,.bl _=>true | .str _,.str _=>true | .W_ _,.W_ _=>true
 | .int _,.str _=>true | .str _,.int _=>true | .bl _,.str _=>true | .str _,.bl _=>true
 | _,_=>false
noncomputable def rEq:R2:=λx y H Q=>JE x y=true/\Q (.bl (decide (x=y))) H
noncomputable def rNe:R2:=λx y H Q=>JE x y=true/\Q (.bl (!decide (x=y))) H
def yQ {i j:Int}:decide (V.int i=V.int j)=(i == j):=by rw[N9];simp
def AI {i j:Bool}:decide (V.bl i=V.bl j)=(i == j):=by rw[N9];simp
def yr {i j:Str}:decide (V.str i=V.str j)=(i == j):=by rw[N9];simp
def xV {i j:Array UInt8}:decide (V.W_ i=V.W_ j)=(i.toList == j.toList):=by rw[N9];simp
section
variable {X:Cx}{a b c:Expr}{ta tb tc:TE}{pos:Pos}
def aJ {pins:List (Addr × Obj)}{O:St}{H:Hp}{s:Shared}{Q:VK}{k k':Bool}(I:Inv X pins O H s)(q:Q (.bl k) H)(e:k=k'):EP X pins O Q (.bool k') s:=by subst e;exact⟨.bl k,H,I,rfl,q⟩
def AN:Y9 X (compareOp .Eq) rEq:=by
 intro pins s O H x y v u Q I rx ry h;obtain⟨hs,q⟩:=h;cases x with
 | non =>
  cases rx;cases y with
  | non=>cases ry;exact PySem.EqNone.eq_none_none (aJ I q (by simp))
  | bl j=>cases ry;exact PySem.EqNone.eq_none_bool (aJ I q (by simp))
  | int j=>obtain⟨t',rfl⟩:=ry;exact PySem.EqNone.eq_none_int (aJ I q (by simp))
  | str j=>obtain⟨t',rfl⟩:=ry;exact PySem.EqNone.eq_none_str (aJ I q (by simp))
  | _=>exact absurd (show false=true from hs) ME
 | bl i =>
  cases rx;cases y with
  | non=>cases ry;exact PySem.EqNone.eq_bool_none (aJ I q (by simp))
  | bl j=>cases ry;exact eq_bool (aJ I q AI)
  | str j=>obtain⟨t',rfl⟩:=ry;exact PySem.EqMixed.eq_bool_str (aJ I q (by simp))
  | _=>exact absurd (show false=true from hs) ME
 | int i =>
  obtain⟨t,rfl⟩:=rx;cases y with
  | non=>cases ry;exact PySem.EqNone.eq_int_none (aJ I q (by simp))
  | int j=>obtain⟨t',rfl⟩:=ry;exact eq_int (aJ I q yQ)
  | str j=>obtain⟨t',rfl⟩:=ry;exact PySem.EqMixed.eq_int_str (aJ I q (by simp))
  | _=>exact absurd (show false=true from hs) ME
 | str i =>
  obtain⟨t,rfl⟩:=rx;cases y with
  | non=>cases ry;exact PySem.EqNone.eq_str_none (aJ I q (by simp))
  | bl j=>cases ry;exact PySem.EqMixed.eq_str_bool (aJ I q (by simp))
  | int j=>obtain⟨t',rfl⟩:=ry;exact PySem.EqMixed.eq_str_int (aJ I q (by simp))
  | str j=>obtain⟨t',rfl⟩:=ry;exact eq_str (aJ I q yr)
  | _=>exact absurd (show false=true from hs) ME
 | W_ i =>
  obtain⟨t,rfl⟩:=rx;cases y with
  | W_ j=>obtain⟨t',rfl⟩:=ry;exact W.eq_bytes (aJ I q xV)
  | _=>exact absurd (show false=true from hs) ME
 | _=>cases y <;> exact absurd (show false=true from hs) ME
def Ar:Y9 X (compareOp .NotEq) rNe:=by
 intro pins s O H x y v u Q I rx ry h;obtain⟨hs,q⟩:=h;cases x with
 | non =>
  cases rx;cases y with
  | non=>cases ry;exact PySem.EqNone.ne_none_none (aJ I q (by simp))
  | bl j=>cases ry;exact PySem.EqNone.ne_none_bool (aJ I q (by simp))
  | int j=>obtain⟨t',rfl⟩:=ry;exact PySem.EqNone.ne_none_int (aJ I q (by simp))
  | str j=>obtain⟨t',rfl⟩:=ry;exact PySem.EqNone.ne_none_str (aJ I q (by simp))
  | _=>exact absurd (show false=true from hs) ME
 | bl i =>
  cases rx;cases y with
  | non=>cases ry;exact PySem.EqNone.ne_bool_none (aJ I q (by simp))
  | bl j=>cases ry;exact ne_bool (aJ I q (NS not AI))
  | str j=>obtain⟨t',rfl⟩:=ry;exact PySem.EqMixed.ne_bool_str (aJ I q (by simp))
  | _=>exact absurd (show false=true from hs) ME
 | int i =>
  obtain⟨t,rfl⟩:=rx;cases y with
  | non=>cases ry;exact PySem.EqNone.ne_int_none (aJ I q (by simp))
  | int j=>obtain⟨t',rfl⟩:=ry;exact ne_int (aJ I q (NS not yQ))
  | str j=>obtain⟨t',rfl⟩:=ry;exact PySem.EqMixed.ne_int_str (aJ I q (by simp))
  | _=>exact absurd (show false=true from hs) ME
 | str i =>
  obtain⟨t,rfl⟩:=rx;cases y with
  | non=>cases ry;exact PySem.EqNone.ne_str_none (aJ I q (by simp))
  | bl j=>cases ry;exact PySem.EqMixed.ne_str_bool (aJ I q (by simp))
  | int j=>obtain⟨t',rfl⟩:=ry;exact PySem.EqMixed.ne_str_int (aJ I q (by simp))
  | str j=>obtain⟨t',rfl⟩:=ry;exact ne_str (aJ I q (NS not yr))
  | _=>exact absurd (show false=true from hs) ME
 | W_ i =>
  obtain⟨t,rfl⟩:=rx;cases y with
  | W_ j=>obtain⟨t',rfl⟩:=ry;exact W.ne_bytes (aJ I q (NS not xV))
  | _=>exact absurd (show false=true from hs) ME
 | _=>cases y <;> exact absurd (show false=true from hs) ME
def JJ:Y9 X (compareOp .Lt) (Ux λi j=>.bl (decide (i<j))):=HD λ_ _ _ _ _ _ _ q=>lt_int q
def JV:Y9 X (compareOp .Gt) (Ux λi j=>.bl (decide (j<i))):=HD λ_ _ _ _ _ _ _ q=>gt_int q
def K7:Y9 X (compareOp .GtE) (Ux λi j=>.bl (decide (j<=i))):=HD λ_ _ _ _ _ _ _ q=>ge_int q
def zq:Y9 X (compareOp .Lt) (λx y H Q=>∃i j,x=.str i/\y=.str j/\Q (.bl (decide (i.cps.toList<j.cps.toList))) H):=by intro pins s O H x y v u Q I rx ry h;obtain⟨i,j,rfl,rfl,q⟩:=h;obtain⟨t,rfl⟩:=rx;obtain⟨t',rfl⟩:=ry;exact lt_str (aJ I q rfl)
def zM:Y9 X (compareOp .In) (λx y H Q=>∃i j,x=.str i/\y=.str j/\Q (.bl (!(Builtin.Str.occurrences j i 0 j.length 1).isEmpty)) H):=by intro pins s O H x y v u Q I rx ry h;obtain⟨i,j,rfl,rfl,q⟩:=h;obtain⟨t,rfl⟩:=rx;obtain⟨t',rfl⟩:=ry;exact in_str (aJ I q rfl)
def Jk:Y9 X (compareOp .Is) (λx y H Q=>y=.non/\Q (.bl (decide (x=.non))) H):=by
 intro pins s O H x y v u Q I rx ry h;obtain⟨rfl,q⟩:=h;cases ry;refine is_none_gen (aJ I q ?_);cases x <;> first
  | (cases rx;rfl)
  | (obtain⟨t,rfl⟩:=rx;rfl)
def D9:Y9 X (compareOp .IsNot) (λx y H Q=>y=.non/\Q (.bl (!decide (x=.non))) H):=by
 intro pins s O H x y v u Q I rx ry h;obtain⟨rfl,q⟩:=h;cases ry;refine isnot_none_gen (aJ I q ?_);cases x <;> first
  | (cases rx;rfl)
  | (obtain⟨t,rfl⟩:=rx;rfl)
def mV {op:CmpOp}{r:R2}(ho:Y9 X (compareOp op) r)(ha:PE X a ta)(hb:PE X b tb)(hm:behindInMarks op b=false):PE X (.Compare a [op] [b] pos) (Tr r ta tb):=by intro pins s O H Q I h;exact wpAny_Compare1 (IC ha hb I h λv u s2 x y H2 I2 rx ry q=>ho pins s2 O H2 x y v u Q I2 rx ry q) hm
noncomputable def KC (t:TE):TT:=λO H Q=>t O H λx H'=>∃k,x=.bl k/\Q k H'
def mT {op:CmpOp}{r:R2}(ho:Y9 X (compareOp op) r)(ha:PE X a ta)(hb:PE X b tb)(hm:behindInMarks op b=false):PT X (.Compare a [op] [b] pos) (KC (Tr r ta tb)):=by
 intro pins s O H Q I h;refine wpAny_isTrue_Compare1 (ZP (ha pins s O H _ I h) λv s1 ⟨x,H1,I1,r1,q1⟩=>ZP (hb pins s1 O H1 _ I1 q1) λu s2 ⟨y,H2,I2,r2,q2⟩ =>
  ZP (ho pins s2 O H2 x y v u _ I2 r1 r2 q2) λc s3 ⟨z,H3,I3,r3,k,e,q3⟩=>?_) hm
 subst e;cases r3;exact wpAny_truthy_bool ⟨H3,I3,q3⟩
def HE (K:W.Frag)(x:V)(H:Hp)(k:Bool):Prop :=
 match x with
 | .non=>k=false
 | .bl b=>k=b
 | .int i=>k=(i != 0)
 | .str y=>y.length<=sizeLine/\k=((y.length:Int) != 0)
 | .W_ y=>y.size<=sizeLine/\k=((y.size:Int) != 0)
 | .ref p=>(∃xs,Zr K H p xs/\k=!xs.isEmpty)\/(∃xs,ZC K H p xs/\k=!xs.isEmpty)\/∃kvs,H p=some (.dK kvs)/\k=!kvs.isEmpty
 | _=>False
def v_ {κ:Type}{kvs:List (κ × V)}{vs:List (κ × Value)}(r:KV kvs vs):(!vs.isEmpty)=!kvs.isEmpty:=by cases r <;> rfl
def oh {xs:List V}{its:List Value}(r:Vals xs its):(!its.toArray.isEmpty)=!xs.isEmpty:=by cases r <;> simp
def jC:(sizeLine:Nat)<2 ^ 63:=by rw[sizeLine_eq];decide
def HB:LJ X (λx H Q=>∃k,HE X.K x H k/\Q k H):=by
 intro pins s O H x v Q I rx h;obtain⟨k,e,q⟩:=h;have hl:=jC;have hs:sizeLine=16777216:=sizeLine_eq;cases x with
 | non =>cases rx;have e':k=false:=e;subst e';exact truthy_none ⟨H,I,q⟩
 | bl b =>cases rx;have e':k=b:=e;subst e';exact wpAny_truthy_bool ⟨H,I,q⟩
 | int i =>obtain⟨t,rfl⟩:=rx;have e':k=(i != 0):=e;subst e';exact PySem.P.truthy_int ⟨H,I,q⟩
 | str y =>obtain⟨t,rfl⟩:=rx;obtain⟨hy,e'⟩:y.length<=sizeLine/\k=((y.length:Int) != 0):=e;subst e';exact PySem.P.truthy_str (by lia) ⟨H,I.tok _,q⟩
 | W_ y =>obtain⟨t,rfl⟩:=rx;obtain⟨hy,e'⟩:y.size<=sizeLine/\k=((y.size:Int) != 0):=e;subst e';exact W.truthy_bytes (by lia) ⟨H,I.tok _,q⟩
 | ref p =>
  cases rx;have e':(∃xs,Zr X.K H p xs/\k=!xs.isEmpty)\/(∃xs,ZC X.K H p xs/\k=!xs.isEmpty)\/∃kvs,H p=some (.dK kvs)/\k=!kvs.isEmpty:=e;rcases e' with⟨xs,hx,e'⟩|⟨xs,hx,e'⟩|⟨kvs,hx,e'⟩
  ·subst e';obtain⟨its,r,pl,hz⟩:=I.list hx;have hlen:=r.length;exact wpAny_truthy_list pl.isList (by simp only[List.size_toArray];lia) ⟨H,I.tok _,by rw[oh r];exact q⟩
  ·subst e';obtain⟨its,r,pl,hz⟩:=I.tuple hx;have hlen:=r.length;exact truthy_tuple pl (by simp only[List.size_toArray];omega) ⟨H,I.tok _,by rw[oh r];exact q⟩
  ·subst e';obtain⟨hz,hS,vs,r,m⟩:kvs.length<=sizeLine/\(p == sysModules)=false/\∃vs,KV kvs vs/\s.heap.DictOf (cA X.prog X.w) p vs:=I.hok p _ hx;have hlen:kvs.length=vs.length:=Paired.length r;exact wpAny_truthy_dict hS m (by omega) ⟨H,I.tok _,by rw[v_ r];exact q⟩
 | _=>exact(show False from e).elim
def CB (ha:PE X a ta)(he:∀whole,isTrue a X.env whole=(do let v <-whole;standAt a.pos;holding [v] (truthy v))) :
  PT X a (λO H Q=>ta O H λx H'=>∃k,HE X.K x H' k/\Q k H'):=by
 intro pins s O H Q I h;exact isTrue_plain (ZP (ha pins s O H _ I h) λv s1 ⟨x,H1,I1,r1,q1⟩=>HB pins s1 O H1 x v Q I1 r1 q1) (he _)
def wM:Y9 X (binaryOp .Add) (λx y H Q=>∃i j,x=.str i/\y=.str j/\i.length+j.length<=sizeLine/\Q (.str (i++j)) H):=by intro pins s O H x y v u Q I rx ry h;obtain⟨i,j,rfl,rfl,hz,q⟩:=h;obtain⟨t,rfl⟩:=rx;obtain⟨t',rfl⟩:=ry;exact add_str (λt' tk=>⟨.str (i++j),H,I.tok _,⟨_,rfl⟩,q⟩) hz
def cC {x:V}{us:List Value}(r:Vals [x] us):∃u,us=[u]/\RelV x u:=by
 cases r with
 | cons r1 r2=>cases r2;exact⟨_,rfl,r1⟩
def jV {x y:V}{us:List Value}(r:Vals [x,y] us):∃u w',us=[u,w']/\RelV x u/\RelV y w':=by
 cases r with
 | cons r1 r2 =>
  cases r2 with
  | cons r3 r4=>cases r4;exact⟨_,_,rfl,r1,r3⟩
def zC (hc:X.calm=true):cH X (.builtin "max") (λxs H Q=>∃i j,xs=[.int i,.int j]/\Q (.int (if j > i then j else i)) H):=by
 intro pins s O H xs us Q I r h;obtain⟨i,j,rfl,q⟩:=h;obtain⟨u,w',rfl,⟨t,rfl⟩,⟨t',rfl⟩⟩:=jV r;refine max_two_ints (I.ok.hd hc) λh' tk k=>⟨_,H,I.kept k,?_,q⟩;by_cases hj:j > i
 ·rw[MK hj,MK hj];exact⟨_,rfl⟩
 ·rw[MM hj,MM hj];exact⟨_,rfl⟩
def zU (hc:X.calm=true):cH X (.builtin "min") (λxs H Q=>∃i j,xs=[.int i,.int j]/\Q (.int (if j<i then j else i)) H):=by
 intro pins s O H xs us Q I r h;obtain⟨i,j,rfl,q⟩:=h;obtain⟨u,w',rfl,⟨t,rfl⟩,⟨t',rfl⟩⟩:=jV r;refine min_two_ints (I.ok.hd hc) λh' tk k=>⟨_,H,I.kept k,?_,q⟩;by_cases hj:j<i
 ·rw[MK hj,MK hj];exact⟨_,rfl⟩
 ·rw[MM hj,MM hj];exact⟨_,rfl⟩
def zE:cH X (.type "int") (λxs H Q=>(∃i,xs=[.int i]/\Q (.int i) H)\/∃k,xs=[.bl k]/\Q (.int (if k then 1 else 0)) H):=by
 intro pins s O H xs us Q I r h;rcases h with⟨i,rfl,q⟩|⟨k,rfl,q⟩
 ·obtain⟨u,rfl,t,rfl⟩:=cC r;exact call_int_int ⟨.int i,H,I,⟨_,rfl⟩,q⟩
 ·obtain⟨u,rfl,r1⟩:=cC r;cases r1;exact call_int_bool ⟨.int (if k then 1 else 0),H,I.tok _,⟨_,rfl⟩,q⟩
def se:cH X (.type "str") (λxs H Q=>∃i,xs=[.int i]/\i.natAbs.log2<1920/\Q (.str (toString i)) H):=by intro pins s O H xs us Q I r h;obtain⟨i,rfl,hz,q⟩:=h;obtain⟨u,rfl,t,rfl⟩:=cC r;exact PySem.P.str_of_int hz ⟨.str _,H,I.tok _,⟨_,rfl⟩,q⟩
end
section
variable {prog:Program}{w:World}{A:Around}{E:Value->Shared->Prop}{s:Shared}{K:W.Frag}{x dx C f:Addr}{mA:Str->Option Value}{name:Str}{v:Value}
end
def XJ.some_of {v:V}{o:Option Value}(r:XJ (some v) o):∃u,o=some u/\RelV v u:=by
 cases o with
 | none=>solve_by_elim
 | some u=>exact⟨u,rfl,r⟩
section
variable {P:Program}{w:World}{H H':Hp}{h h':Heap}{a C dx:Addr}{fs fs':List (Str × V)}
end
section
variable {X:Cx}{pins:List (Addr × Obj)}{O:St}{H:Hp}{s:Shared}{a C dx:Addr}{fs:List (Str × V)}{f:Str}{v:V}{A:Around}{E:Value->Shared->Prop}
end
section
variable {X:Cx}{o e value:Expr}{f:Str}{pos pos' tpos:Pos}{ta tv:TE}
end
section
variable {X:Cx}{pins:List (Addr × Obj)}{O:St}{H:Hp}{s:Shared}{A:Around}{E:Value->Shared->Prop}{Q:Value->Shared->Prop}{c:Value}{b:Bool}
inductive Aa (K:W.Frag)(H:Hp):V->Value->Prop where
 | non:Aa K H .non (.type "NoneType")
 | bl (x:Bool):Aa K H (.bl x) (.type "bool")
 | int (i:Int):Aa K H (.int i) (.type "int")
 | str (x:Str):Aa K H (.str x) (.type "str")
 | lst {a:Addr} {xs:List V} (e:H a=some (.lst xs)):Aa K H (.ref a) (.type "list")
def f' {x:V}{u t:Value}(I:Inv X pins O H s)(rx:RelV x u)(ty:Aa X.K H x t)(e:W.kitOne X.K t c=some b)(h:∀tk,Q (.bool b) { s with toks:=tk }) :
  wpAny (model X.prog X.w) A (call (.builtin "isinstance") [u,c]) Q E s:=by
 cases ty with
 | non=>cases (show u=Value.none from rx);exact QG W.kitx_none I.X8 True.intro e (λz=>nomatch z) h
 | bl y=>cases (show u=Value.bool y from rx);exact QG W.kitx_bool I.X8 True.intro e (λz=>nomatch z) h
 | int i=>obtain⟨t,q⟩:=(show ∃t,u=Value.int i t from rx);cases q;exact QG W.kitx_int I.X8 True.intro e (λz=>nomatch z) h
 | str y=>obtain⟨t,q⟩:=(show ∃t,u=Value.str y t from rx);cases q;exact QG W.kitx_str I.X8 True.intro e (λz=>nomatch z) h
 | @lst a xs ea =>cases (show u=Value.ref a from rx);obtain⟨_,_,n,_,h1⟩:=(show ZL X.prog X.w H s.heap a (.lst xs) from I.hok a _ ea);exact QG W.kitx_list I.X8 ⟨_,h1,rfl⟩ e (λz=>nomatch z) h
end
structure Zz (k:Nat)(A:Around):Prop where
 hd:A.handled=none
 dp:A.depth+3*k+5<recursionLimit
 un:A.units+16*k+200<cLine
 gd:A.guards=some []
def Zz.mono {j k:Nat}{A:Around}(r:Zz k A)(h:j<=k):Zz j A:=⟨r.hd,by have:=r.dp;lia,by have:=r.un;lia,r.gd⟩
theorem Zz.deeper {k:Nat}{A:Around}(r:Zz (k+1) A)(env:Env):Zz k (A.deeper env) :=
 ⟨r.hd,by have:=r.dp;show A.depth+1+3*k+5<_;lia,by have:=r.un;show A.units+3+16*k+200<_;lia,r.gd⟩
theorem Zz.depth {k:Nat}{A:Around}(r:Zz k A):A.depth<recursionLimit:=by have:=r.dp;lia
theorem Zz.units {k:Nat}{A:Around}(r:Zz k A):A.units+64<cLine:=by have:=r.un;lia
noncomputable def kH:TA:=λ_ H Q=>Q [] H
noncomputable def eQ (ta:TE)(tr:TA):TA:=λO H Q=>ta O H λx H1=>tr O H1 λxs H2=>Q (x::xs) H2
section
variable {X:Cx}{e:Expr}{es:List Expr}{te:TE}{t:TA}{pos:Pos}
def bD:PA X [] kH:=λ_ _ _ _ H Q I h=>Calls.spliced_nil ⟨[],H,I,.nil,h⟩
def EG (ha:PE X e te)(hr:PA X es t)(hs:starEach (e::es) X.env=(false,eval e X.env)::starEach es X.env:=by rfl):PA X (e::es) (eQ te t):=by intro pos pins s O H Q I h;rw[hs];show wpAny _ _ (spliced ((false,eval e X.env)::backTo pos (starEach es X.env))) _ _ s;refine Calls.spliced_cons (ZP (ha pins s O H _ I h) λu s1 ⟨x,H1,I1,r1,q1⟩=>?_);exact ZP (hr pos pins s1 O H1 _ I1 q1) λus s2 ⟨xs,H2,I2,r2,q2⟩=>⟨x::xs,H2,I2,.cons r1 r2,q2⟩
noncomputable def LI (t:TA):TE:=λO H Q=>t O H λxs H1=>xs.length<=sizeLine/\∀p,H1 p=none->Q (.ref p) (upd H1 p (.tup xs))
noncomputable def K2 (t:TA):TE:=λO H Q=>t O H λxs H1=>xs.length<=sizeLine/\∀p,H1 p=none->Q (.ref p) (upd H1 p (.lst xs))
def Bd {x1}(h:PA X es t):PE X (.Tuple es x1 pos) (LI t):=by intro pins s O H Q I hq;refine wpAny_Tuple_spliced (ZP (h pos pins s O H _ I hq) λus s1 ⟨xs,H1,I1,r,z,q⟩=>⟨by rw[<-r.length];exact z,?_⟩);have hf:H1 s1.heap.objs.size=none:=I1.hok.fresh (MJ _);refine⟨.ref s1.heap.objs.size,upd H1 s1.heap.objs.size (.tup xs),I1.laid (t':=s1.toks) (λb u e=>MB _ e) (MJ _) ?_,rfl,q _ hf⟩;exact⟨z,us,r,⟨_,MH _ rfl,rfl,_,rfl⟩⟩
def oU (h:PA X es t):PE X (.List es pos) (K2 t):=by intro pins s O H Q I hq;refine wpAny_List_spliced (ZP (h pos pins s O H _ I hq) λus s1 ⟨xs,H1,I1,r,z,q⟩=>⟨by rw[<-r.length];exact z,?_⟩);have hf:H1 s1.heap.objs.size=none:=I1.hok.fresh (MJ _);refine⟨.ref s1.heap.objs.size,upd H1 s1.heap.objs.size (.lst xs),I1.laid (t':=s1.toks) (λb u e=>MB _ e) (MJ _) ?_,rfl,q _ hf⟩;exact⟨z,us,0,r,MH _ rfl⟩
end
noncomputable abbrev Sp:=List V->Hp->VK->XK->Prop
noncomputable abbrev V0:=List Env->Hp->Shared->XK->Value->Shared->Prop
structure Eu (P:Program)(w:World)(K:W.Frag)(mg:Str->Option Value)(base:Heap)(A:Around)(outer:List Env)(s:Shared)(H:Hp):Prop where
 frames:A.frames=some outer
 mod:Mod K mg base
 bs:∀b o,base.get? b=some o->s.heap.get? b=some o/\H b=none
 WW:base.objs.size<=s.heap.objs.size
 Y4:s.heap.FunFrames base outer
 Wm:∀b∈frs outer,H b=none
 hok:YX P w H s.heap
 bare:AllBare s.gens
def CE (outer:List Env)(P:Program)(w:World)(H:Hp)(s:Shared)(Q:VK)(u:Value)(s':Shared):Prop :=
 ∃v H',s'.os=s.os/\AllBare s'.gens/\Un (frs outer) [] H H' s.heap s'.heap/\YX P w H' s'.heap/\RelV v u/\Q v H'
def CR (CX:V0)(outer:List Env)(P:Program)(w:World)(H:Hp)(s:Shared)(Q:VK)(E:XK)(r:Result)(s':Shared):Prop :=
 match r with
 | .ok (.ret u)=>CE outer P w H s Q u s'
 | .ok _=>False
 | .error e=>CX outer H s E e s'
structure mE (P:Program)(w:World)(K:W.Frag)(mg:Str->Option Value)(base:Heap)(CX:V0)(k:Nat)(f:Addr)(fd:FuncData)(ps:List Str)(sp:Sp):Prop where
 len:∀vs H Q E,sp vs H Q E->vs.length=ps.length
 run:∀(A:Around) (outer:List Env) (s:Shared) (H:Hp) (args:Args) (us:List Value) (vs:List V) (Q:VK) (E:XK),Zz k A->Eu P w K mg base A outer s H->BindsTo s fd args (ps.zip us)->Vals vs us->sp vs H Q E ->
  codeAny (model P w) A (.call (.ref f) args) (CR CX outer P w H s Q E) s
section
variable {X:Cx}{pins:List (Addr × Obj)}{O:St}{H:Hp}{s s':Shared}
def Inv.env0 (I:Inv X pins O H s):Eu X.prog X.w X.K X.mg X.base X.A X.stack s H :=
 ⟨I.ok.frames,I.ok.mod,I.bs,MX I.ok.WW I.sz,I.stack,I.YG,I.hok,I.bare⟩
def Inv.after {Q:VK}{u:Value}(I:Inv X pins O H s)(h:CE X.stack X.prog X.w H s Q u s'):EP X pins O Q u s':=by obtain⟨v,H',os,bare,un,hok,r,q⟩:=h;obtain⟨hh,g,d,t,os'⟩:=s';obtain rfl:os'=s.os:=os;exact⟨v,H',I.call (h':=hh) (g':=g) (d':=d) (t':=t) (ch:=[]) un hok bare (λb z=>absurd z (by simp)),r,q⟩
end
noncomputable def jh (sp:Sp)(Xb:List V)(E:XK)(t:TA):TE:=λO H Q=>t O H λvs H1=>sp (vs++Xb) H1 Q E
def Binds (K:W.Frag)(fd:FuncData)(ps:List Str)(ds:List Value):Prop :=
 ∀(s:Shared) (us:List Value),K.In s.heap->(us++ds).length=ps.length->BindsTo s fd ⟨us,[]⟩ (ps.zip (us++ds))
def Binds.all {K:W.Frag}{fd:FuncData}{ps:List Str}(h:∀us:List Value,us.length=ps.length->bindArgs fd ⟨us,[]⟩=pure (ps.zip us)):Binds K fd ps []:=λs us _ hl=>by
 rw[N5] at hl |-
 exact .of_eq (h us hl)
def kN (CX:V0)(X:Cx)(E:XK):Prop:=∀(pins:List (Addr × Obj)) (O:St) (H:Hp) (s:Shared) (e:Value) (s':Shared),Inv X pins O H s->CX X.stack H s E e s'->X.xe e s'
section
variable {X:Cx}{CX:V0}{k:Nat}{f C:Addr}{fd:FuncData}{ps:List Str}{sp:Sp}{Xb:List V}{ds:List Value}{E:XK}{x m:Str}{p pos apos:Pos}{e o:Expr}{es:List Expr}{ta:TE}{t:TA}
def A_ {pins:List (Addr × Obj)}{O:St}{H:Hp}{s:Shared}{Q:VK}{us:List Value}{vs:List V}(F:mE X.prog X.w X.K X.mg X.base CX k f fd ps sp)(hr:Zz k X.A)(hb:Binds X.K fd ps ds)(hd:Vals Xb ds)(hx:kN CX X E)
  (I:Inv X pins O H s) (r:Vals vs us) (h:sp (vs++Xb) H Q E):wpAny (model X.prog X.w) X.A (call (.ref f) us) (EP X pins O Q) X.xe s:=by
 have r2:Vals (vs++Xb) (us++ds):=r.append hd;have hl:(us++ds).length=ps.length:=by rw[<-r2.length];exact F.len _ _ _ _ h
 refine wpAny_call (codeAny_mono (F.run X.A X.stack s H ⟨us,[]⟩ (us++ds) (vs++Xb) Q E hr I.env0 (hb s us I.X8 hl) r2 h) λr s' hq=>?_);cases r with
 | error e=>solve_by_elim
 | ok fl =>
  cases fl with
  | ret u=>exact I.after hq
  | next=>assumption
  | brk=>assumption
  | cont=>assumption
def sO (F:mE X.prog X.w X.K X.mg X.base CX k f fd ps sp)(hr:Zz k X.A)(hg:Gl X x)(hm:X.mg x=some (.ref f))(hk:W.keepIn X.K (.ref f)=true)(hb:Binds X.K fd ps ds)(hd:Vals Xb ds)(hx:kN CX X E)
  (ha:PA X (e::es) t) (hdb:(x == ("__debug__":Str))=false:=by decide) (he:starEach (e::es) X.env=(false,eval e X.env)::starEach es X.env:=by rfl) (hpl:(backTo pos (starEach es X.env)).any (·.1)=false:=by rfl) :
  PE X (.Call (.Name x p) (e::es) [] pos) (jh sp Xb E t):=by
 intro pins s O H Q I h;refine wpAny_Call_Name_kw (iP I hg hm ?_ hdb);refine W.callWith_K (h₀:=X.base) I.ok.mod.Wd hk (ZP (ha pos pins s O H _ I h) λus s1 ⟨vs,H1,I1,r,q⟩=>⟨I1.X8,?_⟩) he hpl;exact A_ F hr hb hd hx I1 r q
def Bw (F:mE X.prog X.w X.K X.mg X.base CX k f fd ps sp)(hr:Zz k X.A)(hg:Gl X x)(hm:X.mg x=some (.ref f))(hk:W.keepIn X.K (.ref f)=true)(hb:Binds X.K fd ps ds)(hd:Vals Xb ds)(hx:kN CX X E)
  (hdb:(x == ("__debug__":Str))=false:=by decide):PE X (.Call (.Name x p) [] [] pos) (jh sp Xb E kH):=by
 intro pins s O H Q I h;refine wpAny_Call_Name_kw (iP I hg hm ?_ hdb);exact W.callWith_K0 I.X8 hk (A_ (us:=[]) F hr hb hd hx I .nil h)
end
section
variable {X:Cx}{CX:V0}{k:Nat}{f C:Addr}{fd:FuncData}{ps ks:List Str}{sp:Sp}{E:XK}{x m:Str}{p pos apos kpos:Pos}{e o:Expr}{es:List Expr}{kws:List Keyword}{te ta:TE}{t tk:TA}{nm:Option Str}
variable {g:List Value->List Value->List Value}{gV:List V->List V->List V}
end
structure ar (N P:List Str)(sc:Scope):Prop where
 kind:sc.kind=.function
 co:sc.isCoroutine=false
 gen:sc.isGenerator=false
 nd:N.Nodup
 pre:N.take P.length=P
 par:∀x∈P,sc.names.lookup x=some .local\/sc.names.lookup x=some .cell
 Uu:∀y∈sc.names,y.2≠.free
theorem qL {kindOf:Str->Option NameKind}{x:Str}:∀ {binds:List (Str × Value)}{m:Str->Option Value},(∀v,(x,v) ∉ binds)->bindL kindOf binds m x=m x
 | [],_,_=>rfl
 | (n,v)::r,m,h=>by
  unfold bindL;rw[qL λw hw=>h w (MD _ hw)];split
  ·have:x≠n:=by rintro rfl;exact h v MP
   simp[this]
  ·rfl
theorem qe {kindOf:Str->Option NameKind}{x:Str}:∀ {binds:List (Str × Value)}{m:Str->Option Value},(∀v,(x,v) ∉ binds)->bindC kindOf binds m x=m x
 | [],_,_=>rfl
 | (n,v)::r,m,h=>by
  unfold bindC;rw[qe λw hw=>h w (MD _ hw)];split
  ·rfl
  ·have:x≠n:=by rintro rfl;exact h v MP
   simp[this]
theorem qo {kindOf:Str->Option NameKind}{x:Str}{v:Value}:∀ {P:List Str}{vs:List Value}{i:Nat}{m:Str->Option Value},P.Nodup->P[i]?=some x->vs[i]?=some v->kindOf x=some .local ->
  bindL kindOf (P.zip vs) m x=some v
 | [],_,_,_,_,h,_,_=>by simp at h
 | _::_,[],_,_,_,_,h,_=>by simp at h
 | p::P,w::vs,0,m,nd,h1,h2,hk=>by simp at h1 h2;subst h1;subst h2;show bindL kindOf ((p,w)::P.zip vs) m p=_;unfold bindL;rw[qL λv hv=>(ND.mp nd).1 (Q1 hv).1,MK hk];simp
 | p::P,w::vs,i+1,m,nd,h1,h2,hk=>by show bindL kindOf ((p,w)::P.zip vs) m x=_;unfold bindL;exact qo (i:=i) (ND.mp nd).2 (by simpa using h1) (by simpa using h2) hk
theorem qG {kindOf:Str->Option NameKind}{x:Str}{v:Value}:∀ {P:List Str}{vs:List Value}{i:Nat}{m:Str->Option Value},P.Nodup->P[i]?=some x->vs[i]?=some v->kindOf x≠some .local ->
  bindC kindOf (P.zip vs) m x=some v
 | [],_,_,_,_,h,_,_=>by simp at h
 | _::_,[],_,_,_,_,h,_=>by simp at h
 | p::P,w::vs,0,m,nd,h1,h2,hk=>by simp at h1 h2;subst h1;subst h2;show bindC kindOf ((p,w)::P.zip vs) m p=_;unfold bindC;rw[qe λv hv=>(ND.mp nd).1 (Q1 hv).1,MM hk];simp
 | p::P,w::vs,i+1,m,nd,h1,h2,hk=>by show bindC kindOf ((p,w)::P.zip vs) m x=_;unfold bindC;exact qG (i:=i) (ND.mp nd).2 (by simpa using h1) (by simpa using h2) hk
noncomputable def start (N:List Str)(vs:List V):St:=vs.map some++List.replicate (N.length-vs.length) none
noncomputable def oH (CX:V0)(P:Program)(w:World)(K:W.Frag)(mg:Str->Option Value)(base:Heap)(N:List Str)(qual:Str)(scope:Scope)(f:Addr)(cd:Value)(A:Around)(outer:List Env)(s:Shared)(H:Hp)(E:XK):Cx where
 prog:=P
 w:=w
 K:=K
 mg:=mg
 base:=base
 A:=A.deeper (envOfC qual scope s.heap.objs.size f cd)
 N:=N
 s₀:=s
 H₀:=H
 env:=envOfC qual scope s.heap.objs.size f cd
 outer:=outer
 stack:=envOfC qual scope s.heap.objs.size f cd::outer
 ex:=[]
 calm:=true
 fn:=λ_=>true
 pn:=[]
 xe:=λe s'=>wpAny (model P w) (A.deeper (envOfC qual scope s.heap.objs.size f cd)) (leaving (envOfC qual scope s.heap.objs.size f cd) e) (λ_ s''=>CX outer H s E e s'') (λe' s''=>CX outer H s E e' s'') s'
def uZ {sc:Scope}{n:Nat}{x:Str}(h:sc.names.lookup x=some .cell):∃c,(cellsFrom n sc.names []).lookup x=some c:=by have q:=W.cellsFrom_some sc.names n [] (.inl h);exact Option.isSome_iff_exists.mp q
def y_ {CX:V0}{P:Program}{w:World}{K:W.Frag}{mg:Str->Option Value}{base:Heap}{N ps:List Str}{qual:Str}{scope:Scope}{f:Addr}{cd:Value}{A:Around}{outer:List Env}{s s1:Shared}{H:Hp}{E:XK}{us:List Value}{vs:List V}
  (S:ar N ps scope) (hd:A.handled=none) (e0:Eu P w K mg base A outer s H) (hl:vs.length=ps.length) (r:Vals vs us)
  (x:InCallC s s.heap.objs.size (bindL (envOfC qual scope s.heap.objs.size f cd).kindOf (ps.zip us) λ_=>none) (cellsFrom (s.heap.objs.size+1) scope.names []) (bindC (envOfC qual scope s.heap.objs.size f cd).kindOf (ps.zip us) λ_=>none) s1) :
  Inv (oH CX P w K mg base N qual scope f cd A outer s H E) [] (start N vs) H s1:=by
 have hpl:ps.length<=N.length:=by have:=NS List.length S.pre;rw[M6] at this;omega
 obtain⟨h1,tk,rfl,hk⟩:=x.done;have Ra:∀b:Addr,b ∉ (oH CX P w K mg base N qual scope f cd A outer s H E).ex:=λb z=>absurd (show b∈([]:List Addr) from z) (by simp);refine⟨⟨e0.mod,S.kind,rfl,rfl,MJ _,λy z c h1 h2=>?_,λy hy=>?_,λy c _ h=>?_,λ_=>hd,Around.frames_deeper e0.frames,.inr ⟨rfl,rfl⟩,λb z=>absurd z (Ra b),e0.bs,e0.WW,λb _ _=>Ra b,λb z=>absurd z (Ra b),e0.Y4,e0.Wm⟩,
  rfl,e0.bare,Un.kept hk,⟨_,x.toInCall.ns,λi y v h1 h2 h3=>?_⟩,λy c h=>⟨_,x.cell y c h⟩,e0.hok.fresh (MJ _),λy c h=>?_,λp hp=>absurd (show p∈([]:List (Addr × Obj)) from hp) (by simp),e0.hok.kept hk,?_⟩
 ·exact name_of_addr x.apart (NV h1) (NV h2)
 ·have hy:scope.names.lookup y=some .cell\/scope.names.lookup y=some .free:=hy;rcases hy with hy|hy
  ·exact uZ hy
  ·exact absurd rfl (S.Uu _ (NV hy))
 ·exact OU (x.above y c (NV h))
 ·have hi:i<vs.length:=by
   unfold start at h2;by_cases hi:i<vs.length
   ·exact hi
   ·rw[MY (by simpa using hi)] at h2;rw[List.getElem?_replicate] at h2
    simp_all
  have ha:vs[i]?=some v:=by
   unfold start at h2;rw[M0 (by simpa using hi),M5] at h2;cases e:vs[i]? with
   | none=>simp_all
   | some a=>rw[e] at h2;simp_all
  obtain⟨u,hu,rv⟩:=r.get ha;have hp:ps[i]?=some y:=by rw[<-S.pre,PR (by simp_all)];exact h1
  have Og:ps.Nodup:=by rw[<-S.pre];exact S.nd.sublist (P4 _ _)
  refine⟨u,rv,?_⟩;rcases S.par y (MW hp) with k|k
  ·exact .inl ⟨k,qo Og hp hu k⟩
  ·obtain⟨c,e⟩:=uZ (n:=s.heap.objs.size+1) k;refine .inr ⟨.inl k,c,e,?_⟩;have q:=x.cell y c e;rw[qG Og hp hu (by show scope.names.lookup y≠_;rw[k];decide)] at q;exact q
 ·exact e0.hok.fresh (OU (x.above y c (NV h)))
 ·unfold start;show _=N.length
  simp_all
def GV {CX:V0}{P:Program}{w:World}{K:W.Frag}{mg:Str->Option Value}{base:Heap}{k:Nat}{f:Addr}{name qual:Str}{params:Arguments}{body:List Stmt}{scope:Scope}{dV kV doc pm cdv ct oc:Value}{an od:Option Addr}
  {osl:Array (Option Value)}{N ps:List Str}{sp:Sp} (lk:K.lookup f=some ⟨oc,od,.func (W.fnOf name qual params body scope dV kV doc pm an cdv ct),osl⟩) (hcd:W.codeIn K cdv qual=true) (S:ar N ps scope)
  (len:∀vs H Q E,sp vs H Q E->vs.length=ps.length)
  (hbody:∀(A:Around) (outer:List Env) (s:Shared) (H:Hp) (vs:List V) (Q:VK) (E:XK),Zz k (A.deeper (envOfC qual scope s.heap.objs.size f cdv))->sp vs H Q E ->
   ∃t,Xk (oH CX P w K mg base N qual scope f cdv A outer s H E) body t/\t { nx:=λ_ H'=>Q .non H',rt:=Q } (start N vs) H) :
  mE P w K mg base CX (k+1) f (W.fnOf name qual params body scope dV kV doc pm an cdv ct) ps sp:=by
 refine⟨len,λA outer s H args us vs Q E hr e0 hb r hsp=>?_⟩;have hl:=len _ _ _ _ hsp;have KX:K.In s.heap:=e0.mod.Wd.keeps λb o e=>(e0.bs b o e).1;have lim:s.heap.NoLimit:=e0.mod.nolimit.keeps λb o e=>(e0.bs b o e).1;have hkind:∀y∈ps.zip us,scope.names.lookup y.1=some .local\/(scope.names.lookup y.1=some .cell/\((cellsFrom (s.heap.objs.size+1) scope.names []).lookup y.1).isSome=true):=λ⟨n,v⟩ hy=>by
  rcases S.par n (Q1 hy).1 with q|q
  ·exact .inl q
  ·exact .inr ⟨q,W.cellsFrom_some _ _ _ (.inl q)⟩
 refine codeAny_call_function hr.depth (KX _ _ lk) rfl S.co S.gen rfl (W.codeRec_of KX hcd) (hb _ _ _ _ ?_);refine wpAny_newFunctionEnv_cells S.kind hkind λenv he s1 x=>?_;subst he;refine⟨lim.keeps x.toInCall.keep,codeAny_func ?_⟩;obtain⟨t,ht,hq⟩:=hbody A outer s H vs Q E (hr.deeper _) hsp;have I:Inv (oH CX P w K mg base N qual scope f cdv A outer s H E) [] (start N vs) H s1:=y_ S hr.hd e0 hl r x;refine wpAny_mono (ht [] s1 (start N vs) H _ I hq) (λfl s' hs=>?_) λe s' hs=>hs;have fin:∀ {O':St}{H':Hp}{v:V}{u:Value},Inv (oH CX P w K mg base N qual scope f cdv A outer s H E) [] O' H' s'->RelV v u->Q v H'->CE outer P w H s Q u s' :=
  λ{O' H' v u} J rv q=>⟨v,H',J.os,J.bare,J.base,J.hok,rv,q⟩
 cases fl with
 | ret u =>obtain⟨v,O',H',J,rv,q⟩:=hs;exact fin J rv q
 | next =>obtain⟨O',H',J,q⟩:=hs;exact fin (v:=V.non) (u:=Value.none) J rfl q
 | brk =>
  obtain⟨_,_,_,q⟩:=hs
  simp_all
 | cont =>
  obtain⟨_,_,_,q⟩:=hs
  simp_all
section
variable {X:Cx}{x:Str}{p pos:Pos}{e:Expr}{es:List Expr}{t:TA}{id T:String}{r:List V->Hp->VK->Prop}
noncomputable def Tp (r:List V->Hp->VK->Prop)(t:TA):TE:=λO H Q=>t O H λvs H1=>r vs H1 Q
def Ag (hc:cH X (.builtin id) r)(hg:Gl X x)(hm:X.mg x=none)(hv:bootBuiltins x=some (.builtin id))(ha:PA X (e::es) t)(hn:x≠"__name__":=by decide)(hdb:(x == ("__debug__":Str))=false:=by decide)
  (he:starEach (e::es) X.env=(false,eval e X.env)::starEach es X.env:=by rfl) (hpl:(backTo pos (starEach es X.env)).any (·.1)=false:=by rfl):PE X (.Call (.Name x p) (e::es) [] pos) (Tp r t):=by
 intro pins s O H Q I h;refine wpAny_Call_Name_kw (lM I hg hm hv ?_ hn hdb);exact PyProof.Rows.callWith_builtin1 (ZP (ha pos pins s O H _ I h) λus s1 ⟨vs,H1,I1,r1,q1⟩=>hc pins s1 O H1 vs us Q I1 r1 q1) he hpl
def zc (hc:cH X (.type T) r)(hg:Gl X x)(hm:X.mg x=none)(hv:bootBuiltins x=some (.type T))(ha:PA X (e::es) t)(hn:x≠"__name__":=by decide)(hdb:(x == ("__debug__":Str))=false:=by decide)
  (he:starEach (e::es) X.env=(false,eval e X.env)::starEach es X.env:=by rfl) (hpl:(backTo pos (starEach es X.env)).any (·.1)=false:=by rfl):PE X (.Call (.Name x p) (e::es) [] pos) (Tp r t):=by
 intro pins s O H Q I h;refine wpAny_Call_Name_kw (lM I hg hm hv ?_ hn hdb);exact OF (ZP (ha pos pins s O H _ I h) λus s1 ⟨vs,H1,I1,r1,q1⟩=>hc pins s1 O H1 vs us Q I1 r1 q1) he hpl
end
end L2
namespace HT
open PySem PyProof.Rows
section
open PySem.SeqAt
open PySem.AutoSeq1 (wpAny_loadPart')
open PySem.MeetsSeq PySem.MeetsSeq2 PySem.MeetsSeq3
end
section
variable {prog:Program}{w:World}{A:Around}{E:Value->Shared->Prop}{s:Shared}
def Vp {t b:Addr}{vs ws:List Value}{Q:Value->Shared->Prop}(ht:IsTup s.heap t vs.toArray)(hb:IsTup s.heap b ws.toArray)(hv:vs≠[])
  (h1:ws=[]->Q (.ref t) s) (h2:ws≠[]->Q (.ref s.heap.objs.size) { s with heap:=s.heap.push { cls:=.type "tuple",data:=.seq (vs++ws).toArray } })
  (hsz:vs.length+ws.length<=sizeLine):wpAny (model prog w) A (binaryOp .Add (.ref t) (.ref b)) Q E s:=by
 obtain⟨⟨cls,dd,data,sl⟩,ho,hc,n,hd⟩:=id ht;obtain⟨⟨cls2,dd2,data2,sl2⟩,ho2,hc2,n2,hd2⟩:=id hb;simp only at hc hd hc2 hd2;subst hc hd hc2 hd2;have e:vs.toArray++ws.toArray=(vs++ws).toArray:=by simp
 by_cases hw:ws=[]
 ·exact concat_meets ⟨_,ho,rfl⟩ ⟨_,ho2,rfl⟩ noFill_tuple_add seq_tuple_add P5 P2 (PU _ _)
   (tuple_addW1 t b vs.toArray ws.toArray n n2 dd dd2 sl sl2 (by simpa using hv) (by simp[hw])) ⟨ho,ho2,h1 hw⟩
 ·refine concat_meets ⟨_,ho,rfl⟩ ⟨_,ho2,rfl⟩ noFill_tuple_add seq_tuple_add P5 P2 (PU _ _)
   (tuple_addW2 t b vs.toArray ws.toArray n n2 dd dd2 sl sl2 (by simpa using hv) (by simpa using hw) (by assumption)) ⟨ho,ho2,?_⟩
  rw[e];exact h2 hw
noncomputable def ZK (n d:Nat):Option Int->Nat
 | none=>d
 | some v=>if v<0 then (v+(n:Int)).toNat else min v.toNat n
def Y7 (n d:Nat):ZK n d none=d:=rfl
def Zg (n d k:Nat):ZK n d (some (k:Int))=min k n:=by
 solve_by_elim
def I_ (n d:Nat)(hd:d<=n)(o:Option Int):ZK n d o<=n:=by
 cases o with
 | none=>exact hd
 | some v =>
  show (if v<0 then (v+(n:Int)).toNat else min v.toNat n)<=n;by_cases hv:v<0
  ·rw[MK hv];lia
  ·rw[MM hv];exact Nat.min_le_right _ _
def yG (v:Int)(n d:Nat):(if v<0 then max (v+(n:Int)) 0 else min v (n:Int))=((ZK n d (some v):Nat):Int):=by show (if v<0 then max (v+(n:Int)) 0 else min v (n:Int))=(((if v<0 then (v+(n:Int)).toNat else min v.toNat n):Nat):Int);grind
def vS (lo hi:Option Int)(n:Nat):Builtin.Slice.sliceAdjust lo hi 1 (n:Int)=(((ZK n 0 lo:Nat):Int),((ZK n n hi:Nat):Int)):=by
 have h1:¬((1:Int)<0):=by omega
 unfold Builtin.Slice.sliceAdjust;simp only[h1,if_false];refine Prod.ext ?_ ?_
 ·cases lo with
  | none=>rfl
  | some v=>exact yG v n 0
 ·cases hi with
  | none=>rfl
  | some v=>exact yG v n n
def wt (i j:Nat):Builtin.Slice.slicePlaces (i:Int) (j:Int) 1=j-i:=by
 unfold Builtin.Slice.slicePlaces
 lia
def o7 {v:Value}{o:Option Int}{Q:Option Int->Shared->Prop}(p:IsPart v o)(h:Q o s):wpAny (model prog w) A (Builtin.Slice.slicePartIndex v) Q E s:=by
 cases p with
 | none=>solve_by_elim
 | int i t=>exact slicePart_int h
def Zn {sl:Addr}{vl vu:Value}{lo hi:Option Int}{n:Nat}{Q:Int × Int × Nat->Shared->Prop}(hs:s.heap.IsSliceOf sl vl vu .none)(pl:IsPart vl lo)(pu:IsPart vu hi)
  (h:Q (((ZK n 0 lo:Nat):Int),1,ZK n n hi-ZK n 0 lo) s):wpAny (model prog w) A (Builtin.Slice.sliceApplied (.ref sl) (pure (n:Int))) Q E s:=by
 obtain⟨os,hos,hcs,hds⟩:=id hs;unfold Builtin.Slice.sliceApplied Builtin.Slice.sliceFields;refine MA (MA (wpAny_field hos hds (x:=vl) rfl (MA (wpAny_field hos hds (x:=vu) rfl (MA (wpAny_field hos hds (x:=.none) rfl (MC ?_)))))));refine MA (slicePart_none ?_);show wpAny _ _ (if ((1:Int) == 0)=true then _ else _) _ _ s;rw[MM (by decide)];refine MA (o7 pl (MA (o7 pu (MA (MC ?_)))));show wpAny _ _ (match Builtin.Slice.sliceAdjust lo hi 1 (n:Int) with|(lo,hi)=>pure (lo,(1:Int),Builtin.Slice.slicePlaces lo hi 1)) _ _ s;rw[vS lo hi n];show wpAny _ _ (pure (((ZK n 0 lo:Nat):Int),(1:Int),Builtin.Slice.slicePlaces ((ZK n 0 lo:Nat):Int) ((ZK n n hi:Nat):Int) 1)) _ _ s;rw[wt]
 solve_by_elim
def Dg (xs:Array Value)(i k:Nat):((List.range k).filterMap λ(m:Nat)=>xs[((i:Int)+(m:Int)*1).toNat]?).toArray=((xs.toList.drop i).take k).toArray:=by
 have e:(λ(m:Nat)=>xs[((i:Int)+(m:Int)*1).toNat]?)=λm=>xs[i+m]?:=by
  funext m;have:((i:Int)+(m:Int)*1).toNat=i+m:=by omega
  rw[this]
 rw[e];have:=pick_run xs i k;rw[List.filterMap_map] at this
 solve_by_elim
def YD {t sl:Addr}{items:Array Value}{vl vu:Value}{lo hi:Option Int}{Q:Value->Shared->Prop}(ht:IsTup s.heap t items)(hs:s.heap.IsSliceOf sl vl vu .none)(pl:IsPart vl lo)(pu:IsPart vu hi)
  (hw:¬(ZK items.size 0 lo=0/\ZK items.size items.size hi=items.size))
  (h:Q (.ref s.heap.objs.size) { s with heap:=s.heap.push { cls:=.type "tuple",data:=.seq ((items.toList.drop (ZK items.size 0 lo)).take (ZK items.size items.size hi-ZK items.size 0 lo)).toArray } })
  (hsz:items.size<=sizeLine):wpAny (model prog w) A (getItem (.ref t) (.ref sl)) Q E s:=by
 have W4:sizeOk (.seq ((items.toList.drop (ZK items.size 0 lo)).take (ZK items.size items.size hi-ZK items.size 0 lo)).toArray):=by show ((items.toList.drop (ZK items.size 0 lo)).take (ZK items.size items.size hi-ZK items.size 0 lo)).toArray.size<=sizeLine;rw[NL,M6,NH,NB];omega
 have hj:ZK items.size items.size hi<=items.size:=I_ _ _ (MJ _) hi;obtain⟨os,hos,hcs,hds⟩:=id hs;have hTs:s.TypeIs (.ref sl) "slice":=⟨os,hos,hcs⟩;unfold getItem
 try with_reducible refine NU ?_
 first|refine MA (MC ?_)|skip
 refine MA (wpAny_sequenceKey ht.typeIs (by decide) ?_);refine MA (wpAny_callSpecial?_slot (name:=Str.ofString "__getitem__") ht.typeIs N_
  (wpAny_call_entry N_ ht.typeIs entry_tuple_getitem ?_ (args_tuple_getitem _ _)))
 show wpAny _ _ (Builtin.Tuple.tupleItemsOf (.ref t) >>= _) _ _ s;refine MA (tupleItemsOf_ ht ?_);refine MA (wpAny_typeOf hTs ?_);rw[MK (by decide)];refine MA (Zn hs pl pu ?_);have hno:¬((((ZK items.size 0 lo:Nat):Int) == 0 && (1:Int) == 1 && (ZK items.size items.size hi-ZK items.size 0 lo) == items.size)=true):=by intro q;rw[MG,MG] at q;have q1:((ZK items.size 0 lo:Nat):Int)=0:=eq_of_beq q.1.1;have q2:ZK items.size items.size hi-ZK items.size 0 lo=items.size:=eq_of_beq q.2;exact hw ⟨by simp_all,by simp_all⟩
 show wpAny _ _ (if (((ZK items.size 0 lo:Nat):Int) == 0 && (1:Int) == 1 && (ZK items.size items.size hi-ZK items.size 0 lo) == items.size)=true then _ else _) _ _ s;rw[MM hno,Dg]
 first
  | exact MA (m:=Builtin.Tuple.tupleExact _) (wpAny_newObj_type (MC ⟨_,rfl,MC h⟩) W4)
  | exact MA (m:=Builtin.Tuple.tupleExact _) (wpAny_newObj_type (MA (MC (MC ⟨_,rfl,MC h⟩))) W4)
  | exact MA (MA (m:=Builtin.Tuple.tupleExact _) (wpAny_newObj_type (MC (MC ⟨_,rfl,MC h⟩)) W4))
  | exact MA (MA (m:=Builtin.Tuple.tupleExact _) (wpAny_newObj_type (MC ⟨_,rfl,MC h⟩) W4))
end
end HT
namespace L2
noncomputable abbrev TO:=St->Hp->(Option Int->Hp->Prop)->Prop
def PO (X:Cx)(e:Option Expr)(t:TO):Prop :=
 ∀(pins:List (Addr × Obj)) (s:Shared) (O:St) (H:Hp) (Q:Option Int->Hp->Prop),Inv X pins O H s->t O H Q ->
  wpAny (model X.prog X.w) X.A (evalPart e X.env) (λu s'=>∃o H',Inv X pins O H' s'/\IsPart u o/\Q o H') X.xe s
noncomputable def EY:TO:=λ_ H Q=>Q none H
noncomputable def Kt (t:TE):TO:=λO H Q=>t O H λx H1=>∃i,x=.int i/\Q (some i) H1
section
variable {X:Cx}{e:Expr}{te:TE}{lo hi:Option Expr}{tl th:TO}{pos p2:Pos}
def DP:PO X none EY:=by intro pins s O H Q I h;rw[evalPart_none];exact MC ⟨none,H,I,.none,h⟩
def EC (h:PE X e te):PO X (some e) (Kt te):=by intro pins s O H Q I hw;rw[evalPart_some];refine ZP (h pins s O H _ I hw) λu s1 ⟨x,H1,I1,r1,q1⟩=>?_;obtain⟨i,rfl,q⟩:=q1;obtain⟨t,rfl⟩:=r1;exact⟨some i,H1,I1,.int i t,q⟩
def Rz (X:Cx)(r:V->Option Int->Option Int->Hp->VK->Prop):Prop :=
 ∀(pins:List (Addr × Obj)) (s:Shared) (O:St) (H:Hp) (x:V) (v vl vu:Value) (lo hi:Option Int) (sl:Addr) (Q:VK),Inv X pins O H s->RelV x v->s.heap.IsSliceOf sl vl vu .none->IsPart vl lo->IsPart vu hi->r x lo hi H Q ->
  ∃T id,typeLookup (.type T) "__getitem__"=pure (some (.builtin id))/\s.TypeIs v T/\wpAny (model X.prog X.w) X.A (getItem v (.ref sl)) (EP X pins O Q) X.xe s
noncomputable def tSl (r:V->Option Int->Option Int->Hp->VK->Prop)(te:TE)(tl th:TO):TE:=λO H Q=>te O H λx H1=>tl O H1 λl H2=>th O H2 λu H3=>r x l u H3 Q
def AJ {r:V->Option Int->Option Int->Hp->VK->Prop}(hr:Rz X r)(he:PE X e te)(hl:PO X lo tl)(hu:PO X hi th):PE X (.Subscript e (.Slice lo hi none p2) pos) (tSl r te tl th):=by intro pins s O H Q I h;refine Subscript_ (ZP (he pins s O H _ I h) λv s1 ⟨x,H1,I1,r1,q1⟩=>?_);refine wpAny_Slice (ZP (hl pins s1 O H1 _ I1 q1) λvl s2 ⟨l,H2,I2,pl,q2⟩=>ZP (hu pins s2 O H2 _ I2 q2) λvu s3 ⟨u,H3,I3,pu,q3⟩=>?_);rw[evalPart_none];refine MC ?_;have I4:Inv X pins O H3 { s3 with heap:=s3.heap.push { cls:=.type "slice",data:=.fields #[vl,vu,.none] } }:=I3.kept (t':=s3.toks) λb ob q=>MB _ q;obtain ⟨T,id,hT,ht,hg⟩:=hr pins { s3 with heap:=s3.heap.push { cls:=.type "slice",data:=.fields #[vl,vu,.none] } } O H3 x v vl vu l u s3.heap.objs.size Q I4 r1 (QI ..) pl pu q3;show wpAny (model X.prog X.w) X.A (subscriptTail e (.Slice lo hi none p2) v (.ref s3.heap.objs.size)) (EP X pins O Q) X.xe { s3 with heap:=s3.heap.push { cls:=.type "slice",data:=.fields #[vl,vu,.none] } };exact tail_any (ops:=[.ref s3.heap.objs.size,v]) ht hT hg (by solve_by_elim)
noncomputable def pq (xs:List V)(lo hi:Option Int):List V:=(xs.drop (HT.ZK xs.length 0 lo)).take (HT.ZK xs.length xs.length hi-HT.ZK xs.length 0 lo)
def l8 (xs:List V)(lo hi:Option Int):(pq xs lo hi).length<=xs.length:=by
 unfold pq;rw[M6,NH]
 lia
noncomputable def LF (K:W.Frag):V->Option Int->Option Int->Hp->VK->Prop:=λx lo hi H Q=>∃a xs,x=.ref a/\ZC K H a xs /\
 ¬(HT.ZK xs.length 0 lo=0/\HT.ZK xs.length xs.length hi=xs.length)/\∀p,H p=none->Q (.ref p) (upd H p (.tup (pq xs lo hi)))
def Jq:Rz X (LF X.K):=by
 intro pins s O H x v vl vu lo hi sl Q I rx hs pl pu h;obtain⟨a,xs,rfl,hx,hw,q⟩:=h;cases rx;obtain⟨its,r,ht,hz⟩:=I.tuple hx;have hlen:its.toArray.size=xs.length:=by rw[NL];exact r.length.symm
 refine ⟨"tuple",_,PyProof.Rows.slot_tuple_getitem.lookup,ht.typeIs,?_⟩;refine HT.YD ht hs pl pu (by rw[hlen];exact hw) ?_ (by simp[*]);rw[hlen];refine⟨.ref s.heap.objs.size,_,I.laid (t':=s.toks) (o:=.tup (pq xs lo hi)) (λb ob q=>MB _ q) (MJ _) ?_,rfl,q _ (I.hok.fresh (MJ _))⟩;exact⟨MX (l8 xs lo hi) hz,_,(r.drop (HT.ZK xs.length 0 lo)).take (HT.ZK xs.length xs.length hi-HT.ZK xs.length 0 lo),IsTup.new _ _⟩
noncomputable def Ku (K:W.Frag):R2:=λx y H Q=>∃a b xs ys,x=.ref a/\y=.ref b/\ZC K H a xs/\ZC K H b ys/\xs≠[]/\xs.length+ys.length<=sizeLine /\
 (ys=[]->Q (.ref a) H)/\(ys≠[]->∀p,H p=none->Q (.ref p) (upd H p (.tup (xs++ys))))
def Vals.XX {xs:List V}{us:List Value}(r:Vals xs us):us=[]↔xs=[]:=by
 cases r with
 | nil=>simp
 | cons _ _=>simp
def Fe:Y9 X (binaryOp .Add) (Ku X.K):=by intro pins s O H x y v u Q I rx ry h;obtain⟨a,b,xs,ys,rfl,rfl,ha,hb,hx,hz,q1,q2⟩:=h;cases rx;cases ry;obtain⟨its,r1,p1,_⟩:=I.tuple ha;obtain⟨its2,r2,p2,_⟩:=I.tuple hb;refine HT.Vp p1 p2 (λz=>hx (r1.XX.mp z)) (λz=>⟨.ref a,H,I,rfl,q1 (r2.XX.mp z)⟩) (λz=>?_) (by rw[<-r1.length,<-r2.length];exact hz);refine⟨.ref s.heap.objs.size,_,I.laid (t':=s.toks) (o:=.tup (xs++ys)) (λb ob q=>MB _ q) (MJ _) ?_,rfl,q2 (λw=>z (r2.XX.mpr w)) _ (I.hok.fresh (MJ _))⟩;exact⟨by simp_all,_,r1.append r2,IsTup.new _ _⟩
end
noncomputable def Wb (n:Nat)(i:Int):Option Nat:=if 0<=i then (if i<n then some i.toNat else none) else if -(n:Int)<=i then some (i+n).toNat else none
noncomputable def YL {α:Type}(xs:List α)(i:Int):Option α:=(Wb xs.length i).bind λj=>xs[j]?
def xI {n:Nat}{i:Int}{j:Nat}(h:Wb n i=some j):seqIndex? i n=some j/\j<n/\-(n:Int)<=i/\i<n:=by
 unfold Wb at h;by_cases h0:0<=i
 ·rw[MK h0] at h;by_cases h1:i<n
  ·rw[MK h1] at h;have e:i.toNat=j:=NC h;exact⟨by rw[seqIndex_of h0 h1,e],by lia,by lia,h1⟩
  simp_all
 ·rw[MM h0] at h;by_cases h1:-(n:Int)<=i
  ·rw[MK h1] at h;have e:(i+n).toNat=j:=NC h;exact⟨by rw[seqIndex_neg (by simp_all) h1,e],by lia,h1,by lia⟩
  simp_all
def mU {α:Type}{xs:List α}{i:Int}{v:α}(h:YL xs i=some v):∃j,seqIndex? i xs.length=some j/\xs[j]?=some v/\j<xs.length/\-(xs.length:Int)<=i/\i<xs.length:=by
 unfold YL at h;cases e:Wb xs.length i with
 | none=>simp_all
 | some j =>rw[e] at h;obtain⟨h1,h2,h3,h4⟩:=xI e;exact⟨j,h1,h,h2,h3,h4⟩
def aN {α:Type}{xs:List α}{j:Nat}{v:α}(h:xs[j]?=some v):YL xs (j:Int)=some v:=by
 have hj:j<xs.length:=(MT.mp h).1;have e:Wb xs.length (j:Int)=some j:=by unfold Wb;rw[MK (by simp),MK (by simp_all)];simp
 unfold YL;rw[e];exact h
def xX (b:Expr):Prop:=∀o i,subscripted b false o i=operate [o,i] (getItem o i)
def Uc (X:Cx)(r:R2):Prop :=
 ∀(value slice:Expr) (pins:List (Addr × Obj)) (s:Shared) (O:St) (H:Hp) (x y:V) (v u:Value) (Q:VK),Inv X pins O H s->RelV x v->RelV y u->r x y H Q ->
  subscripted slice false v u=operate [v,u] (getItem v u)->wpAny (model X.prog X.w) X.A (subscriptTail value slice v u) (EP X pins O Q) X.xe s
def Wk (X:Cx)(id:String)(r:V->List V->Hp->VK->Prop):Prop :=
 ∀(pins:List (Addr × Obj)) (s:Shared) (O:St) (H:Hp) (x:V) (xs:List V) (v:Value) (us:List Value) (Q:VK),Inv X pins O H s->RelV x v->Vals xs us->r x xs H Q ->
  wpAny (model X.prog X.w) X.A (call (.builtin id) (v::us)) (EP X pins O Q) X.xe s
section
variable {X:Cx}{a b:Expr}{ta tb:TE}{pos:Pos}
def K6 {r:R2}(hr:Uc X r)(ha:PE X a ta)(hb:PE X b tb)(hs:xX b):PE X (.Subscript a b pos) (Tr r ta tb):=by intro pins s O H Q I h;exact Subscript_ (IC ha hb I h λv u s2 x y H2 I2 rx ry q=>hr a b pins s2 O H2 x y v u Q I2 rx ry q (hs _ _))
noncomputable def L9 (K:W.Frag):R2:=λx y H Q=>∃p xs i v,x=.ref p/\y=.int i/\Zr K H p xs/\YL xs i=some v/\Q v H
noncomputable def L8 (K:W.Frag):R2:=λx y H Q=>∃p xs i v,x=.ref p/\y=.int i/\ZC K H p xs/\YL xs i=some v/\Q v H
noncomputable def LV:R2:=λx y H Q=>∃z i c,x=.str z/\y=.int i/\z.length<=sizeLine/\YL z.cps.toList i=some c/\Q (.str ⟨#[c]⟩) H
def Ef:Uc X (L9 X.K):=by
 intro value slice pins s O H x y v u Q I rx ry h hs;obtain⟨p,xs,i,z,rfl,rfl,hq,he,q⟩:=h;cases rx;obtain⟨t,rfl⟩:=ry;obtain⟨its,r,pl,hz⟩:=I.list hq;obtain⟨j,h1,h2,h3,h4,h5⟩:=mU he;obtain⟨w,ew,rw'⟩:=r.get h2;have hl:=r.length;have hn:=jC;have fin:EP X pins O Q w s:=⟨z,H,I,rw',q⟩;by_cases h0:0<=i
 ·have hj:i.toNat=j:=by rw[seqIndex_of h0 h5] at h1;exact NC h1
  exact item_listR pl.isList h0 (by lia) (by simp[*]) fin hs
 ·have hj:(i+(its.toArray.size:Int)).toNat=j:=by rw[seqIndex_neg (by simp_all) h4] at h1;rw[NL,<-hl];exact NC h1
  exact subscriptTail_builtinR (x:=w) pl.isList.typeIs slot_list_getitem.lookup
   (wpAny_getItem_list_neg (Q:=λr s'=>r=w/\EP X pins O Q r s') pl.isList (by omega) (by simp_all) (by lia) (by rw[hj];simpa using ew) ⟨rfl,fin⟩) hs
def Ic:Uc X (L8 X.K):=by
 intro value slice pins s O H x y v u Q I rx ry h hs;obtain⟨p,xs,i,z,rfl,rfl,hq,he,q⟩:=h;cases rx;obtain⟨t,rfl⟩:=ry;obtain⟨its,r,pl,hz⟩:=I.tuple hq;obtain⟨j,h1,h2,h3,h4,h5⟩:=mU he;obtain⟨w,ew,rw'⟩:=r.get h2;have hl:=r.length;have hn:=jC;have fin:EP X pins O Q w s:=⟨z,H,I,rw',q⟩;exact subscriptTail_builtinR (x:=w) pl.typeIs slot_tuple_getitem.lookup
  (getItem_tuple (j:=j) (Q:=λr s'=>r=w/\EP X pins O Q r s') pl (by lia) (by lia) (by simp_all) (by simpa using ew) ⟨rfl,fin⟩) hs
def JA:Uc X LV:=by
 intro value slice pins s O H x y v u Q I rx ry h hs;obtain⟨z,i,c,rfl,rfl,hz,he,q⟩:=h;obtain⟨t,rfl⟩:=rx;obtain⟨t',rfl⟩:=ry;obtain⟨j,h1,h2,h3,h4,h5⟩:=mU he;have hl:z.cps.toList.length=z.length:=by simp[Str.length]
 rw[hl] at h1 h4 h5;have hn:=jC;exact tail_any (typeIs_str s z t) slot_str_getitem.lookup (getItem_str (c:=c) (by
  lia) (by rw[h1];simpa using h2) ⟨.str ⟨#[c]⟩,H,I.tok _,⟨_,rfl⟩,q⟩) hs
def wj (its:List Value)(n j:Nat)(u:Value):Obj.mapSeq (·.setIfInBounds j u) { cls:=.type "list",data:=.seq its.toArray n }={ cls:=.type "list",data:=.seq (its.set j u).toArray n }:=by simp[Obj.mapSeq]
theorem Inv.lst {pins:List (Addr × Obj)}{O:St}{H:Hp}{s:Shared}{p:Addr}{xs:List V}(I:Inv X pins O H s)(h:H p=some (.lst xs)) :
  ∃(its:List Value) (n:Nat),Vals xs its/\s.heap.get? p=some { cls:=.type "list",data:=.seq its.toArray n }/\xs.length<=sizeLine:=by
 obtain⟨z,its,n,r,e⟩:=I.hok p _ h;exact⟨its,n,r,e,z⟩
def Inv.Ul {pins:List (Addr × Obj)}{O:St}{H:Hp}{s:Shared}{p:Addr}{xs ys:List V}{its its':List Value}{n n':Nat}{f:Obj->Obj}(I:Inv X pins O H s)(h:H p=some (.lst xs))
  (ho:s.heap.get? p=some { cls:=.type "list",data:=.seq its.toArray n }) (hf:f { cls:=.type "list",data:=.seq its.toArray n }={ cls:=.type "list",data:=.seq its'.toArray n' }) (r:Vals ys its') (hz:ys.length<=sizeLine) (t:Nat) :
  Inv X pins O (upd H p (.lst ys)) { s with heap:=s.heap.update p f,toks:=t }:=by
 have e:(s.heap.update p f).get? p=some { cls:=.type "list",data:=.seq its'.toArray n' }:=by rw[M7 f ho (by rw[hf] <;> rfl),hf]
 refine I.write (x:=p) (by rw[h];trivial) (λb u hb q=>(NA _ _ (Ne.symm hb)).trans q) ⟨_,e⟩ ?_;exact⟨hz,its',n',r,e⟩
noncomputable def Lx:V->V->V->Hp->(Hp->Prop)->Prop:=λo i v H Q=>∃p xs k j,o=.ref p/\i=.int k/\H p=some (.lst xs)/\Wb xs.length k=some j/\Q (upd H p (.lst (xs.set j v)))
def Ah:Hv X Lx:=by
 intro pins s O H o i v ov iv u Q I ro ri rv h;obtain⟨p,xs,k,j,rfl,rfl,hp,hj,q⟩:=h;cases ro;obtain⟨t,rfl⟩:=ri;obtain⟨its,n,r,ho,hz⟩:=I.lst hp;obtain⟨h1,h2,h3,h4⟩:=xI hj;have hl:=r.length;have hn:=jC;have I':Inv X pins O (upd H p (.lst (xs.set j v))) { s with heap:=s.heap.update p (Obj.mapSeq (·.setIfInBounds j u)) } :=
  I.Ul hp ho (wj its n j u) (r.set rv j) (by rw[Q2];exact hz) s.toks
 by_cases h0:0<=k
 ·have hk:k.toNat=j:=by rw[seqIndex_of h0 h4] at h1;exact NC h1
  exact W.ki_setAt ho h0 (by lia) (by simp_all) (by rw[hk];exact⟨_,I',q⟩)
 ·have hk:(k+(its.toArray.size:Int)).toNat=j:=by rw[seqIndex_neg (by simp_all) h3] at h1;rw[NL,<-hl];exact NC h1
  exact W.ki_setBack ho (by omega) (by simp_all) (by lia) (by rw[hk];exact⟨_,I',q⟩)
def rE (lo hi:Option Int)(n:Nat):(sliceBounds lo hi none n).1=((HT.ZK n 0 lo:Nat):Int)/\(sliceBounds lo hi none n).2.1=((HT.ZK n n hi:Nat):Int)/\(sliceBounds lo hi none n).2.2=1:=by
 refine⟨?_,?_,rfl⟩
 ·cases lo with
  | none=>solve_by_elim
  | some i =>simp only[sliceBounds,HT.ZK,Option.getD_none,show (1:Int) > 0 by decide,if_true];grind
 ·cases hi with
  | none=>solve_by_elim
  | some i =>
   simp only[sliceBounds,HT.ZK,Option.getD_none,show (1:Int) > 0 by decide,if_true];by_cases h:i<0
   ·simp only[h,if_true] <;> omega
   ·simp only[h,if_false] <;> omega
def pX (its:List Value)(lo hi:Option Int):slicePick its.toArray lo hi none=((its.drop (HT.ZK its.length 0 lo)).take (HT.ZK its.length its.length hi-HT.ZK its.length 0 lo)).toArray:=by obtain⟨h1,h2,h3⟩:=rE lo hi its.toArray.size;unfold slicePick;rw[h1,h2,h3];simp only[sliceRange_one,pick_run,List.size_toArray] <;> rfl
noncomputable def Mg (K:W.Frag):V->Option Int->Option Int->Hp->VK->Prop:=λx lo hi H Q=>∃a xs,x=.ref a/\Zr K H a xs/\∀p,H p=none->Q (.ref p) (upd H p (.lst (pq xs lo hi)))
def E3:Rz X (Mg X.K):=by intro pins s O H x v vl vu lo hi sl Q I rx hs pl pu h;obtain⟨a,xs,rfl,hx,q⟩:=h;cases rx;obtain⟨its,r,ht,hz⟩:=I.list hx;have hlen:=r.length;refine ⟨"list",_,slot_list_getitem.lookup,ht.isList.typeIs,?_⟩;refine wpAny_getItem_list_slice ht.isList hs pl pu .none (by simp) ?_ (by simp_all);rw[pX,<-hlen];refine⟨.ref s.heap.objs.size,_,I.laid (t':=s.toks) (o:=.lst (pq xs lo hi)) (λb ob q=>MB _ q) (MJ _) ?_,rfl,q _ (I.hok.fresh (MJ _))⟩;exact⟨MX (l8 xs lo hi) hz,_,0,(r.drop (HT.ZK xs.length 0 lo)).take (HT.ZK xs.length xs.length hi-HT.ZK xs.length 0 lo),MH _ rfl⟩
noncomputable def kh:V->Bool
 | .non=>true
 | .bl _=>true
 | .int _=>true
 | .str _=>true
 | _=>false
noncomputable def U6:V->V->Bool
 | .non,.non=>true
 | .bl a,.bl b=>a == b
 | .bl a,.int b=>(if a then 1 else 0) == b
 | .int a,.bl b=>a == (if b then 1 else 0)
 | .int a,.int b=>a == b
 | .str a,.str b=>a == b
 | _,_=>false
def Il {A:Around}{s:Shared}{y x:V}{u v:Value}(ry:RelV y u)(rx:RelV x v)(fy:kh y=true)(fx:kh x=true):SeqAt.EqAt A s u v (U6 y x):=by
 cases y with
 | non =>
  cases ry;cases x with
  | non=>cases rx;exact SeqAt.EqAt.same _
  | bl b=>cases rx;exact SeqAt.EqAt.none_bool b
  | int b=>obtain⟨t,rfl⟩:=rx;exact SeqAt.EqAt.none_int b t
  | str b=>obtain⟨t,rfl⟩:=rx;exact SeqAt.EqAt.none_str b t
  | _=>exact absurd (show false=true from fx) ME
 | bl a =>
  cases ry;cases x with
  | non=>cases rx;exact SeqAt.EqAt.bool_none a
  | bl b=>cases rx;exact SeqAt.EqAt.bool_bool a b
  | int b=>obtain⟨t,rfl⟩:=rx;exact SeqAt.EqAt.bool_int a b t
  | str b=>obtain⟨t,rfl⟩:=rx;exact SeqAt.EqAt.bool_str a b t
  | _=>exact absurd (show false=true from fx) ME
 | int a =>
  obtain⟨t',rfl⟩:=ry;cases x with
  | non=>cases rx;exact SeqAt.EqAt.int_none a t'
  | bl b=>cases rx;exact SeqAt.EqAt.int_bool a t' b
  | int b=>obtain⟨t,rfl⟩:=rx;exact QJ a t' b t
  | str b=>obtain⟨t,rfl⟩:=rx;exact SeqAt.EqAt.int_str a t' b t
  | _=>exact absurd (show false=true from fx) ME
 | str a =>
  obtain⟨t',rfl⟩:=ry;cases x with
  | non=>cases rx;exact SeqAt.EqAt.str_none a t'
  | bl b=>cases rx;exact SeqAt.EqAt.str_bool a t' b
  | int b=>obtain⟨t,rfl⟩:=rx;exact SeqAt.EqAt.str_int a t' b t
  | str b=>obtain⟨t,rfl⟩:=rx;exact SeqAt.EqAt.str_str a t' b t
  | _=>exact absurd (show false=true from fx) ME
 | _=>exact absurd (show false=true from fy) ME
noncomputable def Xc (x:V)(u:Value):Bool:=match u with
 | .none=>U6 .non x
 | .bool b=>U6 (.bl b) x
 | .int i _=>U6 (.int i) x
 | .str z _=>U6 (.str z) x
 | _=>false
def A9 {x y:V}{u:Value}(r:RelV y u)(f:kh y=true):Xc x u=U6 y x:=by
 cases y with
 | non=>cases r;rfl
 | bl b=>cases r;rfl
 | int i=>obtain⟨t,rfl⟩:=r;rfl
 | str z=>obtain⟨t,rfl⟩:=r;rfl
 | _=>exact absurd (show false=true from f) ME
theorem jP {x:V}:∀ {xs:List V}{us:List Value},Vals xs us->xs.all kh=true->us.any (Xc x)=xs.any λy=>U6 y x
 | _,_,.nil,_=>rfl
 | y::xs,u::us,.cons r t,f=>by rw[OB,MG] at f;rw[O9,O9,A9 r f.1,jP t f.2]
theorem iI {A:Around}{s:Shared}{x:V}{v:Value}(rx:RelV x v)(fx:kh x=true):∀ {xs:List V}{us:List Value},Vals xs us->xs.all kh=true->∀u∈us,SeqAt.EqAt A s u v (Xc x u)
 | _,_,.nil,_=>λu hu=>by cases hu
 | y::xs,u::us,.cons r t,f=>λu' hu=>by
  rw[OB,MG] at f;rcases MU.mp hu with rfl|hu
  ·rw[A9 r f.1];exact Il r rx f.1 fx
  ·exact iI rx fx t f.2 u' hu
noncomputable def inV (x:V)(xs:List V):Bool:=xs.any λy=>U6 y x
noncomputable def Ol (K:W.Frag)(neg:Bool):R2:=λx y H Q=>∃p xs,y=.ref p/\(Zr K H p xs\/ZC K H p xs)/\kh x=true/\xs.all kh=true/\Q (.bl (if neg then !inV x xs else inV x xs)) H
def y9:Y9 X (compareOp .In) (Ol X.K false):=by
 intro pins s O H x y v u Q I rx ry h;obtain⟨p,xs,rfl,hq,fx,fs,q⟩:=h;cases ry;rcases hq with hq|hq
 ·obtain⟨its,r,pl,hz⟩:=I.list hq;refine SeqAt.in_listAt (Xc x) pl.isList (λw hw=>iI rx fx r fs w (by simpa using hw)) ⟨.bl _,H,I,rfl,?_⟩;rw[show its.toArray.any (Xc x)=its.any (Xc x) by simp,jP r fs];exact q
 ·obtain⟨its,r,pl,hz⟩:=I.tuple hq;refine SeqAt.in_tupleAt (Xc x) pl (λw hw=>iI rx fx r fs w (by simpa using hw)) ⟨.bl _,H,I,rfl,?_⟩;rw[show its.toArray.any (Xc x)=its.any (Xc x) by simp,jP r fs];exact q
def sL:Y9 X (compareOp .NotIn) (Ol X.K true):=by
 intro pins s O H x y v u Q I rx ry h;obtain⟨p,xs,rfl,hq,fx,fs,q⟩:=h;cases ry;rcases hq with hq|hq
 ·obtain⟨its,r,pl,hz⟩:=I.list hq;refine SeqAt.notIn_listAt (Xc x) pl.isList (λw hw=>iI rx fx r fs w (by simpa using hw)) ⟨.bl _,H,I,rfl,?_⟩;rw[show its.toArray.any (Xc x)=its.any (Xc x) by simp,jP r fs];exact q
 ·obtain⟨its,r,pl,hz⟩:=I.tuple hq;refine SeqAt.notIn_tupleAt (Xc x) pl (λw hw=>iI rx fx r fs w (by simpa using hw)) ⟨.bl _,H,I,rfl,?_⟩;rw[show its.toArray.any (Xc x)=its.any (Xc x) by simp,jP r fs];exact q
def sd:Y9 X (compareOp .NotIn) (λx y H Q=>∃i j,x=.str i/\y=.str j/\Q (.bl (!(!(Builtin.Str.occurrences j i 0 j.length 1).isEmpty))) H):=by intro pins s O H x y v u Q I rx ry h;obtain⟨i,j,rfl,rfl,q⟩:=h;obtain⟨t,rfl⟩:=rx;obtain⟨t',rfl⟩:=ry;exact notIn_str ⟨.bl _,H,I,rfl,q⟩
def sN:cH X (.builtin "len") (λxs H Q=>∃p ys,xs=[.ref p]/\(Zr X.K H p ys\/ZC X.K H p ys)/\Q (.int ys.length) H):=by
 intro pins s O H xs us Q I r h;obtain⟨p,ys,rfl,hq,q⟩:=h;obtain⟨u,rfl,rx⟩:=cC r;cases rx;have hn:=jC;rcases hq with hq|hq
 ·obtain⟨its,r',pl,hz⟩:=I.list hq;have hlen:=r'.length;exact Calls.call_len_list pl.isList (by grind) ⟨.int ys.length,H,I.tok _,⟨s.toks+1,by solve_by_elim⟩,q⟩
 ·obtain⟨its,r',pl,hz⟩:=I.tuple hq;have hlen:=r'.length;exact len_tuple pl (by simp only[List.size_toArray] <;> omega) ⟨.int ys.length,H,I.tok _,⟨s.toks+1,by solve_by_elim⟩,q⟩
def sQ:cH X (.builtin "len") (λxs H Q=>∃z,xs=[.str z]/\z.length<=sizeLine/\Q (.int z.length) H):=by intro pins s O H xs us Q I r h;obtain⟨z,rfl,hz,q⟩:=h;obtain⟨u,rfl,t,rfl⟩:=cC r;have hn:=jC;exact len_str (by lia) ⟨.int z.length,H,I.tok _,⟨_,rfl⟩,q⟩
def rq:cH X (.type "list") (λxs H Q=>∃p ys,xs=[.ref p]/\(Zr X.K H p ys\/ZC X.K H p ys)/\∀l,H l=none->Q (.ref l) (upd H l (.lst ys))):=by
 intro pins s O H xs us Q I r h;obtain⟨p,ys,rfl,hq,q⟩:=h;obtain⟨u,rfl,rx⟩:=cC r;cases rx;have fin:∀(its:List Value),Vals ys its->ys.length<=sizeLine->∀(h':Heap) (c':Nat),(∀b o',s.heap.get? b=some o'->h'.get? b=some o') ->
   h'.get? s.heap.objs.size=some { cls:=.type "list",dict:=none,data:=.seq its.toArray c',slots:=#[] }->EP X pins O Q (.ref s.heap.objs.size) { s with heap:=h' }:=λits r' hz h' c' kp e =>
  ⟨.ref s.heap.objs.size,_,I.laid (t':=s.toks) kp (MJ _) (show ZL X.prog X.w _ h' _ (.lst ys) from ⟨hz,its,c',r',e⟩),rfl,q _ (I.hok.fresh (MJ _))⟩
 rcases hq with hq|hq
 ·obtain⟨its,r',pl,hz⟩:=I.list hq;have hlen:=r'.length;obtain⟨o,ho,hc,n,hd⟩:=pl.isList;exact call_list_seq p (.inl rfl) ho hc hd (λh' c' kp e=>fin its r' hz h' c' kp e) (by simp_all)
 ·obtain⟨its,r',pl,hz⟩:=I.tuple hq;have hlen:=r'.length;obtain⟨o,ho,hc,n,hd⟩:=pl;exact call_list_seq p (.inr rfl) ho hc hd (λh' c' kp e=>fin its r' hz h' c' kp e) (by simp_all)
def pI:cH X (.type "tuple") (λxs H Q=>∃p ys,xs=[.ref p]/\((Zr X.K H p ys/\∀l,H l=none->Q (.ref l) (upd H l (.tup ys)))\/(ZC X.K H p ys/\Q (.ref p) H))):=by
 intro pins s O H xs us Q I r h;obtain⟨p,ys,rfl,h⟩:=h;obtain⟨u,rfl,rx⟩:=cC r;cases rx;rcases h with⟨hq,q⟩|⟨hq,q⟩
 ·obtain⟨its,r',pl,hz⟩:=I.list hq;have hlen:=r'.length;refine call_tuple_list pl.isList (λh' kp=>?_) (by simp_all);have I1:Inv X pins O H { s with heap:=h' }:=I.kept (t':=s.toks) kp;have I2:Inv X pins O (upd H h'.objs.size (.tup ys)) { s with heap:=h'.push { cls:=.type "tuple",data:=.seq its.toArray } } :=
   I1.laid (t':=s.toks) (λb o e=>MB _ e) (MJ _) (show ZL X.prog X.w _ _ _ (.tup ys) from ⟨hz,its,r',IsTup.new _ _⟩)
  exact⟨.ref h'.objs.size,_,I2,rfl,q _ (I1.hok.fresh (MJ _))⟩
 ·obtain⟨its,r',pl,hz⟩:=I.tuple hq;exact call_tuple_same pl ⟨.ref p,H,I,rfl,q⟩
def R8 (K:W.Frag)(T:String)(x:V)(H:Hp):Prop:=match x with
 | .str _=>T="str"
 | .ref p=>(T="list"/\∃xs,Zr K H p xs)\/T="dict"/\∃kvs,H p=some (.dK kvs)
 | _=>False
def Dd {pins:List (Addr × Obj)}{O:St}{H:Hp}{s:Shared}{T:String}{x:V}{v:Value}(I:Inv X pins O H s)(r:RelV x v)(ty:R8 X.K T x H) :
  s.TypeIs v T/\∀a,v=.ref a->∃ob,s.heap.get? a=some ob/\ob.dict=none:=by
 cases x with
 | str z =>obtain⟨t,rfl⟩:=r;cases (show T="str" from ty);exact⟨typeIs_str s z t,λ_ e=>nomatch e⟩
 | ref p =>
  cases r;rcases ty with⟨rfl,xs,hq⟩|⟨rfl,kvs,hk⟩
  ·obtain⟨its,_,pl,_⟩:=I.list hq;refine⟨pl.isList.typeIs,λa e=>?_⟩;cases e;obtain⟨o,n,e,c,hd,_⟩:=pl;exact⟨o,e,hd⟩
  ·obtain⟨_,_,_,_,o,_,_,e,ex,_⟩:=I.hok p _ hk;refine⟨⟨o,e,ex.1⟩,λa e2=>?_⟩;cases e2;exact⟨o,e,ex.2.1⟩
 | _=>solve_by_elim
noncomputable def L_ (K:W.Frag)(T:String)(r:V->List V->Hp->VK->Prop)(to:TE):TE:=λO H Q=>to O H λx H1=>R8 K T x H1/\r x [] H1 Q
noncomputable def tBM (K:W.Frag)(T:String)(r:V->List V->Hp->VK->Prop)(to:TE)(t:TA):TE:=λO H Q=>to O H λx H1=>R8 K T x H1/\t O H1 λxs H2=>r x xs H2 Q
variable {o e:Expr}{es:List Expr}{to:TE}{t:TA}{name:Str}{apos cpos:Pos}{T id:String}{r:V->List V->Hp->VK->Prop}
def II (pa:PlainAttrs T)(slot:Slot T name id)(hty:typeOf (.builtin id)=pure (.type "method_descriptor"))(hm:Wk X id r)(ho:PE X o to)
  (hbase:attributeBase o name X.env (eval o X.env)=eval o X.env:=by rfl) (hline:(apos.endLine == cpos.line)=true:=by rfl):PE X (.Call (.Attribute o name apos) [] [] cpos) (L_ X.K T r to):=by
 intro pins s O H Q I h;refine wpAny_Call_method0_late hbase hline (ZP (ho pins s O H _ I h) λv s1 ⟨x,H1,I1,r1,ty,q1⟩=>?_);obtain⟨h1,h2⟩:=Dd I1 r1 ty;exact⟨T,id,pa,slot,hty,h1,h2,Calls.callWith_builtin rfl (PySem.evalArgs_none (hm pins s1 O H1 x [] v [] Q I1 r1 .nil q1))⟩
def l' (pa:PlainAttrs T)(slot:Slot T name id)(hty:typeOf (.builtin id)=pure (.type "method_descriptor"))(hm:Wk X id r)(ho:PE X o to)(ha:PA X (e::es) t)
  (hbase:attributeBase o name X.env (eval o X.env)=eval o X.env:=by rfl)
  (hfew:((backTo cpos (starEach (e::es) X.env)).all (λx=>!x.1) && (backToKw cpos (keywordEach [] X.env)).all (λx=>x.1.isSome)
   && decide ((e::es).length+([]:List Keyword).length+(if ([]:List Keyword).isEmpty then 0 else 1)<30))=true:=by rfl)
  (hline:(apos.endLine == cpos.line)=true:=by rfl) (hs:starEach (e::es) X.env=(false,eval e X.env)::starEach es X.env:=by rfl) (hplain:(backTo cpos (starEach es X.env)).any (·.1)=false:=by rfl) :
  PE X (.Call (.Attribute o name apos) (e::es) [] cpos) (tBM X.K T r to t):=by
 intro pins s O H Q I h;refine wpAny_Call_method_late hbase hfew hline rfl (ZP (ho pins s O H _ I h) λv s1 ⟨x,H1,I1,r1,ty,q1⟩=>?_);obtain⟨h1,h2⟩:=Dd I1 r1 ty;refine⟨T,id,pa,slot,hty,h1,h2,?_⟩;have hA:=ha cpos pins s1 O H1 _ I1 q1;rw[hs] at hA |-
 refine Calls.callWith_builtin (by assumption) (Calls.evalArgs_plain ?_);exact ZP hA λus s2 ⟨vs,H2,I2,r2,q2⟩=>hm pins s2 O H2 x vs v us Q I2 r1 r2 q2
end
def MtM (X:Cx)(id:String)(r:V->List V->Hp->VK->Prop):Prop :=
 ∀(pins:List (Addr × Obj)) (s:Shared) (O:St) (H:Hp) (x:V) (xs:List V) (v:Value) (us:List Value) (Q:VK),Inv X pins O H s->RelV x v->Vals xs us->r x xs H Q ->
  wpAny (model X.prog X.w) X.A (call (.builtin id) (v::us)) (EP X pins O Q) X.xe s
def Vals.one:∀ {x:V}{us:List Value},Vals [x] us->∃u,us=[u]/\RelV x u
 | _,_,.cons r .nil=>⟨_,rfl,r⟩
section
variable {X:Cx}{pins:List (Addr × Obj)}{O:St}{H:Hp}{s:Shared}{l b:Addr}{xs ys zs:List V}
def Inv.Tc {its its':List Value}{n:Nat}{f:Array Value->Array Value}{t':Nat}(I:Inv X pins O H s)(hH:H l=some (.lst xs))
  (e:s.heap.get? l=some { cls:=.type "list",data:=.seq its.toArray n }) (hf:f its.toArray=its'.toArray) (hv:Vals ys its') (hz:ys.length<=sizeLine) :
  Inv X pins O (upd H l (.lst ys)) { s with heap:=s.heap.update l (Obj.mapSeq f),toks:=t' }:=by
 have q:=PySem.IsL.update e f;rw[hf] at q;refine I.write (x:=l) (by rw[hH];exact trivial) (λb' u hb hu=>(NA s.heap (Obj.mapSeq f) (Ne.symm hb)).trans hu) ⟨_,q⟩ ?_;exact⟨hz,its',_,hv,q⟩
def Inv.Qw {its:List Value}{t':Nat}(I:Inv X pins O H s)(hv:Vals ys its)(hz:ys.length<=sizeLine) :
  Inv X pins O (upd H s.heap.objs.size (.lst ys)) { s with heap:=s.heap.push { cls:=.type "list",data:=.seq its.toArray },toks:=t' } :=
 I.laid (λ_ _ q=>MB _ q) (MJ _) ⟨hz,its,0,hv,MH _ rfl⟩
theorem Inv.fresh (I:Inv X pins O H s):H s.heap.objs.size=none:=I.hok.fresh (MJ _)
def Inv.Xw (I:Inv X pins O H s)(hH:H l=some (.lst xs)):xs.length<=sizeLine/\∃(its:List Value) (n:Nat),Vals xs its/\xs.length=its.length/\s.heap.get? l=some { cls:=.type "list",data:=.seq its.toArray n }:=by obtain⟨z,its,n,r,e⟩:=I.hok l _ hH;exact⟨z,its,n,r,r.length,e⟩
def CP {n:Nat}(h:n<=sizeLine):Builtin.List.listTooLong n=false:=by unfold Builtin.List.listTooLong;simp[*]
end
section
variable {X:Cx}
noncomputable def Fb:V->List V->Hp->VK->Prop:=λx vs H Q=>∃l xs y,x=.ref l/\vs=[y]/\H l=some (.lst xs)/\xs.length<sizeLine/\Q .non (upd H l (.lst (xs++[y])))
def q9:MtM X "list.append" Fb:=by
 intro pins s O H x vs v us Q I rx rv h;obtain⟨l,xs,y,rfl,rfl,hH,hz,q⟩:=h;cases rx;obtain⟨u,rfl,ru⟩:=rv.one;obtain⟨z,its,n,r,hl,e⟩:=I.Xw hH;refine call_meets F.slot_list_append ⟨_,e,rfl⟩ F.entry_list_append (F.args_list_append_2 _ _) (PySem.list_append l its.toArray n u (by simp_all)) ⟨e,?_⟩;refine⟨.non,_,I.Tc (its':=its++[u]) hH e (by simp) (r.append (.cons ru .nil)) ?_,rfl,q⟩;rw[MS,List.length_singleton]
 lia
noncomputable def LU:R2:=λx y H Q=>∃l b xs zs,x=.ref l/\y=.ref b/\H l=some (.lst xs)/\H b=some (.lst zs)/\xs.length+zs.length<=sizeLine/\∀p,H p=none->Q (.ref p) (upd H p (.lst (xs++zs)))
def IR:Y9 X (binaryOp .Add) LU:=by
 intro pins s O H x y v u Q I rx ry h;obtain⟨l,b,xs,zs,rfl,rfl,hH,hB,hz,q⟩:=h;cases rx;cases ry;obtain⟨z,its,n,r,hl,e⟩:=I.Xw hH;obtain⟨z2,its2,n2,r2,hl2,e2⟩:=I.Xw hB;refine PySem.P.add_list e e2 ?_ (by simp_all);have ea:its.toArray++its2.toArray=(its++its2).toArray:=by simp
 rw[ea];exact⟨.ref _,_,I.Qw (t':=s.toks) (r.append r2) (by rw[MS];omega),rfl,q _ I.fresh⟩
end
section
variable {prog:Program}{w:World}{A:Around}{E:Value->Shared->Prop}{s:Shared}
set_option maxRecDepth 100000 in
end
section
variable {X:Cx}
end
end L2
namespace Nb
open PySem PySem.W PySem.Calls PyProof.Rows
def mz {P:Params}{h:Heap}:∀(ns:List Int) (vs:List Value),WellAll P h vs (ns.map WData.int)->IntsAre vs ns:=by
 intro ns
 induction ns with
 | nil =>intro vs w;rw[Q8] at w;cases w;exact .nil
 | cons n ns ih =>
  intro vs w;rw[M3] at w;cases w with
  | cons a b =>
   cases a
   solve_by_elim
def zH {l:OpenLaw}{n:Nat}(hn:l.most=some n){P:Params}{h:Heap}{args:List WData}{vals:List Value}
  (hpre:l.row.toRowW.claim.pre args=true) (hwl:WellAll P h vals args) :
  ∃a vs ns,vals=[Value.ref a]/\args=[WData.list (ns.map WData.int)]/\h.get? a=some { cls:=.type "list",data:=.seq vs.toArray }/\IntsAre vs ns/\ns.length<=n:=by
 have hsh:WShape.hasAll [] args [.list .int]=true:=(pre_splitW hpre).1;have hc:l.pre.holds [] { args:=args }=true:=(pre_splitW hpre).2;obtain⟨d,r,rfl,h1,h2⟩:=hasAllW_cons hsh;obtain rfl:=hasAllW_nil h2;obtain⟨xs,rfl,h3⟩:=hasW_list h1;obtain⟨ns,rfl⟩:=items_int h3;have hlen:ns.length<=n:=by
  unfold OpenLaw.pre at hc;have h4:(WTm.not (.lt (.lit (.int (n:Int))) (.len (.arg 0)))).holds [] { args:=[.list (ns.map .int)] }=true:=by have h4:=(holds_andW hc).1;rw[hn] at h4;exact h4
  have h5:=condW_of h4 (w_not (w_lt w_lit (w_len_list (w_arg rfl))));rw[MI] at h5;refine Nat.le_of_not_lt λq=>?_;have q':(n:Int)<((ns.length:Nat):Int):=by omega
  first
   | (rw[M1 q'] at h5;exact absurd h5 (by decide))
   | (simp at h5;omega)
 cases hwl with
 | cons w1 w2 =>
  cases w2;cases w1 with
  | list ho hall=>exact⟨_,_,ns,rfl,rfl,ho,mz ns _ hall,hlen⟩
def zF (l:OpenLaw)(args:List WData):l.row.toRowW.claim.post args (.bool true) args=true :=
 postW_of (r:=l.row.toRowW) (X:=(true == true))
  (show WShape.has [] (.bool true) .bool=true by solve_by_elim)
  (show (WTm.eq .res (.lit (.bool true))).value [] { args:=args,res:=some (.bool true),after:=args }=some (.bool (true == true)) from w_eq_bool (w_res rfl) w_lit) rfl
def Xr {l:OpenLaw}{n:Nat}{q:Program}{loose:List Str}{XP:(Str->Option Value)->Heap->Prop}{YP:World->Heap->Prop}{d:DefRec}
  (hn:l.most=some n) (hdf:d.params.defaults=[])
  (call:∀(w:World) (s₀ s₁:Shared) (mg mb:Str->Option Value) (fa:Addr) (o:Obj) (pm cd doc:Value) (a:Addr) (vs:List Value) (ns:List Int),
   Ground q loose [] XP w s₀ mg mb s₁.heap->YP w s₁.heap ->
   s₁.heap.get? fa=some o->o.data=.func (docDef d.name d.params d.body d.scope pm cd doc)->s₁.heap.CodeRec cd d.name->mg d.name=some (.ref fa) ->
   s₁.heap.get? a=some { cls:=.type "list",data:=.seq vs.toArray }->IntsAre vs ns->ns.length<=n->s₁.gens=#[] ->
   codeAny (model l.prog w) callerA (.call (.ref fa) ⟨[.ref a],[]⟩) (λr s'=>r=.ok (.ret (.bool true))/\OldK s₁.heap s'.heap/\s'.os=s₁.os/\AllBare s'.gens) s₁) :
  WalkO q loose XP YP l.row.toRowW d [] (λf vs=>PySem.call f vs):=by
 intro w s₀ s₁ mg mb G Y fa o pm cd doc dV kV ho hd hcd hD hmg hg args vals as hpre hlay hrd hwl hlo;obtain rfl:dV=.none:=Dflts.none hD hdf;obtain rfl:kV=.none:=Dflts.noKw hD;obtain⟨a,vs,ns,rfl,rfl,hobj,hints,hlen⟩:=zH hn hpre hwl;refine enter_call (codeAny_mono (call w s₀ s₁ mg mb fa o pm cd doc a vs ns G Y ho (fd_plain hd) hcd hmg hobj hints hlen hg) λr s' hq=>?_);obtain⟨rfl,h2,h3,h4⟩:=hq;exact⟨.inl ⟨.bool true,.bool true,[],rfl,λ_=>rfl,.bool true,zF l _,λ_=>⟨List.Pairwise.nil,λ_ hm=>(nomatch hm)⟩⟩,h2,h3,h4⟩
section
variable {prog:Program}{w:World}{A:Around}{E:Value->Shared->Prop}{s:Shared}{K:Frag}
end
end Nb
namespace L2
theorem qk:∀ {vs:List Value}{ns:List Int},IntsAre vs ns->Vals (ns.map V.int) vs
 | _,_,.nil=>.nil
 | _,_,.cons n t h=>.cons ⟨t,rfl⟩ (qk h)
noncomputable def cg (s:Stmt):Arguments:=match s with
 | .FunctionDef _ a _ _ _ _ _ _ _ _=>a
 | _=>{ posonlyargs:=[],args:=[],vararg:=none,kwonlyargs:=[],kw_defaults:=[],kwarg:=none,defaults:=[] }
noncomputable def ai (s:Stmt):List Stmt:=match s with
 | .FunctionDef _ _ b _ _ _ _ _ _ _=>b
 | _=>[]
noncomputable def af (s:Stmt):Scope:=match s with
 | .FunctionDef _ _ _ _ _ _ sc _ _ _=>sc
 | _=>{ kind:=.function,names:=[],isGenerator:=false,isCoroutine:=false }
noncomputable abbrev Vz:V0:=λ_ _ _ _ _ _=>False
noncomputable abbrev E0:XK:=λ_ _ _=>False
def Ft {X:Cx}:kN Vz X E0:=λ_ _ _ _ _ _ _ h=>h.elim
structure Ub (K:W.Frag)(x qual:Str)(st:Stmt)(f:Addr)(fd:FuncData):Prop where
 ex:∃(oc:Value) (od:Option Addr) (kV doc pm:Value) (an:Option Addr) (cdv ct:Value) (osl:Array (Option Value)),
  fd=W.fnOf x qual (cg st) (ai st) (af st) .none kV doc pm an cdv ct/\K.lookup f=some ⟨oc,od,.func fd,osl⟩/\W.codeIn K cdv qual=true
 kp:W.keepIn K (.ref f)=true
section
variable {P:Program}{w:World}{K:W.Frag}{mg:Str->Option Value}{base:Heap}
def Ub.ok {x qual:Str}{st:Stmt}{f:Addr}{fd:FuncData}{N ps:List Str}{k:Nat}{sp:Sp}(F:Ub K x qual st f fd)(S:ar N ps (af st))(len:∀vs H Q E,sp vs H Q E->vs.length=ps.length)
  (hbody:∀(cdv:Value) (A:Around) (outer:List Env) (s:Shared) (H:Hp) (vs:List V) (Q:VK) (E:XK),Zz k (A.deeper (envOfC qual (af st) s.heap.objs.size f cdv))->sp vs H Q E ->
   ∃t,Xk (oH Vz P w K mg base N qual (af st) f cdv A outer s H E).Zi (ai st) t/\t { nx:=λ_ H'=>Q .non H',rt:=Q } (start N vs) H):mE P w K mg base Vz (k+1) f fd ps sp:=by
 obtain⟨oc,od,kV,doc,pm,an,cdv,ct,osl,rfl,lk,hcd⟩:=F.ex;refine GV lk hcd S len λA outer s H vs Q E hr hsp=>?_;obtain⟨t,h,q⟩:=hbody cdv A outer s H vs Q E hr hsp;exact⟨t,h.Zi,q⟩
def Ub.binds {x qual:Str}{st:Stmt}{f:Addr}{fd:FuncData}{ps:List Str}(F:Ub K x qual st f fd)
  (h:∀(kV doc pm:Value) (an:Option Addr) (cdv ct:Value) (us:List Value),us.length=ps.length->bindArgs (W.fnOf x qual (cg st) (ai st) (af st) .none kV doc pm an cdv ct) ⟨us,[]⟩=pure (ps.zip us)):Binds K fd ps []:=by
 obtain⟨oc,od,kV,doc,pm,an,cdv,ct,osl,rfl,lk,hcd⟩:=F.ex;exact .all (h kV doc pm an cdv ct)
def B2 {x qual:Str}{st:Stmt}{f:Addr}{oc:Value}{od an:Option Addr}{osl:Array (Option Value)}{kV doc pm cdv ct:Value}(l:K.lookup f=some ⟨oc,od,.func (W.fnOf x qual (cg st) (ai st) (af st) .none kV doc pm an cdv ct),osl⟩)
  (c:W.codeIn K cdv qual=true) (k:W.keepIn K (.ref f)=true):Ub K x qual st f (W.fnOf x qual (cg st) (ai st) (af st) .none kV doc pm an cdv ct):=⟨⟨oc,od,kV,doc,pm,an,cdv,ct,osl,rfl,l,c⟩,k⟩
end
section
variable {X:Cx}
end
def JT {A B:Prop}(h:A):if true=true then A else B:=by assumption
def Ws (H H':Hp):Prop:=∀b o,H b=some o->H' b=some o
def Ws.seq {K:W.Frag}{H H':Hp}{a:Addr}{xs:List V}(e:Ws H H')(h:Zr K H a xs):Zr K H' a xs:=by
 rcases h with (h|⟨o,h⟩)|h
 ·solve_by_elim
 ·exact .inl (.inr ⟨o,e _ _ h⟩)
 ·exact .inr h
end L2
namespace HX
open L2
section
variable {X:Cx}{a b c:Expr}{ta tb tc:TE}{pos:Pos}
def Yj (j:Int):Prop:=0<j/\j.natAbs.log2<9000
def Vm (i j:Int):Prop:=i.natAbs<2 ^ 20000/\j.natAbs<2 ^ 20000\/(-(2 ^ 64)<i/\i<2 ^ 64)\/(-(2 ^ 64)<j/\j<2 ^ 64)
def yg {i:Int}{n:Nat}(h:i.natAbs<2 ^ n):Builtin.Int.intBits i<=n:=by
 unfold Builtin.Int.intBits;split
 ·simp
 ·rename_i hz;have h0:i.natAbs≠0:=by
   intro z;apply hz;have:i=0:=by omega
   simp[this]
  have:i.natAbs.log2<n:=(QR h0).mpr h
  lia
def Vm.ok {i j:Int}(h:Vm i j):IntMulOk i j:=by
 rcases h with⟨h1,h2⟩|⟨h1,h2⟩|⟨h1,h2⟩
 ·exact IntMulOk.of_le (yg h1) (yg h2) (by decide)
 ·exact .of_left (intBits_le_64 h1 h2)
 ·exact .of_right (intBits_le_64 h1 h2)
def Yj.of {j:Int}(h:0<j)(h2:j<2 ^ 8999):Yj j:=by
 refine⟨h,?_⟩;have h0:j.natAbs≠0:=by omega
 have:j.natAbs<2 ^ 8999:=by
  have e:((2:Int) ^ 8999)=((2 ^ 8999:Nat):Int):=by rw[Int.natCast_pow];rfl
  rw[e] at h2;generalize (2:Nat) ^ 8999=z at h2 |-
  omega
 have:=(QR h0).mpr this
 lia
def D4:Y9 X (binaryOp .Mult) (rI Vm λi j=>.int (i*j)):=R3 λ_ _ _ _ _ _ _ hc q=>mul_int q hc.ok
def CS:Y9 X (binaryOp .FloorDiv) (rI (λ_ j=>Yj j) λi j=>.int (i/j)):=R3 λi j _ _ _ _ _ hc q=>by refine floordiv_int (by have:=hc.1;lia) ?_ (.inl (PY hc.2));rw[Int.fdiv_eq_ediv_of_nonneg _ (Q9 hc.1)];exact q
def tf:cH X (.builtin "divmod") (λxs H Q=>∃i j,xs=[.int i,.int j]/\Yj j/\∀p,H p=none->Q (.ref p) (upd H p (.tup [.int (i/j),.int (i % j)]))):=by intro pins s O H xs us Q I r h;obtain⟨i,j,rfl,hc,q⟩:=h;obtain⟨u,v,rfl,⟨t,rfl⟩,⟨t',rfl⟩⟩:=jV r;refine divmod_int (by have:=hc.1;omega) ?_ (.inl (PY hc.2));rw[Int.fdiv_eq_ediv_of_nonneg _ (Q9 hc.1),Int.fmod_eq_emod_of_nonneg _ (Q9 hc.1)];have hf:H s.heap.objs.size=none:=I.hok.fresh (MJ _);refine⟨.ref s.heap.objs.size,upd H s.heap.objs.size (.tup [.int (i/j),.int (i % j)]),I.laid (t':=s.toks+1+1) (λb u e=>MB _ e) (MJ _) ?_,rfl,q _ hf⟩;exact⟨by show 2<=sizeLine;decide,[_,_],.cons ⟨_,rfl⟩ (.cons ⟨_,rfl⟩ .nil),⟨_,MH _ rfl,rfl,_,rfl⟩⟩
def u9 {x:V}{v:Value}(r:RelV x v)(k:Bool):(v == Value.bool k)=decide (x=.bl k):=by
 cases x with
 | non=>cases r;rfl
 | bl b=>cases r;cases b <;> cases k <;> rfl
 | int _=>obtain⟨t,rfl⟩:=r;rfl
 | str _=>obtain⟨t,rfl⟩:=r;rfl
 | W_ _=>obtain⟨t,rfl⟩:=r;rfl
 | flt _=>obtain⟨t,rfl⟩:=r;rfl
 | ref _=>cases r;rfl
 | ty _=>cases r;rfl
def oq {x:V}{v:Value}(r:RelV x v)(k:Bool):plainIs v (.bool k)=true:=by
 cases x with
 | non=>cases r;rfl
 | bl b=>cases r;rfl
 | int _=>obtain⟨t,rfl⟩:=r;rfl
 | str _=>obtain⟨t,rfl⟩:=r;rfl
 | W_ _=>obtain⟨t,rfl⟩:=r;rfl
 | flt _=>obtain⟨t,rfl⟩:=r;rfl
 | ref _=>cases r;rfl
 | ty _=>cases r;rfl
noncomputable def LZ:R2:=λx y H Q=>∃k,y=.bl k/\Q (.bl (decide (x=.bl k))) H
noncomputable def EN:R2:=λx y H Q=>∃k,y=.bl k/\Q (.bl (!decide (x=.bl k))) H
def HY:Y9 X (compareOp .Is) LZ:=by intro pins s O H x y v u Q I rx ry h;obtain⟨k,rfl,q⟩:=h;cases ry;exact wpAny_is_plain (oq rx k) ⟨.bl _,H,I,by rw[u9 rx k];rfl,q⟩
def z_:Y9 X (compareOp .IsNot) EN:=by intro pins s O H x y v u Q I rx ry h;obtain⟨k,rfl,q⟩:=h;cases ry;exact wpAny_isNot_plain (oq rx k) ⟨.bl _,H,I,by rw[u9 rx k];rfl,q⟩
noncomputable def a9 (c n:String):Bool:=c == n || (n == "bool" && c == "int")
noncomputable def Lv (n c:String):Option Bool:=if (Value.type n == Value.type c)=true then some true else if W.kitMeta c=true then (fastBuiltinMro n).map (·.contains (.type c)) else none
def Fg (K:W.Frag)(n c:String):W.kitOne K (.type n) (.type c)=Lv n c:=rfl
def Bb:∀c∈["int","bool","str","tuple","list","dict"],∀n∈["NoneType","bool","int","str","list","tuple","dict"],Lv n c=some (a9 c n):=by decide +kernel
def B7 (K:W.Frag):∀c∈["int","bool","str","tuple","list","dict"],∀n∈["NoneType","bool","int","str","list","tuple","dict"],W.kitOne K (.type n) (.type c)=some (a9 c n):=by intro c hc n hn;rw[Fg];exact Bb c hc n hn
end
def DD {X:Cx}{pins:List (Addr × Obj)}{O:L2.St}{H:Hp}{s:Shared}(I:Inv X pins O H s):sysModules<s.heap.objs.size :=
 U3 (by decide) (show mainGlobals<s.heap.objs.size from (I.mod.glob.keeps I.bk).lt)
noncomputable abbrev D:=PyData
mutual
noncomputable def Den (K:W.Frag)(H:Hp):D->V->Prop
 | .none,v=>v=.non
 | .bool b,v=>v=.bl b
 | .int i,v=>v=.int i
 | .str x,v=>v=.str x
 | .tuple ds,v=>∃a xs,v=.ref a/\ZC K H a xs/\Zu K H ds xs
 | .list ds,v=>∃a xs,v=.ref a/\Zr K H a xs/\Zu K H ds xs
 | .dict _,_=>False
noncomputable def Zu (K:W.Frag)(H:Hp):List D->List V->Prop
 | [],xs=>xs=[]
 | d::ds,xs=>∃x r,xs=x::r/\Den K H d x/\Zu K H ds r
end
section
variable {K:W.Frag}{H H':Hp}{v:V}{xs:List V}
def WX {i:Int}:Den K H (.int i) v↔v=.int i:=by solve_by_elim
def V8 {i:Bool}:Den K H (.bool i) v↔v=.bl i:=by solve_by_elim
def W2 {i:Str}:Den K H (.str i) v↔v=.str i:=by solve_by_elim
def WY:Den K H .none v↔v=.non:=by solve_by_elim
def XQ {ds:List D}:Den K H (.tuple ds) v↔∃a xs,v=.ref a/\ZC K H a xs/\Zu K H ds xs:=by rw[Den]
def YC {ds:List D}:Den K H (.list ds) v↔∃a xs,v=.ref a/\Zr K H a xs/\Zu K H ds xs:=by rw[Den]
def Aw:Zu K H [] xs↔xs=[]:=by solve_by_elim
def lN {d:D}{ds:List D}:Zu K H (d::ds) xs↔∃x r,xs=x::r/\Den K H d x/\Zu K H ds r:=by rw[Zu]
def Xa {d:D}{ds:List D}{x:V}:Zu K H (d::ds) (x::xs)↔Den K H d x/\Zu K H ds xs:=by
 rw[lN];constructor
 ·rintro⟨_,_,e,h1,h2⟩
  simp_all
 ·rintro⟨h1,h2⟩;exact⟨_,_,rfl,h1,h2⟩
def AF {a:Addr}(e:Ws H H')(h:ZC K H a xs):ZC K H' a xs:=by
 rcases h with (h|⟨o,h⟩)|h
 ·solve_by_elim
 ·exact .inl (.inr ⟨o,e _ _ h⟩)
 ·exact .inr h
end
mutual
theorem Den.mono {K:W.Frag}{H H':Hp}(e:Ws H H'):∀ {d:D}{v:V},Den K H d v->Den K H' d v
 | .none,v,h=>by assumption
 | .bool b,v,h=>by assumption
 | .int b,v,h=>by assumption
 | .str b,v,h=>by assumption
 | .dict b,v,h=>by assumption
 | .tuple ds,v,h=>by
  rw[XQ] at h |-
  obtain⟨a,xs,h1,h2,h3⟩:=h;exact⟨a,xs,h1,AF e h2,Zu.mono e h3⟩
 | .list ds,v,h=>by
  rw[YC] at h |-
  obtain⟨a,xs,h1,h2,h3⟩:=h;exact⟨a,xs,h1,Ws.seq e h2,Zu.mono e h3⟩
theorem Zu.mono {K:W.Frag}{H H':Hp}(e:Ws H H'):∀ {ds:List D}{xs:List V},Zu K H ds xs->Zu K H' ds xs
 | [],xs,h=>by assumption
 | d::ds,xs,h=>by
  rw[lN] at h |-
  obtain⟨x,r,h1,h2,h3⟩:=h;exact⟨x,r,h1,Den.mono e h2,Zu.mono e h3⟩
end
section
variable {X:Cx}{pins:List (Addr × Obj)}{O:L2.St}{H:Hp}{s:Shared}
mutual
theorem Den.reads (I:Inv X pins O H s):∀(d:D) (v:V) (u:Value),Den X.K H d v->RelV v u->∃as,Reads s.heap u d as
 | .none,v,u,h,r=>by rw[WY] at h;subst h;cases r;exact⟨_,.none⟩
 | .bool b,v,u,h,r=>by rw[V8] at h;subst h;cases r;solve_by_elim
 | .int b,v,u,h,r=>by rw[WX] at h;subst h;obtain⟨t,rfl⟩:=r;solve_by_elim
 | .str b,v,u,h,r=>by rw[W2] at h;subst h;obtain⟨t,rfl⟩:=r;solve_by_elim
 | .dict b,v,u,h,r=>by solve_by_elim
 | .tuple ds,v,u,h,r=>by rw[XQ] at h;obtain⟨a,xs,rfl,h2,h3⟩:=h;cases r;obtain⟨its,rv,⟨o,ho,hc,n,hd⟩,_⟩:=I.tuple h2;obtain⟨as,hr⟩:=Zu.reads I ds xs its h3 rv;exact⟨as,.tuple ho hc hd (by simp_all)⟩
 | .list ds,v,u,h,r=>by rw[YC] at h;obtain⟨a,xs,rfl,h2,h3⟩:=h;cases r;obtain⟨its,rv,p,_⟩:=I.list h2;obtain⟨o,ho,hc,n,hd⟩:=p.isList;obtain⟨as,hr⟩:=Zu.reads I ds xs its h3 rv;exact⟨_,.list ho hc hd (by simpa using hr)⟩
theorem Zu.reads (I:Inv X pins O H s):∀(ds:List D) (xs:List V) (us:List Value),Zu X.K H ds xs->Vals xs us->∃as,ReadsAll s.heap us ds as
 | [],xs,us,h,r=>by rw[Aw] at h;subst h;cases r;exact⟨_,.nil⟩
 | d::ds,xs,us,h,r=>by
  rw[lN] at h;obtain⟨x,q,rfl,h2,h3⟩:=h;cases r with
  | cons r1 r2 =>obtain⟨as,h4⟩:=Den.reads I d x _ h2 r1;obtain⟨bs,h5⟩:=Zu.reads I ds q _ h3 r2;exact⟨_,.cons h4 h5⟩
end
end
section
variable {X:Cx}
noncomputable def Ma (K:W.Frag):R2:=λx y H Q=>∃d e,Den K H d x/\Den K H e y/\SeqAt.shaped d=true/\SeqAt.shaped e=true/\Q (.bl (PyData.eqv d e)) H
noncomputable def LR (K:W.Frag):R2:=λx y H Q=>∃d e,Den K H d x/\Den K H e y/\SeqAt.shaped d=true/\SeqAt.shaped e=true/\Q (.bl (!PyData.eqv d e)) H
def IB (hu:X.A.units+64<cLine):Y9 X (compareOp .Eq) (Ma X.K):=by intro pins s O H x y v u Q I rx ry h;obtain⟨d,e,h1,h2,h3,h4,q⟩:=h;obtain⟨as,ra⟩:=Den.reads I d x v h1 rx;obtain⟨bs,rb⟩:=Den.reads I e y u h2 ry;exact eq_dataH ra rb h3 h4 hu ⟨.bl _,H,I,rfl,q⟩
def HN (hu:X.A.units+64<cLine):Y9 X (compareOp .NotEq) (LR X.K):=by intro pins s O H x y v u Q I rx ry h;obtain⟨d,e,h1,h2,h3,h4,q⟩:=h;obtain⟨as,ra⟩:=Den.reads I d x v h1 rx;obtain⟨bs,rb⟩:=Den.reads I e y u h2 ry;exact ne_dataH ra rb h3 h4 hu ⟨.bl _,H,I,rfl,q⟩
structure V1 (P:Program)(w:World)(K:W.Frag)(mg:Str->Option Value)(base:Heap)(k:Nat)(x:Str)(ps:List Str)(sp:Sp):Prop where
 ex:∃(f:Addr) (fd:FuncData),mE P w K mg base Vz k f fd ps sp/\mg x=some (.ref f)/\W.keepIn K (.ref f)=true/\Binds K fd ps []
structure At (K:W.Frag)(mg:Str->Option Value)(x:Str)(st:Stmt)(ps:List Str):Prop where
 ex:∃(f:Addr) (fd:FuncData),Ub K x x st f fd/\mg x=some (.ref f)/\Binds K fd ps []
def At.mk' {K:W.Frag}{mg:Str->Option Value}{h:Heap}{x:Str}{st:Stmt}{ps:List Str}{f:Addr}{oc:Value}{od an:Option Addr}{osl:Array (Option Value)}{kV doc pm cdv ct:Value}(X:K.In h)(G:h.Ns mainGlobals mg)
  (hb:∀(kV doc pm:Value) (an:Option Addr) (cdv ct:Value) (us:List Value),us.length=ps.length->bindArgs (W.fnOf x x (cg st) (ai st) (af st) .none kV doc pm an cdv ct) ⟨us,[]⟩=pure (ps.zip us))
  (a:W.nsIn K mainGlobals x=some (some (.ref f))) (l:K.lookup f=some ⟨oc,od,.func (W.fnOf x x (cg st) (ai st) (af st) .none kV doc pm an cdv ct),osl⟩)
  (c:W.codeIn K cdv x=true) (k:W.keepIn K (.ref f)=true):At K mg x st ps:=by
 have F:=B2 (st:=st) l c k;exact⟨f,_,F,P6 X G a,F.binds hb⟩
theorem At.ok {P:Program}{w:World}{K:W.Frag}{mg:Str->Option Value}{base:Heap}{x:Str}{st:Stmt}{N ps:List Str}{k:Nat}{sp:Sp}(F:At K mg x st ps)(S:ar N ps (af st))(len:∀vs H Q E,sp vs H Q E->vs.length=ps.length)
  (hbody:∀(f:Addr) (cdv:Value) (A:Around) (outer:List Env) (s:Shared) (H:Hp) (vs:List V) (Q:VK) (E:XK),Zz k (A.deeper (envOfC x (af st) s.heap.objs.size f cdv))->sp vs H Q E ->
   ∃t,Xk (oH Vz P w K mg base N x (af st) f cdv A outer s H E).Zi (ai st) t/\t { nx:=λ_ H'=>Q .non H',rt:=Q } (start N vs) H):V1 P w K mg base (k+1) x ps sp:=by
 obtain⟨f,fd,Ff,m,b⟩:=F.ex;exact⟨f,fd,Ff.ok S len (λcdv A outer s H vs Q E hr h=>hbody f cdv A outer s H vs Q E hr h),m,Ff.kp,b⟩
def Ja {k:Nat}{x:Str}{ps:List Str}{sp:Sp}{p pos:Pos}{e:Expr}{es:List Expr}{t:TA}(F:V1 X.prog X.w X.K X.mg X.base k x ps sp)(hr:Zz k X.A)(ha:PA X (e::es) t)
  (hg:Gl X x:=by rfl) (hdb:(x == ("__debug__":Str))=false:=by decide) (he:starEach (e::es) X.env=(false,eval e X.env)::starEach es X.env:=by rfl) (hpl:(backTo pos (starEach es X.env)).any (·.1)=false:=by rfl) :
  PE X (.Call (.Name x p) (e::es) [] pos) (jh sp [] E0 t):=by
 obtain⟨f,fd,F,m,kp,b⟩:=F.ex;exact sO F hr hg m kp b .nil Ft ha hdb he hpl
def Fd {k:Nat}{x:Str}{ps:List Str}{sp:Sp}{p pos:Pos}(F:V1 X.prog X.w X.K X.mg X.base k x ps sp)(hr:Zz k X.A)
  (hg:Gl X x:=by rfl) (hdb:(x == ("__debug__":Str))=false:=by decide) :
  PE X (.Call (.Name x p) [] [] pos) (jh sp [] E0 kH):=by
 obtain⟨f,fd,F,m,kp,b⟩:=F.ex;exact Bw F hr hg m kp b .nil Ft hdb
end
noncomputable def ao:Expr->Bool
 | .Starred ..=>false
 | _=>true
def ay {e:Expr}{es:List Expr}{env:Env}(h:ao e=true):starEach (e::es) env=(false,eval e env)::starEach es env:=by cases e <;> first|rfl|cases h
theorem vw {env:Env}:∀ {es:List Expr},es.all ao=true->(starEach es env).any (·.1)=false
 | [],_=>rfl
 | e::es,h=>by rw[OB,MG] at h;rw[ay h.1,O9,vw h.2];rfl
noncomputable def iM:Expr->Bool
 | .Slice ..=>false
 | _=>true
def KH {b:Expr}(h:iM b=true):xX b:=λo i=>by cases b <;> first|rfl|cases h
section
variable {X:Cx}
def Yy {e:Expr}{es:List Expr}{te:TE}{t:TA}(ha:PE X e te)(hr:PA X es t)(h:ao e=true:=by rfl):PA X (e::es) (eQ te t):=EG ha hr (ay h)
def AQ {a b:Expr}{ta tb:TE}{pos:Pos}{r:R2}(hr:Uc X r)(ha:PE X a ta)(hb:PE X b tb)(hs:iM b=true:=by rfl):PE X (.Subscript a b pos) (Tr r ta tb):=K6 hr ha hb (KH hs)
def fD {env:Env}{pos:Pos}{es:List Expr}(h:es.all ao=true):(backTo pos (starEach es env)).any (·.1)=false:=by have:=vw (env:=env) h;unfold backTo;rw[List.any_map];exact this
def DL {k:Nat}{x:Str}{ps:List Str}{sp:Sp}{p pos:Pos}{e:Expr}{es:List Expr}{t:TA}(F:V1 X.prog X.w X.K X.mg X.base k x ps sp)(hr:Zz k X.A)(ha:PA X (e::es) t)
  (hg:Gl X x:=by rfl) (hdb:(x == ("__debug__":Str))=false:=by decide) (he:ao e=true:=by rfl) (hpl:es.all ao=true:=by rfl) :
  PE X (.Call (.Name x p) (e::es) [] pos) (jh sp [] E0 t):=Ja F hr ha hg hdb (ay he) (fD hpl)
def ff {id:String}{r:List V->Hp->VK->Prop}{x:Str}{p pos:Pos}{e:Expr}{es:List Expr}{t:TA}(hc:cH X (.builtin id) r)(hg:Gl X x)(hm:X.mg x=none)(hv:bootBuiltins x=some (.builtin id))(ha:PA X (e::es) t)(hn:x≠"__name__":=by decide)(hdb:(x == ("__debug__":Str))=false:=by decide)
  (he:ao e=true:=by rfl) (hpl:es.all ao=true:=by rfl):PE X (.Call (.Name x p) (e::es) [] pos) (Tp r t):=Ag hc hg hm hv ha hn hdb (ay he) (fD hpl)
def nh {T:String}{r:List V->Hp->VK->Prop}{x:Str}{p pos:Pos}{e:Expr}{es:List Expr}{t:TA}(hc:cH X (.type T) r)(hg:Gl X x)(hm:X.mg x=none)(hv:bootBuiltins x=some (.type T))(ha:PA X (e::es) t)(hn:x≠"__name__":=by decide)(hdb:(x == ("__debug__":Str))=false:=by decide)
  (he:ao e=true:=by rfl) (hpl:es.all ao=true:=by rfl):PE X (.Call (.Name x p) (e::es) [] pos) (Tp r t):=zc hc hg hm hv ha hn hdb (ay he) (fD hpl)
end
end HX
namespace L2
section
variable {κ:Type} [DecidableEq κ]
noncomputable def nH (kvs:List (κ × V))(k:κ):Option V:=(kvs.find? λkv=>decide (kv.1=k)).map (·.2)
def AL {p:κ × V}{r:List (κ × V)}{k:κ}(e:p.1=k):nH (p::r) k=some p.2:=by simp[nH,List.find?_cons,e]
def CF {p:κ × V}{r:List (κ × V)}{k:κ}(e:¬p.1=k):nH (p::r) k=nH r k:=by simp[nH,List.find?_cons,e]
def XJ.Ww {o:Option V}{u:Option Value}(r:XJ o u):o.isSome=u.isSome:=by
 cases o with
 | none=>cases u with
  | none=>rfl
  | some _=>solve_by_elim
 | some _=>cases u with
  | none=>solve_by_elim
  | some _=>rfl
theorem XJ.getD {o:Option V}{u:Option Value}{d:V}{d':Value}(r:XJ o u)(rd:RelV d d'):RelV (o.getD d) (u.getD d'):=by
 cases o with
 | none=>cases u with
  | none=>exact rd
  | some _=>solve_by_elim
 | some _=>cases u with
  | none=>solve_by_elim
  | some _=>exact r
def KV.val {kvs:List (κ × V)}{vs:List (κ × Value)}(r:KV kvs vs)(k:κ):XJ (nH kvs k) (valueAt vs k):=by
 unfold KV at r
 induction r with
 | nil=>exact True.intro
 | @cons p q ps qs h t ih =>
  obtain⟨h1,h2⟩:=h;by_cases e:p.1=k
  ·have e':q.1=k:=h1.symm.trans e;have b:valueAt (q::qs) k=some q.2:=by simp[valueAt,List.find?_cons,e']
   rw[AL e,b];exact h2
  ·have e':¬q.1=k:=λz=>e (h1.trans z);have b:valueAt (q::qs) k=valueAt qs k:=by simp[valueAt,List.find?_cons,e']
   rw[CF e,b];exact ih
end
def uc {P:Program}{w:World}{k:Key}{u:Value}(r:RelV (kV k) u):(cA P w).is k u=true:=by
 cases k with
 | inl i=>obtain⟨t,e⟩:=(show ∃t,u=Value.int i t from r);subst e;exact uN P w i t
 | inr x=>obtain⟨t,e⟩:=(show ∃t,u=Value.str x t from r);subst e;exact fM P w x t
section
variable {P:Program}{w:World}{H:Hp}{h:Heap}{a:Addr}
def Ks {u:HO}(ok:YX P w H h)(e:Rd H a u):ZL P w H h a u:=e.ok ok
def GT {kvs:List (Key × V)}(ok:YX P w H h)(e:Rd H a (.dK kvs)):kvs.length<=sizeLine/\(a == sysModules)=false/\∃vs,KV kvs vs/\h.DictOf (cA P w) a vs :=
 show ZL P w H h a (.dK kvs) from Ks ok e
end
section
variable {X:Cx}{pins:List (Addr × Obj)}{O:St}{H:Hp}{s:Shared}{a:Addr}{y v:V}{u r:Value}{o:Option V}{A:Around}{E:Value->Shared->Prop}
end
section
variable {X:Cx}{pins:List (Addr × Obj)}{O:St}{H:Hp}{s:Shared}{a:Addr}{kvs:List (Key × V)}{k:Key}{u:Value}{A:Around}{E:Value->Shared->Prop}
end
section
variable {X:Cx}{pins:List (Addr × Obj)}{O:St}{H:Hp}{s:Shared}{a:Addr}{kvs:List (Key × V)}{A:Around}{E:Value->Shared->Prop}
end
section
variable {X:Cx}{pins:List (Addr × Obj)}{O:St}{H:Hp}{s:Shared}{a:Addr}{y d:V}{u r:Value}{o:Option V}{A:Around}{E:Value->Shared->Prop}
end
end L2
namespace FW
open L2
def w9 (t:SetTable)(es:Array (Int × Value))(x:Int)(v:Value):(layNew t es x v).2.1.led=t.led:=by
 unfold layNew;cases t.freeSlot x with
 | none=>rfl
 | some p =>dsimp only;unfold SetTable.orStandIn;split <;> rfl
def pW (t:SetTable)(es:Array (Int × Value))(n:Nat)(h:t.plain=false):(relayAll t es n).2.1.led=t.led/\(relayAll t es n).2.1.plain=false:=by
 unfold relayAll;cases q:t.relaid (es.map (·.1)) n with
 | none=>exact⟨rfl,rfl⟩
 | some p =>
  dsimp only;split
  ·unfold SetTable.relaid SetTable.laid at q;cases c:SetTable.layClean (SetTable.sizeAbove n-1) (es.map (·.1)) with
   | none=>rw[c] at q;cases q
   | some o=>rw[c] at q;cases q;exact⟨rfl,h⟩
  ·exact⟨rfl,rfl⟩
structure uH (b:Bool)(es:Array (Int × Value))(t:SetTable):Prop where
 fit:t.fits es.size=true
 led:t.led=b
 pl:es.size=0\/t.plain=false
structure SK (prog:Program)(w:World)(κ:Type)[DecidableEq κ] where
 knd:KeyKind prog w κ
 kf:Value->κ
 eq:∀ {k:κ}{v:Value},knd.is k v=true->kf v=k
 sc:∀ {k:κ}{v:Value},knd.is k v=true->v.scannable=true/\plainKind v=false
section
variable {prog:Program}{w:World}{κ:Type} [DecidableEq κ] {A:Around}{E:Value->Shared->Prop}{s:Shared}{S:SK prog w κ}
def EI (S:SK prog w κ)(e:Int × Value):Prop:=∃k:κ,S.knd.is k e.2=true/\e.1=S.knd.hash k
structure XM (S:SK prog w κ)(b:Bool)(es:Array (Int × Value))(t:SetTable)(zs:List κ):Prop where
 el:∀e∈es.toList,EI S e
 nd:(es.toList.map λe=>S.kf e.2).Nodup
 mem:∀i,i∈(es.toList.map λe=>S.kf e.2)↔i∈zs
 ln:es.size<=zs.length
 tb:uH b es t
noncomputable abbrev eN (es:Array (Int × Value))(ep:Nat)(t:SetTable):Obj:={ cls:=.type "set",dict:=none,data:=.set es ep t }
def Zd (S:SK prog w κ)(b:Bool)(h:Heap)(a:Addr)(zs:List κ):Prop:=∃es ep t,h.get? a=some (eN es ep t)/\XM S b es t zs
def EI.of {es:List (Int × Value)}(h:∀e∈es,EI S e):ElemsOf S.knd es:=λe he=>by obtain⟨k,h1,h2⟩:=h e he;exact⟨⟨k,h1,h2⟩,(S.sc h1).1⟩
def XM.perm {b:Bool}{es es':Array (Int × Value)}{t t':SetTable}{zs:List κ}(h:XM S b es t zs)(p:List.Perm es'.toList es.toList)(f:uH b es' t'):XM S b es' t' zs :=
 ⟨λe he=>h.el e (p.mem_iff.mp he),(p.map _).nodup_iff.mpr h.nd,λi=>((p.map _).mem_iff).trans (h.mem i),by have:=p.length_eq;rw[NB,NB] at this;rw[this];exact h.ln,f⟩
def Ii {b:Bool}{es es2:Array (Int × Value)}{t9 t2:SetTable}{gave:Bool}{n:Nat}{zs:List κ}(e:relayAll t9 es n=(es2,t2,gave))(p:t9.plain=false)(D:XM S b es t9 zs):XM S b es2 t2 zs:=by have a:=relayAll_perm t9 es n;have f:=relayAll_fits t9 es n;have k:=pW t9 es n p;rw[e] at a f k;exact D.perm a ⟨f,k.1.trans D.tb.led,.inr k.2⟩
def XM.more {b:Bool}{es es':Array (Int × Value)}{t t':SetTable}{zs:List κ}{k:κ}{v:Value}(h:XM S b es t zs)(hv:S.knd.is k v=true)(new:k ∉ (es.toList.map λe=>S.kf e.2))(p:List.Perm es'.toList (es.push (S.knd.hash k,v)).toList)(f:uH b es' t'):XM S b es' t' (zs++[k]):=by
 rw[Array.toList_push] at p;have ek:=S.eq hv;refine⟨λe he=>?_,?_,λi=>?_,?_,f⟩
 ·rcases MN.mp (p.mem_iff.mp he) with he|he
  ·exact h.el e he
  ·rw[MF] at he;subst he;solve_by_elim
 ·rw[(p.map _).nodup_iff,NM,QS];refine⟨h.nd,by simp,λx hx y hy=>?_⟩;have:y=k:=by simpa[ek] using hy
  subst this;exactλz=>new (z ▸ hx)
 ·rw[(p.map _).mem_iff,NM,MN,MN,h.mem];simp[ek]
 ·have:=p.length_eq;rw[NB,MS,NB] at this;have:=h.ln;simp[*]
def CL {a:Addr}{es es':Array (Int × Value)}{ep:Nat}{t t':SetTable}{Q:Unit->Shared->Prop}(ho:s.heap.get? a=some (eN es ep t))(hz:es'.size<4000)
  (h:∀h',Heap.SameBut a s.heap h'->h'.get? a=some (eN es' (ep+1) t')->Q () { s with heap:=h' }):wpAny (model prog w) A (storeSet a es' t') Q E s:=by
 refine wpAny_storeSet_of ho rfl (h _ (NW s.heap a (Obj.putSet es' t')) ?_) (by rw[sizeLine_eq];lia);have:=M7 (Obj.putSet es' t') ho (by solve_by_elim);assumption
def Mc {b:Bool}{a:Addr}{zs:List κ}{k:κ}{v:Value}{Q:Bool->Shared->Prop}(hkey:S.knd.is k v=true)(hZ:Zd S b s.heap a zs)(room:zs.length<1000)
  (h:∀r h',Heap.SameBut a s.heap h'->Zd S b h' a (zs++[k])->Q r { s with heap:=h' }):wpAny (model prog w) A (setAddHashed a v (S.knd.hash k)) Q E s:=by
 obtain⟨es,ep,t,ho,D⟩:=hZ;have hsz:=D.ln;obtain⟨hsc,hpk⟩:=S.sc hkey;have hel:=EI.of D.el;have hb:es.size<scanBound:=by unfold scanBound;omega
 unfold setAddHashed setAddHashedIn;refine NU (MA (wpAny_setState_of ho rfl D.tb.fit ?_));dsimp only;rw[byScan_of (knd:=S.knd) (x:=v) hsc hb hel,MK rfl];unfold setAddByScan;refine MA (MA (wpAny_rule (MA (wpAny_setScan_of hkey ho rfl D.tb.fit hel ?_))));cases hr:List.findIdx? (λe=>S.knd.is k e.2) es.toList with
 | some j =>
  obtain⟨hj,hpj,_⟩:=List.findIdx?_eq_some_iff_getElem.mp hr;refine MC (MC ?_);have inn:k∈zs:=(D.mem k).mp (MR.mpr ⟨es.toList[j],OJ hj,S.eq hpj⟩);refine h false s.heap (Heap.SameBut.refl a s.heap) ⟨es,ep,t,ho,D.el,D.nd,λi=>?_,by simp;lia,D.tb⟩;rw[D.mem,MN,MF]
  simp_all
 | none =>
  have new:k ∉ (es.toList.map λe=>S.kf e.2):=λz=>by
   obtain⟨e,he,ek⟩:=MR.mp z;have n:=List.findIdx?_eq_none_iff.mp hr e he;obtain⟨k',h1,_⟩:=D.el e he;have:k'=k:=(S.eq h1).symm.trans ek
   simp_all
  have hp:=layNew_perm t es (S.knd.hash k) v;have hf:=layNew_fits t es (S.knd.hash k) v;have hk:=w9 t es (S.knd.hash k) v;dsimp only;generalize layNew t es (S.knd.hash k) v=L at hp hf hk |-
  obtain⟨es1,t1,wd,gave⟩:=L;dsimp only at hp hf hk |-
  have l1:es1.size=es.size+1:=by simpa using hp.length_eq
  refine MA ?_;cases gave <;> (first|refine MC ?_|refine wpAny_rule ?_)
  all_goals
   split
  all_goals
   first|(refine MA ?_;rw[hashByValue_scannable 8 (x:=v) hsc,hpk];refine MC ?_;rw[MM ME];generalize ht:({ t1 with plain:=false }:SetTable)=t9)|(refine MA (MC ?_);rw[MK rfl];generalize ht:t1=t9)
  all_goals
   have p9:t9.plain=false:=by subst ht;first|rfl|simp_all
   have D1:=D.more hkey new hp (t':=t9) (b:=b) (by rw[<-ht] at p9 |-;exact⟨hf,hk.trans D.tb.led,.inr p9⟩);refine MA (CL ho (by omega) λh1 Ou g1=>?_);split
  all_goals
   first
    | exact MC (MC (h true h1 Ou ⟨es1,ep+1,_,g1,D1⟩))
    | (obtain⟨⟨es2,t2,gave2⟩,e2⟩:∃L,relayAll t9 es1 (SetTable.grown es1.size)=L:=⟨_,rfl⟩
       rw[e2];have D2:=Ii e2 p9 D1;have l2:=D2.ln;rw[MS,List.length_singleton] at l2;dsimp only;refine MA ?_;cases gave2 <;> (first|refine MC ?_|refine wpAny_rule ?_)
       all_goals
         exact MA (CL g1 (by omega) λh2 sb2 g2=>MC (MC (h true h2 (Ou.trans sb2) ⟨es2,ep+1+1,t2,g2,D2⟩))))
end
def Z6:Slot "set_iterator" "__next__" "set_iterator.__next__" :=
 .of (owner:="set_iterator") (n:="__next__") (by solve_by_elim) (by solve_by_elim) (by solve_by_elim) (by solve_by_elim)
  (by solve_by_elim) (by solve_by_elim)
def fc:Slot "set_iterator" "__iter__" "set_iterator.__iter__" :=
 .of (owner:="set_iterator") (n:="__iter__") (by solve_by_elim) (by solve_by_elim) (by solve_by_elim) (by solve_by_elim)
  (by solve_by_elim) (by solve_by_elim)
def eF:entryFor table "set_iterator.__next__"=some Builtin.«set_iterator.__next__»:=entryFor_of_tree (by kernel_rfl)
def jm:entryFor table "set_iterator.__iter__"=some Builtin.«dict_keyiterator.__iter__» :=
 entryFor_alias (id':="dict_keyiterator.__iter__") (by kernel_rfl) rfl (by decide +kernel) (by kernel_rfl)
def om:entryFor table "set.__iter__"=some Builtin.«frozenset.__iter__» :=
 entryFor_alias (id':="frozenset.__iter__") (by kernel_rfl) rfl (by decide +kernel) (by kernel_rfl)
def u7:Manifest.owners.lookup (String.ofList ['r','o','t','a','r','e','t','i','_','t','e','s'].reverse)=some Manifest.sig_set_iterator:=by kernel_rfl
def eY (a:Value):argsOk "set_iterator.__next__" ⟨[a],[]⟩:=by unfold argsOk;rw [signature?_of (id:="set_iterator.__next__") (n:=['_','_','t','x','e','n','_','_']) (o:=['r','o','t','a','r','e','t','i','_','t','e','s']) (by kernel_rfl) u7];kernel_rfl
def ku (a:Value):argsOk "set_iterator.__iter__" ⟨[a],[]⟩:=by unfold argsOk;rw [signature?_of (id:="set_iterator.__iter__") (n:=['_','_','r','e','t','i','_','_']) (o:=['r','o','t','a','r','e','t','i','_','t','e','s']) (by kernel_rfl) u7];kernel_rfl
theorem jG {α:Type}:∀ {l:List α}{i:Nat} (h:i<l.length),(l[i]::l.eraseIdx i).Perm l
 | [],i,h=>absurd h (QB _)
 | x::l,0,h=>List.Perm.refl _
 | x::l,i+1,h=>by
  have lt:i<l.length:=by simpa using h
  show (l[i]::x::l.eraseIdx i).Perm (x::l);exact(List.Perm.swap _ _ _).trans (List.Perm.cons _ (jG lt))
theorem xE {α:Type}(next:Nat->Nat):∀(n k:Nat) (l:List α) (out:Array α),l.length=n->(pickOrder.go next n k l out).toList.Perm (out.toList++l)
 | 0,k,l,out,e=>by have:l=[]:=List.eq_nil_of_length_eq_zero e;subst this;rw[N5];exact List.Perm.refl _
 | n+1,k,l,out,e=>by
  have lt:next k % l.length<l.length:=QZ _ (by simp_all)
  unfold pickOrder.go;rw[M4 lt];refine(xE next n (k+1) _ _ (by rw[List.length_eraseIdx,MK lt];simp_all)).trans ?_;rw[Array.toList_push,MZ];exact List.Perm.append_left _ (jG lt)
def yW {α:Type}(next:Nat->Nat)(xs:Array α):(pickOrder next xs).toList.Perm xs.toList:=by
 have:=xE next xs.size 0 xs.toList #[] NB
 assumption
noncomputable abbrev Ze (w:World):Bool:=w.params.followText "set-order"
noncomputable def jv (w:World)(a:Addr)(ep:Nat)(es:Array (Int × Value)):Array (Int × Value):=if Ze w then pickOrder (w.params.setOrder a ep) es else es
def qy (w:World)(a:Addr)(ep:Nat)(es:Array (Int × Value)):(jv w a ep es).toList.Perm es.toList:=by
 unfold jv;split
 ·exact yW _ _
 rfl
def iQ (w:World)(a:Addr)(ep:Nat)(es:Array (Int × Value)):(jv w a ep es).size=es.size:=by have:=(qy w a ep es).length_eq;assumption
def we (w:World)(t:SetTable)(slot i:Nat):Prop:=Ze w=true\/SetTable.below t.place slot=i
def qU (w:World)(es:Array (Int × Value))(t:SetTable):Prop:=Ze w=true\/(!t.plain && decide (es.size > 1))=false
def vF (xs:Array Nat):SetTable.below xs 0=0:=by
 have:∀n hi,SetTable.below.go xs 0 n 0 hi=0:=λn=>by
  induction n with
  | zero=>exactλ_=>rfl
  | succ n ih=>intro hi;simp[SetTable.below.go,ih]
 exact this _ _
def zL (x:Nat):SetTable.below #[x] (x+1)=1:=by simp[SetTable.below,SetTable.below.go]
section
variable {prog:Program}{w:World}{A:Around}{E:Value->Shared->Prop}{s:Shared}
def fY {Q:Bool->Shared->Prop}(h:Q (Ze w) s):wpAny (model prog w) A setsByText Q E s:=by
 solve_by_elim
def oK {a:Addr}{es:Array (Int × Value)}{ep:Nat}{t:SetTable}{i slot:Nat}{Q:Option (Value × Nat)->Shared->Prop}(ho:s.heap.get? a=some (eN es ep t))
  (D:uH (!(Ze w)) es t) (hs:we w t slot i) (hd:qU w es t)
  (h1:∀e slot',(jv w a ep es)[i]?=some e->we w t slot' (i+1)->Q (some (e.2,slot')) s) (h2:(jv w a ep es)[i]?=none->Q none s):wpAny (model prog w) A (setNext a slot i ep) Q E s:=by
 unfold setNext;refine MA (wpAny_setState_of ho rfl D.fit ?_);dsimp only;refine MA (fY ?_);cases hb:Ze w with
 | true =>
  rw[MK rfl,MM (by simp)];refine MA ?_;unfold setWalk;refine MA (wpAny_setState_of ho rfl D.fit ?_);dsimp only;refine MA (fY ?_);rw[hb,MK rfl];refine MA (wpAny_askSetting (MC (MC ?_)));have eo:jv w a ep es=pickOrder (w.params.setOrder a ep) es:=by unfold jv;rw[hb,MK rfl]
  rw[eo] at h1 h2;show Q (((pickOrder (w.params.setOrder a ep) es)[i]?).map λe=>(e.2,slot)) s;cases q:(pickOrder (w.params.setOrder a ep) es)[i]? with
  | some e=>solve_by_elim
  | none=>exact h2 q
 | false =>
  have eo:jv w a ep es=es:=by unfold jv;rw[hb];exact MM ME
  rw[eo] at h1 h2;have hbl:SetTable.below t.place slot=i:=by
   rcases hs with z|z
   ·simp_all
   ·exact z
  rw[MM ME];split
  ·rename_i z;have z:(!t.plain && decide (es.size > 1))=true:=z;rcases hd with q|q
   ·simp_all
   simp_all
  ·refine MA ?_;show wpAny _ _ (if (!t.led && !es.isEmpty)=true then _ else _) _ _ _;rw[D.led,hb,MM (by simp)];refine MC (MC ?_);rw[hbl];have hf:=D.fit;simp only[SetTable.fits,bi,beq_iff_eq,decide_eq_true_eq] at hf;have sm:es.size<=1:=by
    rcases D.pl with z|z
    ·lia
    ·rcases hd with q|q
     ·rw[hb] at q;cases q
     ·rw[z] at q;simpa using q
   by_cases lt:i<es.size
   ·obtain rfl:i=0:=by lia
    obtain⟨x,hx⟩:∃x,t.place=#[x]:=Array.size_eq_one_iff.mp (by lia);rw[NI lt,hx];exact h1 es[0] _ (NI lt) (.inr (by rw[hx];exact zL x))
   ·rw[Ry (by omega:es.size<=i)];exact h2 (Ry (by omega))
def zP {src:Source}{n:Nat}{Q:Nat->Shared->Prop}(hn:n≠0)(h:∀i d,i<n->Q i { s with drawn:=d }):wpAny (model prog w) A (choose src n) Q E s :=
 λU p hΓ=>⟨hn,h _ _ (QZ _ (QK hn))⟩
theorem kq {α:Type}:∀(n:Nat) (xs:List α) (s:Shared) {Q:List α->Shared->Prop},xs.length=n->(∀ys d,ys.Perm xs->Q ys { s with drawn:=d })->wpAny (model prog w) A (drawOrder n xs) Q E s
 | 0,xs,s,Q,e,h=>by
  have:xs=[]:=List.eq_nil_of_length_eq_zero e;subst this
  solve_by_elim
 | n+1,[],s,Q,e,h=>by cases e
 | n+1,x::xs,s,Q,e,h=>by unfold drawOrder;refine MA (zP (Nat.succ_ne_zero _) λi d lt=>?_);rw[M4 lt];refine MA (kq n _ _ (by rw[List.length_eraseIdx,MK lt];simp[*]) λys d' p=>MC ?_);exact h _ d' ((List.Perm.cons _ p).trans (jG lt))
def Yk (h:Heap)(it:Addr)(first:Value)(i:Nat)(a:Addr)(n ep:Nat):Prop :=
 ∃o,h.get? it=some o/\o.cls=.type "set_iterator"/\o.data=.fields #[first,.int i 0,.ref a,.int n 0,.int ep 0]
def Yk.typeIs {it:Addr}{first:Value}{i n ep:Nat}{a:Addr}(x:Yk s.heap it first i a n ep):s.TypeIs (.ref it) "set_iterator":=let ⟨o,ho,hc,_⟩:=x;⟨o,ho,hc⟩
def zh {it a:Addr}{i slot:Nat}{es:Array (Int × Value)}{ep:Nat}{t:SetTable}{e:Int × Value}{Q:Option Value->Shared->Prop}
  (hit:Yk s.heap it (.int slot 0) i a es.size ep) (ho:s.heap.get? a=some (eN es ep t)) (D:uH (!(Ze w)) es t) (hs:we w t slot i) (hd:qU w es t) (he:(jv w a ep es)[i]?=some e)
  (hQ:∀slot' h',we w t slot' (i+1)->Yk h' it (.int slot' 0) (i+1) a es.size ep->Heap.SameBut it s.heap h'->Q (some e.2) { s with heap:=h' }):wpAny (model prog w) A (pyNext (.ref it)) Q E s:=by
 obtain⟨o,hoi,hc,hdt⟩:=id hit;unfold pyNext;refine MA (wpAny_attempt (wpAny_callSpecial?_slot (name:=Str.ofString "__next__") hit.typeIs Z6
  (wpAny_call_entry Z6 hit.typeIs eF ?_ (eY _))))
 unfold Builtin.«set_iterator.__next__»;refine MA (MC ?_);refine MA (wpAny_fieldsOf hoi hdt ?_);dsimp only;refine MA (wpAny_setEntries_of ho rfl D.fit ?_);rw[MM (by simp)];rw[NO,NO,NO];refine MA (oK ho D hs hd (λe' slot' g1 g2=>?_) λz=>by simp_all);rw[he] at g1;cases g1;dsimp only;have hd1:=Obj.data_mapFields hdt (·.setIfInBounds 0 (rawInt (slot':Int)));have ho1:=M7 (Obj.mapFields (·.setIfInBounds 0 (rawInt (slot':Int)))) hoi (Obj.isFreed_of_fields hd1);refine MA (wpAny_setField hoi hdt (by simp) ?_);refine MA (wpAny_setField ho1 hd1 (by simp) ?_);have hd2:=Obj.data_mapFields hd1 (·.setIfInBounds 1 (rawInt ((i:Int)+1)));have ho2:=M7 (Obj.mapFields (·.setIfInBounds 1 (rawInt ((i:Int)+1)))) ho1 (Obj.isFreed_of_fields hd2);refine MC ⟨_,rfl,MC (hQ slot' _ g2 ⟨_,ho2,?_,?_⟩ ((NW ..).trans (NW ..)))⟩
 ·rw[Obj.cls_mapFields,Obj.cls_mapFields];exact hc
 assumption
def xn {it:Addr}{R:Fin->Shared->Prop}{Q:Option Value->Shared->Prop}(hh:A.handled=none)(hQ:∀h',Heap.ExtBut it s.heap h'->Q none { s with heap:=h' }) :
  wpAny (model prog w) A.in1 (do let e <-newExc (.type "StopIteration") [];raiseNew (α:=Fin) e) R (λe s'=>wpAny (model prog w) A (do
   let b <-isInstance e (Value.type "StopIteration")
   if b=true then pure none else throw e) Q E s') s:=by
 refine MA ?_;simp only[newExc,newTuple];refine MA (wpAny_newObj_type ?_ (by size_fits));refine MA (m:=firstArgMember _ _) (wpAny_of_eq (a:=Value.none) (by solve_by_elim) ?_);refine wpAny_newObj_type ?_ (by size_fits);simp only[raiseNew];refine MA (wpAny_handled ?_);rw[show A.in1.handled=none from hh];refine MA (MC (wpAny_throw ?_));refine MA (wpAny_isInstance (T:="StopIteration") (b:=true) ⟨_,MH _ rfl,rfl⟩ isSubtype_stop ?_);exact MC (hQ _ ((Heap.SameBut.refl it s.heap).extBut.push _ |>.push _))
def pA {it a:Addr}{i slot:Nat}{es:Array (Int × Value)}{ep:Nat}{t:SetTable}{Q:Option Value->Shared->Prop}(hh:A.handled=none)
  (hit:Yk s.heap it (.int slot 0) i a es.size ep) (ho:s.heap.get? a=some (eN es ep t)) (D:uH (!(Ze w)) es t) (hs:we w t slot i) (hd:qU w es t) (he:es.size<=i)
  (hQ:∀h',Heap.ExtBut it s.heap h'->Q none { s with heap:=h' }):wpAny (model prog w) A (pyNext (.ref it)) Q E s:=by
 obtain⟨o,hoi,hc,hdt⟩:=id hit;unfold pyNext;refine MA (wpAny_attempt (wpAny_callSpecial?_slot (name:=Str.ofString "__next__") hit.typeIs Z6
  (wpAny_call_entry Z6 hit.typeIs eF ?_ (eY _))))
 unfold Builtin.«set_iterator.__next__»;refine MA (MC ?_);refine MA (wpAny_fieldsOf hoi hdt ?_);dsimp only;refine MA (wpAny_setEntries_of ho rfl D.fit ?_);rw[MM (by simp)];rw[NO,NO,NO];refine MA (oK ho D hs hd (λe' slot' g1 g2=>?_) λz=>?_)
 ·rw[Ry (by rw[iQ];exact he)] at g1;cases g1
 dsimp only;refine MA (wpAny_setField hoi hdt (by simp) ?_);exact xn (it:=it) hh λh' x=>hQ h' ((NW s.heap it _).extBut.trans x)
def zX (hh:A.handled=none)(I a:Addr)(hne:a≠I){es:Array (Int × Value)}{ep:Nat}{t:SetTable}(D:uH (!(Ze w)) es t)(hd:qU w es t) :
  Walks prog w A I [I,a] [I] es.size (λi v=>∃e,(jv w a ep es)[i]?=some e/\e.2=v) (λi h=>∃slot,Yk h I (.int (slot:Nat) 0) i a es.size ep/\we w t slot i/\h.get? a=some (eN es ep t)) where
 sub:=λb hb=>by simp_all
 frame:=λ_ _ _ st hk=>by obtain⟨slot,⟨o,ho,r⟩,p,g⟩:=st;exact⟨slot,⟨o,hk I (by simp) o ho,r⟩,p,hk a (by simp) _ g⟩
 item:=λi s Q E hi st hQ=>by
  obtain⟨slot,hit,p,g⟩:=st;have lt:i<(jv w a ep es).size:=by rw[iQ];exact hi
  refine zh hit g D p hd (NI lt) λslot' h' p' hit' sb=>?_;exact hQ _ h' s.toks ⟨_,NI lt,rfl⟩ ⟨slot',hit',p',sb.extBut a _ hne g⟩ λb o hb e=>sb.extBut b o (λh=>hb (by simp[h])) e
 done:=λs Q E st hQ=>by obtain⟨slot,hit,p,g⟩:=st;exact pA hh hit g D p hd (MJ _) λh' he'=>hQ h' s.toks λb o hb e=>he' b o (λh=>hb (by simp[h])) e
 self:=λi s Q E st hQ=>by obtain⟨slot,hit,p,g⟩:=st;refine wpAny_pyIter_slot hit.typeIs fc (wpAny_call_entry fc hit.typeIs jm ?_ (ku _));show wpAny _ _ (ret (.ref I)) _ _ s;exact MC ⟨_,rfl,"set_iterator",_,hit.typeIs,Z6.lookup,hQ⟩
noncomputable abbrev Wy (ps:List Nat):Obj:={ cls:=.type "tuple",data:=.seq (ps.map λi:Nat=>rawInt (i:Int)).toArray }
def EX {it a tp:Addr}{i p:Nat}{ps:List Nat}{es:Array (Int × Value)}{ep:Nat}{t:SetTable}{e:Int × Value}{Q:Option Value->Shared->Prop}
  (hit:Yk s.heap it (.ref tp) i a es.size ep) (ht:s.heap.get? tp=some (Wy ps)) (ho:s.heap.get? a=some (eN es ep t)) (fit:t.fits es.size=true) (hp:ps[i]?=some p) (he:es[p]?=some e)
  (hQ:∀h',Yk h' it (.ref tp) (i+1) a es.size ep->Heap.SameBut it s.heap h'->Q (some e.2) { s with heap:=h' }):wpAny (model prog w) A (pyNext (.ref it)) Q E s:=by
 obtain⟨o,hoi,hc,hdt⟩:=id hit;unfold pyNext;refine MA (wpAny_attempt (wpAny_callSpecial?_slot (name:=Str.ofString "__next__") hit.typeIs Z6
  (wpAny_call_entry Z6 hit.typeIs eF ?_ (eY _))))
 unfold Builtin.«set_iterator.__next__»;refine MA (MC ?_);refine MA (wpAny_fieldsOf hoi hdt ?_);dsimp only;refine MA (wpAny_setEntries_of ho rfl fit ?_);rw[MM (by simp)];refine MA (wpAny_seqItems ht rfl ?_);dsimp only;rw[NO,List.getElem?_toArray,M5,hp];dsimp only [Option.map_some,rawInt];rw[NO,NO];unfold setNextDrawn;refine MA (MA (wpAny_setState_of ho rfl fit ?_));dsimp only;rw[MM (by simp),he];refine MC ?_;have hd2:=Obj.data_mapFields hdt (·.setIfInBounds 1 (.int ((i:Int)+1) 0));have ho2:=M7 (Obj.mapFields (·.setIfInBounds 1 (.int ((i:Int)+1) 0))) hoi (Obj.isFreed_of_fields hd2);refine MA (wpAny_setField hoi hdt (by simp) ?_);refine MC ⟨_,rfl,MC (hQ _ ⟨_,ho2,?_,?_⟩ (NW ..))⟩
 ·rw[Obj.cls_mapFields];exact hc
 ·rw[hd2];simp
def uC {it a tp:Addr}{i:Nat}{ps:List Nat}{es:Array (Int × Value)}{ep:Nat}{t:SetTable}{Q:Option Value->Shared->Prop}(hh:A.handled=none)
  (hit:Yk s.heap it (.ref tp) i a es.size ep) (ht:s.heap.get? tp=some (Wy ps)) (ho:s.heap.get? a=some (eN es ep t)) (fit:t.fits es.size=true) (hp:ps.length<=i)
  (hQ:∀h',Heap.ExtBut it s.heap h'->Q none { s with heap:=h' }):wpAny (model prog w) A (pyNext (.ref it)) Q E s:=by
 obtain⟨o,hoi,hc,hdt⟩:=id hit;unfold pyNext;refine MA (wpAny_attempt (wpAny_callSpecial?_slot (name:=Str.ofString "__next__") hit.typeIs Z6
  (wpAny_call_entry Z6 hit.typeIs eF ?_ (eY _))))
 unfold Builtin.«set_iterator.__next__»;refine MA (MC ?_);refine MA (wpAny_fieldsOf hoi hdt ?_);dsimp only;refine MA (wpAny_setEntries_of ho rfl fit ?_);rw[MM (by simp)];refine MA (wpAny_seqItems ht rfl ?_);dsimp only;rw[NO,List.getElem?_toArray,M5,List.getElem?_eq_none hp];dsimp only [Option.map_none];have hd1:=Obj.data_mapFields hdt (·.setIfInBounds 0 (rawInt 0));have ho1:=M7 (Obj.mapFields (·.setIfInBounds 0 (rawInt 0))) hoi (Obj.isFreed_of_fields hd1);refine MA (wpAny_setField hoi hdt (by simp) ?_);refine MA (wpAny_setField ho1 hd1 (by simp) ?_);exact xn (it:=it) hh λh' x=>hQ h' (((NW s.heap it _).extBut.trans (NW _ it _).extBut).trans x)
def EB (hh:A.handled=none)(I a tp:Addr)(hne:a≠I)(hnt:tp≠I){ps:List Nat}{es:Array (Int × Value)}{ep:Nat}{t:SetTable}(fit:t.fits es.size=true)(hps:ps.Perm (List.range es.size)) :
  Walks prog w A I [I,a,tp] [I] es.size (λi v=>∃p e,ps[i]?=some p/\es[p]?=some e/\e.2=v) (λi h=>Yk h I (.ref tp) i a es.size ep/\h.get? tp=some (Wy ps)/\h.get? a=some (eN es ep t)) where
 sub:=λb hb=>by simp_all
 frame:=λ_ _ _ st hk=>by obtain⟨⟨o,ho,r⟩,p,g⟩:=st;exact⟨⟨o,hk I (by simp) o ho,r⟩,hk tp (by simp) _ p,hk a (by simp) _ g⟩
 item:=λi s Q E hi st hQ=>by
  obtain⟨hit,p,g⟩:=st;have ln:ps.length=es.size:=by rw[hps.length_eq,PC]
  have lt:i<ps.length:=by omega
  have lp:ps[i]<es.size:=Q4.mp (hps.mem_iff.mp (OJ lt));refine EX hit p g fit (M4 lt) (NI lp) λh' hit' sb=>?_;exact hQ _ h' s.toks ⟨_,_,M4 lt,NI lp,rfl⟩ ⟨hit',sb.extBut tp _ hnt p,sb.extBut a _ hne g⟩ λb o hb e=>sb.extBut b o (λh=>hb (by simp[h])) e
 done:=λs Q E st hQ=>by
  obtain⟨hit,p,g⟩:=st;have ln:ps.length=es.size:=by rw[hps.length_eq,PC]
  exact uC hh hit p g fit (by simp_all) λh' he'=>hQ h' s.toks λb o hb e=>he' b o (λh=>hb (by simp[h])) e
 self:=λi s Q E st hQ=>by obtain⟨hit,p,g⟩:=st;refine wpAny_pyIter_slot hit.typeIs fc (wpAny_call_entry fc hit.typeIs jm ?_ (ku _));show wpAny _ _ (ret (.ref I)) _ _ s;exact MC ⟨_,rfl,"set_iterator",_,hit.typeIs,Z6.lookup,hQ⟩
def z0 {w:World}{a:Addr}{ep:Nat}{es:Array (Int × Value)}{acc:Array Value}(h:ItemsOf (λi v=>∃e,(jv w a ep es)[i]?=some e/\e.2=v) acc es.size):acc.toList.Perm (es.toList.map (·.2)):=by
 have:acc.toList=(jv w a ep es).toList.map (·.2):=by
  refine PF (by rw[NB,MI,NB,iQ];exact h.1) λi h1 h2=>?_;rw[NB] at h1;obtain⟨e,g1,g2⟩:=h.2 i acc[i] (NI h1);have lt:i<(jv w a ep es).size:=by rw[iQ,<-h.1];exact h1
  rw[NI lt] at g1;cases g1;simpa using g2.symm
 rw[this];exact(qy w a ep es).map _
def E6 {ps:List Nat}{es:Array (Int × Value)}{acc:Array Value}(hps:ps.Perm (List.range es.size))(h:ItemsOf (λi v=>∃p e,ps[i]?=some p/\es[p]?=some e/\e.2=v) acc es.size):acc.toList.Perm (es.toList.map (·.2)):=by
 have ln:ps.length=es.size:=by rw[hps.length_eq,PC]
 have:acc.toList=ps.map λp=>(es.getD p (0,.none)).2:=by
  refine PF (by rw[NB,MI,ln];exact h.1) λi h1 h2=>?_;rw[NB] at h1;obtain⟨p,e,g0,g1,g2⟩:=h.2 i acc[i] (NI h1);have lt:i<ps.length:=by rw[ln,<-h.1];exact h1
  rw[M4 lt] at g0;cases g0;rw[List.getElem_map,Array.getElem_toList,<-g2];simp[Array.getD_eq_getD_getElem?,g1]
 rw[this];refine(hps.map _).trans ?_;have:(List.range es.size).map (λp=>(es.getD p (0,.none)).2)=es.toList.map (·.2):=by
  refine PF (by simp) λi h1 h2=>?_;have lt:i<es.size:=by simpa using h2
  simp[Array.getD,lt]
 rw[this]
noncomputable abbrev XD (first:Value)(a:Addr)(n ep:Nat):Obj:={ cls:=.type "set_iterator",data:=.fields #[first,rawInt 0,.ref a,rawInt n,rawInt ep] }
def Cz {a:Addr}{es:Array (Int × Value)}{ep:Nat}{t:SetTable}{Q:Value->Shared->Prop}(ho:s.heap.get? a=some (eN es ep t))(fit:t.fits es.size=true)(hz:es.size<4000)
  (h1:qU w es t->Q (.ref s.heap.objs.size) { s with heap:=s.heap.push (XD (rawInt 0) a es.size ep) })
  (h2:∀ps d,ps.Perm (List.range es.size)->Q (.ref (s.heap.objs.size+1)) { s with heap:=(s.heap.push (Wy ps)).push (XD (.ref s.heap.objs.size) a es.size ep),drawn:=d }) :
  wpAny (model prog w) A (pyIter (.ref a)) Q E s:=by
 have hT:s.TypeIs (.ref a) "set":=⟨_,ho,rfl⟩;refine wpAny_pyIter_slot hT F.slot_set_iter (wpAny_call_entry F.slot_set_iter hT om ?_ (F.args_set_iter_1 _));unfold Builtin.«frozenset.__iter__» Builtin.Frozenset.slot0 slotArgs;simp only[List.isEmpty_nil,Bool.not_true,Bool.false_eq_true,↓reduceIte,bind_assoc,List.length_nil,bne_self_eq_false];unfold Builtin.Frozenset.addrOf Builtin.Frozenset.sizeOf;refine MA (MC ?_);refine MA (MC ?_);refine MA (MA (wpAny_setEntries_of ho rfl fit (MC ?_)));unfold setDrawn;refine MA (MA (wpAny_setState_of ho rfl fit ?_));dsimp only;refine MA (fY (MC ?_));have ln:(List.range es.size).length=es.size:=PC;split
 ·refine MA (kq es.size _ _ ln λps d pp=>?_);have lp:ps.length=es.size:=by rw[pp.length_eq,ln]
  refine MA (wpAny_newTuple ?_ (by rw[MI,lp,sizeLine_eq];lia));refine MA ?_;unfold setEpoch;refine MA (wpAny_setState_of (s:={ s with heap:=s.heap.push (Wy ps),drawn:=d }) (MB _ ho) rfl fit (MC ?_));refine MA (wpAny_newObj_type (MC ?_));refine ⟨_,rfl,"set_iterator",_,⟨_,MH _ rfl,rfl⟩,Z6.lookup,?_⟩
  simp_all
 ·rename_i z;refine MA (MC ?_);refine MA ?_;unfold setEpoch;refine MA (wpAny_setState_of ho rfl fit (MC ?_));refine MA (wpAny_newObj_type (MC ?_));refine ⟨_,rfl,"set_iterator",_,⟨_,MH _ rfl,rfl⟩,Z6.lookup,h1 ?_⟩;have z:¬(!Ze w && (!t.plain && decide (es.size > 1)))=true:=z;unfold qU;cases hb:Ze w with
  | true=>exact .inl rfl
  | false =>rw[hb] at z;exact .inr (by cases q:(!t.plain && decide (es.size > 1)) with|false=>rfl|true=>rw[q] at z;exact absurd rfl z)
def pT:isSubtype (.type "set") (.type "set")=pure true:=by solve_by_elim
def qi {I:Addr}{fp wr:List Addr}{n:Nat}{P:Nat->Value->Prop}{St:Nat->Heap->Prop}{S:Addr}{R:Result->Shared->Prop}{c:Nat}(W:Walks prog w A.in1 I fp wr n P St)(hn:n<=sizeLine)(hSf:S ∉ fp)
  (hst:St 0 s.heap) (hS:s.heap.get? S=some { cls:=.type "list",dict:=none,data:=.seq #[] c,slots:=#[] })
  (hR:∀h' tk acc c',(∀b o,b ∉ S::wr->s.heap.get? b=some o->h'.get? b=some o)->h'.get? S=some { cls:=.type "list",dict:=none,data:=.seq acc c',slots:=#[] }->ItemsOf P acc n->R (.ok (.ret (.ref S))) { s with heap:=h',toks:=tk }) :
  codeAny (model prog w) A (.builtin "list.extend.loop" ⟨[.ref S,.ref I,.ref S],[]⟩) R s:=by
 refine codeAny_extend_loopS W.toS hn S hSf (.ref S) n 0 s #[] c rfl (OV _) hst hS (ItemsOf.nil P) λs' acc c' hm hS' hacc=>?_;obtain⟨h',g',d',tk',os'⟩:=s';have eg:g'=s.gens:=hm.gens;have ed:d'=s.drawn:=hm.drawn;have eo:os'=s.os:=hm.os;subst eg;subst ed;subst eo;exact hR h' tk' acc c' (λb o hb e=>hm.heap b o hb e) hS' hacc
def vh {a:Addr}{Q:Bool->Shared->Prop}(hT:s.TypeIs (.ref a) "set")(h:Q false s):wpAny (model prog w) A (Builtin.List.listLengthHint (.ref a)) Q E s:=by
 have hsp:splitId "set.__len__"=some ("set","__len__"):=by kernel_rfl
 unfold Builtin.List.listLengthHint;refine MA (wpAny_specialOf hT F.slot_set_len.lookup ?_);dsimp (config:={ zeta:=false,zetaHave:=false }) only;rw[hsp];dsimp (config:={ zeta:=false,zetaHave:=false }) only;refine MA (wpAny_isInstance hT pT ?_);rw[MM (by simp)];split
 ·refine MA (wpAny_typeOf hT ?_);exact MC h
 ·rename_i z;exact(z (by decide +kernel)).elim
def uR {a:Addr}{es:Array (Int × Value)}{ep:Nat}{t:SetTable}{Q:List Value->Shared->Prop}(hh:A.handled=none)(ho:s.heap.get? a=some (eN es ep t))(D:uH (!(Ze w)) es t)(hz:es.size<4000)
  (hQ:∀h' tk d acc,(∀b o,b<s.heap.objs.size->s.heap.get? b=some o->h'.get? b=some o)->s.heap.objs.size<=h'.objs.size->acc.Perm (es.toList.map (·.2))->Q acc { s with heap:=h',toks:=tk,drawn:=d }) :
  wpAny (model prog w) A (collect (.ref a)) Q E s:=by
 have fit:=D.fit;have ha:a<s.heap.objs.size:=MQ ho;unfold collect;refine MA (wpAny_runValue (codeAny_builtin F.entry_proto_collect ?_));rw[Around.under_plainId F.plain_proto_collect _];show wpAny _ A.in1 (newList [] >>= λl=>again (.builtin "list.__iadd__" ⟨[l,.ref a],[]⟩)) _ _ s;refine MA (wpAny_newObj_type ?_);refine MC ⟨plainId_quiet F.plain_list_iadd _,codeAny_builtin F.entry_list_iadd ?_⟩;rw[Around.under_plainId F.plain_list_iadd _];show wpAny _ A.in1 (Builtin.List.listExtendWith (.ref s.heap.objs.size) (.ref a) (.ref s.heap.objs.size)) _ _ _;unfold Builtin.List.listExtendWith;have g1:(s.heap.push { cls:=.type "list",data:=.seq ([]:List Value).toArray }).get? a=some (eN es ep t):=MB _ ho;have hS₁:(s.heap.push { cls:=.type "list",data:=.seq ([]:List Value).toArray }).get? s.heap.objs.size=some { cls:=.type "list",data:=.seq ([]:List Value).toArray }:=MH _ rfl;generalize hh1:s.heap.push { cls:=.type "list",data:=.seq ([]:List Value).toArray }=H1 at g1 hS₁ |-
 refine MA (wpAny_typeOf (T:="set") ⟨_,g1,rfl⟩ ?_);have h1:Builtin.List.listSameRef (.ref s.heap.objs.size) (.ref a)=false:=by simp[Builtin.List.listSameRef,Nat.ne_of_gt ha]
 have h2:(Value.type "set" == Value.type "list")=false:=by decide
 have h3:(Value.type "set" == Value.type "tuple")=false:=by decide
 simp only[h1,h2,h3,Bool.or_false,Bool.false_eq_true,if_false];have hsp:splitId "set.__len__"=some ("set","__len__"):=by kernel_rfl
 have hsz:s.heap.objs.size<H1.objs.size:=MQ hS₁;refine MA (Cz (s:={ s with heap:=H1 }) g1 fit hz (λnd=>?_) λps d pp=>?_)
 ·have nin:s.heap.objs.size ∉ [H1.objs.size,a]:=λz=>by
   rcases MU.mp z with z|z
   ·exact MV hsz z
   ·exact OE ha (MF.mp z)
  have W1:=λI (ne:a≠I)=>zX (prog:=prog) (A:=A.in1) (ep:=ep) hh I a ne D nd;have W0:∀h I,h.get? I=some (XD (rawInt 0) a es.size ep)->h.get? a=some (eN es ep t)->∃slot,Yk h I (.int ((slot:Nat):Int) 0) 0 a es.size ep/\we w t slot 0/\h.get? a=some (eN es ep t):=λh I e1 e2 =>
   ⟨0,⟨_,e1,rfl,rfl⟩,.inr (vF _),e2⟩
  have g2:(H1.push (XD (rawInt 0) a es.size ep)).get? a=some (eN es ep t):=MB _ g1;have hS2:(H1.push (XD (rawInt 0) a es.size ep)).get? s.heap.objs.size=some { cls:=.type "list",data:=.seq ([]:List Value).toArray }:=MB _ hS₁;have hI:(H1.push (XD (rawInt 0) a es.size ep)).get? H1.objs.size=some (XD (rawInt 0) a es.size ep):=MH _ rfl;have old:∀b o,b<s.heap.objs.size->s.heap.get? b=some o->(H1.push (XD (rawInt 0) a es.size ep)).get? b=some o:=λb o hb e=>by rw[<-hh1];exact MB _ (MB _ e)
  generalize H1.push (XD (rawInt 0) a es.size ep)=H2 at g2 hS2 hI old |-
  refine MA (NU ?_);refine vh ⟨_,g2,rfl⟩ ?_;split
  ·refine MA (wpAny_rule ?_);refine MA ?_;show wpAny _ A.in1 (updateSeq s.heap.objs.size (·.push .none) >>= λ_=>updateSeq s.heap.objs.size (·.pop)) _ _ _;refine MA (wpAny_updateSeq hS2 rfl ?_);have Uj:=M7 (Obj.mapSeq (·.push Value.none)) hS2 rfl;refine wpAny_updateSeq Uj rfl ?_;have S5:=M7 (Obj.mapSeq (·.pop)) Uj rfl;have oth:∀b o,b≠s.heap.objs.size->H2.get? b=some o->((H2.update s.heap.objs.size (Obj.mapSeq (·.push Value.none))).update s.heap.objs.size (Obj.mapSeq (·.pop))).get? b=some o :=
    λb o hb e=>(NA _ _ (Ne.symm hb)).trans ((NA _ _ (Ne.symm hb)).trans e)
   refine MC ⟨plainId_quiet F.plain_extend_loop _,qi (S:=s.heap.objs.size) (W1 H1.objs.size (MV (U3 ha hsz))) (by rw[sizeLine_eq];omega) nin ?_ S5 λh' tk acc c' k' hS' hacc=>?_⟩
   ·exact W0 _ _ (oth _ _ (OE hsz) hI) (oth _ _ (MV ha) g2)
   ·refine MA (wpAny_load hS' ?_);refine MC (hQ h' tk _ acc.toList (λb o hb e=>k' b o (λz=>by
     rcases MU.mp z with z|z
     ·exact MV hb z
     ·exact MV (U3 hb hsz) (MF.mp z)) (oth b o (MV hb) (old b o hb e))) (OU (MQ hS')) (z0 hacc))
  ·rename_i z;exact(z (by decide +kernel)).elim
 ·have nin:s.heap.objs.size ∉ [H1.objs.size+1,a,H1.objs.size]:=λz=>by
   rcases MU.mp z with z|z
   ·exact MV (OW hsz) z
   rcases MU.mp z with z|z
   ·exact OE ha z
   ·exact MV hsz (MF.mp z)
  have W1:=EB (A:=A.in1) (prog:=prog) (w:=w) (ep:=ep) hh (H1.objs.size+1) a H1.objs.size (MV (OW (U3 ha hsz))) (MV (OA _)) fit pp;have g2:((H1.push (Wy ps)).push (XD (.ref H1.objs.size) a es.size ep)).get? a=some (eN es ep t):=MB _ (MB _ g1);have hS2:((H1.push (Wy ps)).push (XD (.ref H1.objs.size) a es.size ep)).get? s.heap.objs.size=some { cls:=.type "list",data:=.seq ([]:List Value).toArray }:=MB _ (MB _ hS₁);have hI:((H1.push (Wy ps)).push (XD (.ref H1.objs.size) a es.size ep)).get? (H1.objs.size+1)=some (XD (.ref H1.objs.size) a es.size ep):=by have:=MH (o:=XD (.ref H1.objs.size) a es.size ep) (H1.push (Wy ps)) rfl;rw[Ud] at this;exact this
  have hT2:((H1.push (Wy ps)).push (XD (.ref H1.objs.size) a es.size ep)).get? H1.objs.size=some (Wy ps):=MB _ (MH _ rfl);have old:∀b o,b<s.heap.objs.size->s.heap.get? b=some o->((H1.push (Wy ps)).push (XD (.ref H1.objs.size) a es.size ep)).get? b=some o:=λb o hb e=>by rw[<-hh1];exact MB _ (MB _ (MB _ e))
  generalize (H1.push (Wy ps)).push (XD (.ref H1.objs.size) a es.size ep)=H2 at g2 hS2 hI hT2 old |-
  refine MA (NU ?_);refine vh ⟨_,g2,rfl⟩ ?_;split
  ·refine MA (wpAny_rule ?_);refine MA ?_;show wpAny _ A.in1 (updateSeq s.heap.objs.size (·.push .none) >>= λ_=>updateSeq s.heap.objs.size (·.pop)) _ _ _;refine MA (wpAny_updateSeq hS2 rfl ?_);have Uj:=M7 (Obj.mapSeq (·.push Value.none)) hS2 rfl;refine wpAny_updateSeq Uj rfl ?_;have S5:=M7 (Obj.mapSeq (·.pop)) Uj rfl;have oth:∀b o,b≠s.heap.objs.size->H2.get? b=some o->((H2.update s.heap.objs.size (Obj.mapSeq (·.push Value.none))).update s.heap.objs.size (Obj.mapSeq (·.pop))).get? b=some o :=
    λb o hb e=>(NA _ _ (Ne.symm hb)).trans ((NA _ _ (Ne.symm hb)).trans e)
   refine MC ⟨plainId_quiet F.plain_extend_loop _,qi (S:=s.heap.objs.size) W1 (by rw[sizeLine_eq];omega) nin ?_ S5 λh' tk acc c' k' hS' hacc=>?_⟩
   ·exact⟨⟨_,oth _ _ (OE (OW hsz)) hI,rfl,rfl⟩,oth _ _ (OE hsz) hT2,oth _ _ (MV ha) g2⟩
   ·refine MA (wpAny_load hS' ?_);refine MC (hQ h' tk _ acc.toList (λb o hb e=>k' b o (λz=>by
     rcases MU.mp z with z|z
     ·exact MV hb z
     ·exact MV (OW (U3 hb hsz)) (MF.mp z)) (oth b o (MV hb) (old b o hb e))) (OU (MQ hS')) (E6 pp hacc))
  ·rename_i z;exact(z (by decide +kernel)).elim
end
section
variable {prog:Program}{w:World}{κ:Type} [DecidableEq κ] {SS:SK prog w κ}{A:Around}{E:Value->Shared->Prop}{s:Shared}
def Zd.at {b:Bool}{h h':Heap}{a:Addr}{zs:List κ}(x:Zd SS b h a zs)(e:∀o,h.get? a=some o->h'.get? a=some o):Zd SS b h' a zs :=
 let ⟨es,ep,t,ho,d⟩:=x;⟨es,ep,t,e _ ho,d⟩
def An {I:Addr}{fp wr:List Addr}{n:Nat}{P:Nat->Value->Prop}{St:Nat->Heap->Prop}{S:Addr}{b:Bool}{R:Result->Shared->Prop}(W:Walks prog w A.in1 I fp wr n P St)(hSf:S ∉ fp)
  (val:Nat->κ) (hval:∀i v,P i v->SS.knd.is (val i) v=true) (hb:n<900) :
  ∀(k i:Nat) (s:Shared),n-i=k->i<=n->St i s.heap->Zd SS b s.heap S ((List.range i).map val) ->
   (∀h' tk,(∀c o,c ∉ S::wr->s.heap.get? c=some o->h'.get? c=some o)->Zd SS b h' S ((List.range n).map val)->R (.ok (.ret .none)) { s with heap:=h',toks:=tk }) ->
   codeAny (model prog w) A (.builtin "set.update.loop" ⟨[.ref S,.ref I],[]⟩) R s:=by
 have hSw:S ∉ wr:=λh=>hSf (W.sub _ h);have hsub:∀b,b ∉ S::wr->b ∉ wr:=λb hb z=>hb (MD _ z);intro k
 induction k with
 | zero =>
  intro i s hk hi hst hS hR;have hin:i=n:=by omega
  subst hin;refine codeAny_builtin PyProof.Rows.F.entry_set_update_loop ?_;rw[Around.under_plainId OD _];show wpAny _ A.in1 (pyNext (.ref I) >>= _) _ _ s;refine MA (W.done s _ _ hst λh' tk hm=>?_);show wpAny _ A.in1 (ret Value.none) _ _ _;exact MC (hR h' tk (λc o hc e=>hm c o (hsub c hc) e) (hS.at λo e=>hm S o hSw e))
 | succ k ih =>
  intro i s hk hi hst hS hR;have hlt:i<n:=by omega
  refine codeAny_builtin PyProof.Rows.F.entry_set_update_loop ?_;rw[Around.under_plainId OD _];show wpAny _ A.in1 (pyNext (.ref I) >>= _) _ _ s;refine MA (W.item i s _ _ hlt hst λv h1 tk1 hP hst' hm=>?_);have hv:=hval i v hP;show wpAny _ A.in1 (holding [v] (setAdd S v) >>= _) _ _ _;refine MA (NU ?_);unfold setAdd;refine NU ?_;refine MA (SS.knd.pyHash (k:=val i) hv ?_);have hS1:Zd SS b h1 S ((List.range i).map val):=hS.at λo e=>hm S o hSw e;refine Mc (s:={ s with heap:=h1,toks:=tk1+1 }) hv hS1 (by simp;omega) λr h2 sb hS2=>?_;have Uj:Zd SS b h2 S ((List.range (i+1)).map val):=by rw[List.range_succ,NM];exact hS2
  refine MC ⟨plainId_quiet OD _,ih (i+1) _ (by omega) hlt (W.frame _ _ _ hst' λb hb o e=>?_) Uj λh' tk kk S5=>?_⟩
  ·show h2.get? b=some o;rw[sb.2 b (λh:b=S=>hSf (by rw[<-h];exact hb))];exact e
  ·refine hR h' tk (λc o hc e=>kk c o hc ?_) S5;show h2.get? c=some o;rw[sb.2 c (λh:c=S=>hc (by rw[h];exact MP))];exact hm c o (hsub c hc) e
noncomputable abbrev ic (b:Bool):Obj:={ cls:=.type "set",dict:=none,data:=.set #[] 0 (.fresh 0 0 b) }
def E1 {h:Heap}{a:Addr}{b:Bool}(e:h.get? a=some (ic b)):Zd SS b h a [] :=
 ⟨#[],0,.fresh 0 0 b,e,λe he=>by simp at he,by simp,λi=>by simp,OV _,by rfl,rfl,.inl rfl⟩
def DX (a:Value){Q:Value->Shared->Prop}(h:Q (.ref s.heap.objs.size) { s with heap:=s.heap.push (ic (!(Ze w))) }) :
  codeAny (model prog w) A (.call (.builtin "set.__new__") ⟨[.type "set",a],[]⟩) (wants Q E) s:=by
 refine codeAny_of_tree ?_;show wpAny _ A.in1 (do checkBuiltinCall "set.__new__" ⟨[.type "set",a],[]⟩;again (.builtin "set.__new__" ⟨[.type "set",a],[]⟩)) _ _ s;refine MA (wpAny_of_eq (PySem.F.newCall_set_1 a) (MC ⟨plainId_quiet PySem.F.plain_set_new _,codeAny_builtin PySem.F.entry_set_new ?_⟩));rw[Around.under_plainId PySem.F.plain_set_new _];unfold Builtin.«set.__new__» Builtin.Frozenset.newClass;have hsub:=sub_set_self;obtain⟨hp,g,d,tk,os⟩:=s;dsimp only
 wp_walk
 refine wpAny_askSetting (MC ?_);dsimp only;simp only[newObj];refine MA (wpAny_alloc (MC ?_))
 solve_by_elim
set_option maxHeartbeats 3200000 in
def qR (tu:Bool){l:Addr}{items:Array Value}{ns:List κ}{Q:Value->Shared->Prop}(hh:A.handled=none)(hl:if tu=true then s.heap.IsTuple l items else s.heap.IsList l items)(val:Nat->κ)(hval:∀(i:Nat) (v:Value),items[i]?=some v->SS.knd.is (val i) v=true)(hns:(List.range items.size).map val=ns)(hb:items.size<900)
  (h:∀(h':Heap) (tk:Nat),Zd SS (!(Ze w)) h' s.heap.objs.size ns->(∀b o,b<s.heap.objs.size->s.heap.get? b=some o->h'.get? b=some o)->Q (.ref s.heap.objs.size) { s with heap:=h',toks:=tk }) :
  wpAny (model prog w) A (call (.type "set") [.ref l]) Q E s:=by
 obtain⟨c,tl,hmro⟩:=PySem.F.called_set.mro;have hmade:=PySem.F.called_set.made;have hsub:=PySem.F.called_set.sub;refine wpAny_call (codeAny_of_tree ?_);show wpAny _ _ (callAny (.type "set") _) _ _ _;refine MC ⟨Code.quiet_builtin _ (by decide +kernel),codeAny_builtin PySem.F.entry_type_call ?_⟩;rw [Around.under_plain (weight_type_call_type "set" [.ref l] []) rfl];have h1:=PySem.F.called_set.notType;have h2:=PySem.F.called_set.canCreate;have hct:=PySem.F.typeCall_set_1 (.ref l)
 repeat (any_goals (first|assumption|wp_step))
 refine codeAny_mono (DX (.ref l) (E:=E) (Q:=λobj s₁=>obj=.ref s.heap.objs.size/\s₁={ s with heap:=s.heap.push (ic (!(Ze w))) }) ⟨rfl,rfl⟩) λr s₁ hr=>?_;cases r with
 | error e=>exact hr
 | ok fl =>
  cases fl with
  | ret obj =>
   obtain⟨rfl,rfl⟩:=hr;have hS:(s.heap.push (ic (!(Ze w)))).get? s.heap.objs.size=some (ic (!(Ze w))):=MH _ rfl;have hT:Shared.TypeIs { s with heap:=s.heap.push (ic (!(Ze w))) } (.ref s.heap.objs.size) "set":=⟨_,hS,rfl⟩;have hli:=PySem.F.called_set.init.lookup;have hbi:=PySem.F.called_set.init.bind (.ref s.heap.objs.size)
   repeat (any_goals (first|assumption|wp_step))
   refine codeAny_mono (codeAny_call_builtin (R:=wants (λr s₂=>r=.none/\∃h' tk,s₂={ s with heap:=h',toks:=tk }/\Zd SS (!(Ze w)) h' s.heap.objs.size ns /\
     (∀b o,b<s.heap.objs.size->s.heap.get? b=some o->h'.get? b=some o)) E) PySem.F.called_set.init.plain PySem.F.entry_set_init (check_set_init_1 hT ?_)) λr₂ s₂ hr₂=>?_
   ·have hz:(s.heap.push (ic (!(Ze w)))).objs.size=s.heap.objs.size+1:=Ud ..;have hh3:A.in1.in1.in1.handled=none:=by simp[hh]
    have big:∀ {b:Addr}{o:Obj},s.heap.get? b=some o->b<s.heap.objs.size:=λe=>MQ e;have nI:∀ {b:Addr},b<s.heap.objs.size->b≠(s.heap.push (ic (!(Ze w)))).objs.size:=λhb=>by rw[hz];exact MV (OW hb)
    have go:∀ {I:Obj}{St:Nat->Heap->Prop},l<s.heap.objs.size->Walks prog w A.in1.in1.in1 (s.heap.push (ic (!(Ze w)))).objs.size [(s.heap.push (ic (!(Ze w)))).objs.size,l] [(s.heap.push (ic (!(Ze w)))).objs.size] items.size (λi v=>items[i]?=some v) St->St 0 ((s.heap.push (ic (!(Ze w)))).push I) ->
      codeAny (model prog w) A.in1.in1 (.builtin "set.update.loop" ⟨[.ref s.heap.objs.size,.ref (s.heap.push (ic (!(Ze w)))).objs.size],[]⟩) (λr t=>r=.ok (.ret .none)/\∃h' tk,t={ s with heap:=h',toks:=tk }/\Zd SS (!(Ze w)) h' s.heap.objs.size ns/\∀b o,b<s.heap.objs.size->s.heap.get? b=some o->h'.get? b=some o) { s with heap:=(s.heap.push (ic (!(Ze w)))).push I }:=λ{I St} hlS W h0=>by
     refine An (SS:=SS) (b:=!(Ze w)) W (λz=>?_) val hval hb items.size 0 _ rfl (OV _) h0 (E1 (MB _ hS)) λh' tk kk hS'=>⟨rfl,h',tk,rfl,hns ▸ hS',λb o hb e=>kk b o (λz=>?_) (MB _ (MB _ e))⟩
     ·simp_all
     ·rcases MU.mp z with z|z
      ·exact MV hb z
      ·exact nI hb (MF.mp z)
    cases tu with
    | false =>
     rw[MM ME] at hl;have hl1:=hl.push (ic (!(Ze w)));obtain⟨⟨_,odict,odata,oslots⟩,hol,hcl,nl,hdl⟩:=hl;simp only at hcl hdl;subst hcl;subst hdl;have hol':=MB (ic (!(Ze w))) hol;have hsls:=PySem.F.sub_list_set;have hslf:=PySem.F.sub_list_frozenset;have hne:(Value.type "list" == Value.type "dict")=false:=by decide
     unfold Builtin.«set.__init__» noKeywords Builtin.Frozenset.updateFrom;generalize hPI:pyIter=PI
     wp_walk
     subst hPI;refine wpAny_pyIter_list hl1 (MA (wpAny_runValue (codeAny_mono (go (big hol) (Walks.list hh3 _ l (nI (big hol)) items) ⟨⟨_,MH _ rfl,rfl,rfl⟩,hl1.push _⟩) λr t ⟨e,z⟩=>?_)));subst e;exact MC (MC ⟨rfl,z⟩)
    | true =>
     rw[MK rfl] at hl;have hl1:=hl.push (ic (!(Ze w)));obtain⟨⟨_,odict,odata,oslots⟩,hol,hcl,nl,hdl⟩:=hl;simp only at hcl hdl;subst hcl;subst hdl;have hol':=MB (ic (!(Ze w))) hol;have hsls:=PySem.F.sub_tuple_set;have hslf:=PySem.F.sub_tuple_frozenset;have hne:(Value.type "tuple" == Value.type "dict")=false:=by decide
     unfold Builtin.«set.__init__» noKeywords Builtin.Frozenset.updateFrom;generalize hPI:pyIter=PI
     wp_walk
     subst hPI;refine wpAny_pyIter_tuple hl1 (MA (wpAny_runValue (codeAny_mono (go (big hol) (Walks.tuple hh3 _ l (nI (big hol)) items) ⟨⟨_,MH _ rfl,rfl,rfl⟩,hl1.push _⟩) λr t ⟨e,z⟩=>?_)));subst e;exact MC (MC ⟨rfl,z⟩)
   ·cases r₂ with
    | error e=>exact hr₂
    | ok fl₂ =>
     cases fl₂ with
     | ret r =>
      obtain⟨rfl,h',tk,rfl,hS',hk'⟩:=hr₂
      repeat (any_goals (first|assumption|wp_step))
      solve_by_elim
     | _=>simp[*]
  | _=>simp_all
def zN {l:Addr}{items:Array Value}{ns:List κ}{Q:Value->Shared->Prop}(hh:A.handled=none)(hl:s.heap.IsList l items)(val:Nat->κ)(hval:∀(i:Nat) (v:Value),items[i]?=some v->SS.knd.is (val i) v=true)(hns:(List.range items.size).map val=ns)(hb:items.size<900)
  (h:∀(h':Heap) (tk:Nat),Zd SS (!(Ze w)) h' s.heap.objs.size ns->(∀b o,b<s.heap.objs.size->s.heap.get? b=some o->h'.get? b=some o)->Q (.ref s.heap.objs.size) { s with heap:=h',toks:=tk }) :
  wpAny (model prog w) A (call (.type "set") [.ref l]) Q E s:=qR false hh hl val hval hns hb h
def vK {l:Addr}{items:Array Value}{ns:List κ}{Q:Value->Shared->Prop}(hh:A.handled=none)(hl:s.heap.IsTuple l items)(val:Nat->κ)(hval:∀(i:Nat) (v:Value),items[i]?=some v->SS.knd.is (val i) v=true)(hns:(List.range items.size).map val=ns)(hb:items.size<900)
  (h:∀(h':Heap) (tk:Nat),Zd SS (!(Ze w)) h' s.heap.objs.size ns->(∀b o,b<s.heap.objs.size->s.heap.get? b=some o->h'.get? b=some o)->Q (.ref s.heap.objs.size) { s with heap:=h',toks:=tk }) :
  wpAny (model prog w) A (call (.type "set") [.ref l]) Q E s:=qR true hh hl val hval hns hb h
end
noncomputable def toT:Value->Str
 | .str n _=>n
 | _=>Str.empty
noncomputable def tZ (prog:Program)(w:World):SK prog w Str:=⟨PySem.strKind prog w,toT,λh=>by obtain⟨t,rfl⟩:=PP h;rfl,λh=>by obtain⟨t,rfl⟩:=PP h;exact⟨rfl,rfl⟩⟩
section
variable {prog:Program}{w:World}{A:Around}{E:Value->Shared->Prop}{s:Shared}
def Jl {κ:Type}[DecidableEq κ]{SS:SK prog w κ}{vs:List Value}{es:List (Int × Value)}(h:∀e∈es,EI SS e)(p:vs.Perm (es.map (·.2))):∀v∈vs,∃k,SS.knd.is k v=true:=λv hv=>by obtain⟨e,he,rfl⟩:=MR.mp (p.mem_iff.mp hv);obtain⟨k,h1,_⟩:=h e he;exact⟨k,h1⟩
def EW {vs:List Value}(h:∀v∈vs,∃k,(tZ prog w).knd.is k v=true):StrsAre vs (vs.map toT):=by
 induction vs with
 | nil=>exact .nil
 | cons u us ih =>obtain⟨k,hk⟩:=h u MP;obtain⟨t,rfl⟩:=PP (show Value.isStrOf k u=true from hk);exact .cons k t (ih λv hv=>h v (MD _ hv))
def wL {a:Addr}{zs:List Str}{Q:Value->Shared->Prop}(hh:A.handled=none)(hZ:Zd (tZ prog w) (!(Ze w)) s.heap a zs)(hz:zs.length<64)
  (h:∀h' tk d l out e ns',(∀b o,b<s.heap.objs.size->s.heap.get? b=some o->h'.get? b=some o)->s.heap.objs.size<=l->h'.get? l=some (seqObj "list" out e)->StrsAre out.toList ns'->sortedS ns'=true->ns'.Nodup->(∀i,i∈ns'↔i∈zs)->ns'.length<=zs.length ->
   Q (.ref l) { s with heap:=h',toks:=tk,drawn:=d }) :
  wpAny (model prog w) A (call (.builtin "sorted") [.ref a]) Q E s:=by
 obtain⟨es,ep,t,ho,D⟩:=hZ;have ln:=D.ln;refine Calls.call_function_entry kind_sorted plain_sorted entry_sorted (args_sorted1 _) ?_;unfold Builtin.«sorted»;refine MA (m:=checkCount "sorted" 1 1 _) (MC ?_);refine MA (uR (A:=A.in1) hh ho D.tb (by lia) λh1 tk d acc k1 z1 pm=>?_);have la:acc.length=es.size:=by rw[pm.length_eq,MI,NB]
 have hS:StrsAre acc (acc.map toT):=EW (Jl D.el pm);refine MA (wpAny_newList ?_ (by rw[la,sizeLine_eq];lia));have hoL:(h1.push (seqObj "list" acc.toArray 0)).get? h1.objs.size=some (seqObj "list" acc.toArray 0):=MH _ rfl;refine MA (NU (wpAny_call_entry slot_list_sort ⟨_,hoL,rfl⟩ entry_list_sort (list_sort_treeK strKind_oneLt hoL hS.keysOf (λv₁ v₂ rest e=>keyKind_strs (by rw[<-e];exact hS)) (by rw[la];lia) λst' hp hs=>⟨_,rfl,?_⟩) (args_list_sort _)));obtain⟨ss',a1,a2,a3⟩:=sorted_out_str hS hp hs;refine MC ⟨_,rfl,?_⟩;obtain⟨e,he⟩:=sortedHeap_at (out:=(arrOf st').map (·.2)) hoL;have pz:ss'.Perm (es.toList.map λe=>toT e.2):=by refine a2.trans ?_;have:=pm.map toT;rw[N2] at this;exact this
 refine h _ tk d h1.objs.size _ e ss' (λb o hb eb=>?_) z1 he a1 a3 (pz.nodup_iff.mpr D.nd) (λi=>(pz.mem_iff).trans (D.mem i)) ?_
 ·have lb:b<h1.objs.size:=ML hb z1;rw[sortedHeap_old (MV lb) (by rw[size_push'];solve_by_elim)];exact MB _ (k1 b o hb eb)
 ·rw[pz.length_eq,MI,NB];exact ln
end
end FW
namespace L2
section
variable {X:Cx}
def E_:fillsInplaceSlot (.type "list") "add" (Operator.Add == .Add)=pure false:=by
 solve_by_elim
def Ej:seqSlot? (.type "list") (dunderI "add")=pure (some (.builtin "list.__iadd__")):=PySem.seqSlot_of F.slot_list_iadd.lookup (by decide +kernel)
def zf {M:Model}{A:Around}{E:Value->Shared->Prop}{s:Shared}{a b:Value}{Q:Value->Shared->Prop}(ha:s.TypeIs a "list")(hb:s.TypeIs b "list")
  (hc:wpAny M A (call (.builtin "list.__iadd__") [a,b]) Q E s):wpAny M A (inplaceOp .Add a b) Q E s:=by
 unfold inplaceOp;refine NU ?_;refine MA (wpAny_typeOf ha (MA (wpAny_of_eq E_ ?_)));show wpAny M A (if false=true then _ else _) Q E s;rw[MM ME];refine MA (wpAny_binaryOp1_none (nm:="add") ha hb noFill_list_add ?_);refine MA (wpAny_of_eq Ej ?_);assumption
def Jb:Pk X .Add (λx y H Q=>∃l b xs zs,x=.ref l/\y=.ref b/\H l=some (.lst xs)/\H b=some (.lst zs)/\xs.length+zs.length<=sizeLine/\Q (.ref l) (upd H l (.lst (xs++zs)))):=by
 intro pins s O H x y v u Q I rx ry h;obtain⟨l,b,xs,zs,rfl,rfl,hH,hB,hz,q⟩:=h;cases rx;cases ry;obtain⟨z,its,n,r,hl,e⟩:=I.Xw hH;obtain⟨z2,its2,n2,r2,hl2,e2⟩:=I.Xw hB;have hsz:its.toArray.size+its2.toArray.size<=sizeLine:=by rw[NL,NL];omega
 have S7:¬(!its.toArray.isEmpty && Builtin.List.listTooLong (its.toArray.size+its2.toArray.size))=true:=by rw[CP hsz,P7];exact ME
 refine zf ⟨_,e,rfl⟩ ⟨_,e2,rfl⟩ ?_;refine call_meets F.slot_list_iadd ⟨_,e,rfl⟩ F.entry_list_iadd (F.args_list_iadd_2 _ _)
  (AutoSeq1.list___iadd___list_list_0 l its.toArray n b its2.toArray n2 S7 (by simp_all) (by lia)) ⟨e,e2,?_⟩
 refine⟨.ref l,_,I.Tc (its':=its++its2) hH e (by simp) (r.append r2) ?_,rfl,q⟩;rw[MS];omega
end
end L2
namespace FW
open PySem PyProof.Rows
section
variable {prog:Program}{w:World}{A:Around}{E:Value->Shared->Prop}{s:Shared}{a₀:Array Keyed}{κ:KeyKind}{K:SortKind}
structure SB (K:SortKind)(a₀:Array Keyed)(st:SortSt):Prop where
 pm:(arrOf st).Perm a₀
 kd:kindOf st=K
 fl:failedOf st=none
 pd:pendingOf st=#[]
def SB.sz {st:SortSt}(h:SB K a₀ st):(arrOf st).size=a₀.size:=h.pm.size_eq
def SB.arr {st:SortSt}(h:SB K a₀ st){xs:Array Keyed}(p:xs.Perm (arrOf st)):SB K a₀ (setArr st xs):=⟨p.trans h.pm,h.kd,h.fl,h.pd⟩
def Up (κ:KeyKind)(xs:Array Keyed)(n:Nat):Prop:=∀i j,i<j->j<n->κ.klt (KK κ xs i) (KK κ xs j)
def up1 {xs:Array Keyed}:Up κ xs 1:=λi j ij hj=>by omega
end
open PySem L2 HX
set_option genInjectivity true
set_option genCtorIdx true
inductive PV where
 | non|bl (b:Bool)|int (i:Int)|str (x:Str)|tup (xs:List PV)|ref (n:Nat)|YM (xs:List PV)
 deriving Inhabited
inductive Cell where
 | lst (xs:List PV)
noncomputable abbrev AH:=List Cell
noncomputable abbrev Fr:=List (Option PV)
noncomputable abbrev EK:=PV->AH->Prop
noncomputable abbrev LK:=List PV->AH->Prop
noncomputable abbrev BK:=Bool->AH->Prop
noncomputable abbrev ZX:=List PV->AH->EK->Prop
mutual
noncomputable def PV.ZQ (k:Nat):PV->Bool
 | .ref n=>decide (n<k)
 | .tup xs=>PV.Zw k xs
 | .YM xs=>PV.Zw k xs
 | .non=>true
 | .bl _=>true
 | .int _=>true
 | .str _=>true
noncomputable def PV.Zw (k:Nat):List PV->Bool
 | []=>true
 | x::xs=>x.ZQ k && PV.Zw k xs
end
mutual
theorem PV.XN {i j:Nat}(h:i<=j):∀ {v:PV},v.ZQ i=true->v.ZQ j=true
 | .non,_=>by rw[PV.ZQ]
 | .bl _,_=>by rw[PV.ZQ]
 | .int _,_=>by rw[PV.ZQ]
 | .str _,_=>by rw[PV.ZQ]
 | .ref n,z=>by rw[PV.ZQ] at z;rw[PV.ZQ];lia
 | .tup xs,z=>by rw[PV.ZQ] at z;rw[PV.ZQ];exact PV.Yp h z
 | .YM xs,z=>by rw[PV.ZQ] at z;rw[PV.ZQ];exact PV.Yp h z
theorem PV.Yp {i j:Nat}(h:i<=j):∀ {vs:List PV},PV.Zw i vs=true->PV.Zw j vs=true
 | [],_=>by rw[PV.Zw]
 | v::vs,z=>by rw[PV.Zw,MG] at z;rw[PV.Zw,MG];exact⟨PV.XN h z.1,PV.Yp h z.2⟩
end
noncomputable def Cell.ZQ (k:Nat):Cell->Bool
 | .lst xs=>PV.Zw k xs
mutual
noncomputable def PV.toD:PV->Option PyData
 | .non=>some .none
 | .bl b=>some (.bool b)
 | .int i=>some (.int i)
 | .str x=>some (.str x)
 | .tup xs=>(PV.Y8 xs).map .tuple
 | .YM xs=>(PV.Y8 xs).map .list
 | .ref _=>none
noncomputable def PV.Y8:List PV->Option (List PyData)
 | []=>some []
 | x::xs=>match x.toD,PV.Y8 xs with
  | some d,some ds=>some (d::ds)
  | _,_=>none
end
noncomputable def mQ (st:AH):PV->Option PyData
 | .ref n=>match st[n]? with
  | some (.lst xs)=>(PV.Y8 xs).map .list
  | _=>none
 | v=>v.toD
def Ye (st:AH)(x y:PV)(k:Bool->Prop):Prop :=
 match x,y with
 | .int i,.int j=>k (decide (i=j))
 | .bl a,.bl b=>k (decide (a=b))
 | .str a,.str b=>k (decide (a=b))
 | x,y=>∃d e,mQ st x=some d/\mQ st y=some e/\SeqAt.shaped d=true/\SeqAt.shaped e=true/\k (PyData.eqv d e)
noncomputable def di (st:AH):PV->Option String
 | .non=>some "NoneType"
 | .bl _=>some "bool"
 | .int _=>some "int"
 | .str _=>some "str"
 | .tup _=>some "tuple"
 | .YM _=>some "list"
 | .ref n=>match st[n]? with
  | some (.lst _)=>some "list"
  | none=>none
noncomputable def aS (st:AH):PV->Option (List PV)
 | .YM xs=>some xs
 | .ref n=>match st[n]? with
  | some (.lst xs)=>some xs
  | _=>none
 | _=>none
noncomputable def df (st:AH):PV->Option (List PV)
 | .tup xs=>some xs
 | v=>aS st v
noncomputable def eR:PV->Bool
 | .non=>true
 | _=>false
noncomputable def xm:PV->Bool
 | .tup _=>true
 | _=>false
noncomputable def Ay (k:Bool):PV->Bool
 | .bl b=>b == k
 | _=>false
noncomputable def dN (xs:List PV)(lo hi:Option Int):List PV:=(xs.drop (HT.ZK xs.length 0 lo)).take (HT.ZK xs.length xs.length hi-HT.ZK xs.length 0 lo)
noncomputable def RL (b:Bool):Int:=if b then 1 else 0
def U7 (f:Int->Int->Prop)(x y:PV):Prop :=
 match x with
 | .int i=>match y with
  | .int j=>f i j
  | _=>False
 | _=>False
def L0 (x y:PV)(st:AH)(Q:EK):Prop :=
 match x with
 | .int i=>match y with
  | .int j=>Q (.int (i+j)) st
  | _=>False
 | .ref n=>match y with
  | .ref k=>∃xs ys,st[n]?=some (.lst xs)/\st[k]?=some (.lst ys)/\xs.length+ys.length<=100000/\Q (.ref st.length) (st++[.lst (xs++ys)])
  | _=>False
 | .tup xs=>match y with
  | .tup ys=>xs.length+ys.length<=100000/\Q (.tup (xs++ys)) st
  | _=>False
 | .str a=>match y with
  | .str b=>a.length+b.length<=100000/\Q (.str (a++b)) st
  | _=>False
 | _=>False
def LX (x y:PV)(st:AH)(Q:EK):Prop :=
 match x with
 | .int i=>match y with
  | .int j=>Vm i j/\Q (.int (i*j)) st
  | _=>False
 | _=>False
def jQ (op:Operator)(x y:PV)(st:AH)(Q:EK):Prop :=
 match op with
 | .Add=>L0 x y st Q
 | .Sub=>U7 (λi j=>Q (.int (i-j)) st) x y
 | .Mult=>LX x y st Q
 | .FloorDiv=>U7 (λi j=>Yj j/\Q (.int (i/j)) st) x y
 | .Mod=>U7 (λi j=>0<j/\Q (.int (i % j)) st) x y
 | .Pow=>U7 (λi j=>zk i j/\Q (.int (i ^ j.toNat)) st) x y
 | _=>False
def inR (a:Str)(n:Nat)(st:AH)(k:Bool->Prop):Prop:=(∃ns:List Str,st[n]?=some (.lst (ns.map PV.str))/\k (ns.any λj=>j == a))\/False
def fS (op:CmpOp)(x y:PV)(st:AH)(Q:EK):Prop :=
 match op with
 | .Eq=>Ye st x y λk=>Q (.bl k) st
 | .NotEq=>Ye st x y λk=>Q (.bl (!k)) st
 | .Is=>match y with
  | .non=>Q (.bl (eR x)) st
  | .bl k=>Q (.bl (Ay k x)) st
  | _=>False
 | .IsNot=>match y with
  | .non=>Q (.bl (!eR x)) st
  | .bl k=>Q (.bl (!Ay k x)) st
  | _=>False
 | .Lt=>match x,y with
  | .str a,.str b=>Q (.bl (decide (a.cps.toList<b.cps.toList))) st
  | .int i,.int j=>Q (.bl (decide (i<j))) st
  | _,_=>False
 | .LtE=>False
 | .Gt=>match x,y with
  | .int i,.int j=>Q (.bl (decide (j<i))) st
  | _,_=>False
 | .GtE=>match x,y with
  | .int i,.int j=>Q (.bl (decide (j<=i))) st
  | _,_=>False
 | .In=>match x,y with
  | .str a,.str b=>Q (.bl (!(Builtin.Str.occurrences b a 0 b.length 1).isEmpty)) st
  | .str a,.ref n=>inR a n st λk=>Q (.bl k) st
  | _,_=>False
 | .NotIn=>match x,y with
  | .str a,.str b=>Q (.bl (!(!(Builtin.Str.occurrences b a 0 b.length 1).isEmpty))) st
  | .str a,.ref n=>inR a n st λk=>Q (.bl (!k)) st
  | _,_=>False
def tJ (o:Option (Option PV))(f:PV->Prop):Prop :=
 match o with
 | some (some v)=>f v
 | _=>False
def gu {o:Option (Option PV)}{f:PV->Prop}(h:tJ o f):∃v,o=some (some v)/\f v:=by
 cases o with
 | none=>solve_by_elim
 | some o=>cases o with|none=>solve_by_elim|some v=>solve_by_elim
def sG {o:Option (Option PV)}{f:PV->Prop}{v:PV}(e:o=some (some v))(h:f v):tJ o f:=by subst e;exact h
def qN {v:PV}{f:PV->Prop}:tJ (some (some v)) f=f v:=rfl
def Qv (i:Int)(st:AH)(Q:EK)(x:PV):Prop :=
 match x with
 | .str z=>z.length<=100000/\∃c,YL z.cps.toList i=some c/\Q (.str ⟨#[c]⟩) st
 | x=>∃xs,df st x=some xs/\∃v,YL xs i=some v/\Q v st
def xU {i:Int}{st:AH}{Q:EK}{x:PV}(h:Qv i st Q x):(∃z c,x=.str z/\z.length<=100000/\YL z.cps.toList i=some c/\Q (.str ⟨#[c]⟩) st)\/∃xs v,df st x=some xs/\YL xs i=some v/\Q v st:=by
 cases x with
 | str z=>exact .inl ⟨z,h.2.choose,rfl,h.1,h.2.choose_spec⟩
 | _=>obtain⟨xs,e,v,e2,q⟩:=h;exact .inr ⟨xs,v,e,e2,q⟩
def Ed {i:Int}{st:AH}{Q:EK}{x:PV}{xs:List PV}{v:PV}(e:df st x=some xs)(e2:YL xs i=some v)(h:Q v st):Qv i st Q x:=by cases x with|str z=>cases e|_=>exact⟨xs,e,v,e2,h⟩
def ixD (z:Str)(st:AH)(Q:EK)(x:PV):Prop:=False
def Wc (x y:PV)(st:AH)(Q:EK):Prop :=
 match y with
 | .int i=>Qv i st Q x
 | .str z=>ixD z st Q x
 | _=>False
noncomputable def b6 (z:Str)(lo hi:Option Int):Str:=if ((Builtin.Str.strSliceIndices lo hi 1 z.length).length == z.length)=true then z else ⟨((Builtin.Str.strSliceIndices lo hi 1 z.length).filterMap (z.cps[·]?)).toArray⟩
noncomputable def l_ (z y:Str):List PV :=
 match Builtin.Str.occurrences z y 0 z.length 1 with
 | i::_=>[.str (Builtin.Str.strSub z 0 i),.str y,.str (Builtin.Str.strSub z (i+y.length) z.length)]
 | []=>[.str z,.str Str.empty,.str Str.empty]
def VN (f:Str->Prop)(x:PV):Prop :=
 match x with
 | .str b=>f b
 | _=>False
def cj {f:Str->Prop}{x:PV}(h:VN f x):∃b,x=.str b/\f b:=by
 cases x with
 | str b=>solve_by_elim
 | _=>solve_by_elim
def Vw (x:PV)(lo hi:Option Int)(st:AH)(Q:EK):Prop :=
 match x with
 | .str z=>z.length<=100000/\Q (.str (b6 z lo hi)) st
 | .tup xs=>Q (.tup (dN xs lo hi)) st
 | x=>∃xs,aS st x=some xs/\Q (.ref st.length) (st++[.lst (dN xs lo hi)])
def IT (st:AH)(Q:EK)(x:PV):Prop :=
 match x with
 | .str z=>z.length<=100000/\Q (.int z.length) st
 | x=>∃xs,df st x=some xs/\Q (.int xs.length) st
def u6 {st:AH}{Q:EK}{x:PV}(h:IT st Q x):(∃z,x=.str z/\z.length<=100000/\Q (.int z.length) st)\/∃xs,df st x=some xs/\Q (.int xs.length) st:=by cases x with|str z=>exact .inl ⟨z,rfl,h⟩|_=>exact .inr h
def Aj {st:AH}{Q:EK}{x:PV}{xs:List PV}(e:df st x=some xs)(h:Q (.int xs.length) st):IT st Q x:=by cases x with|str z=>cases e|_=>exact⟨xs,e,h⟩
def Gu (st:AH)(Q:EK)(x:PV):Prop :=
 match x with
 | .bl b=>Q (.int (RL b)) st
 | .str z=>z.length<=640/\∃n,PySem.intText? z=some n/\Q (.int n) st
 | _=>False
def qZ {st:AH}{Q:EK}{x:PV}(h:Gu st Q x):(∃b,x=.bl b/\Q (.int (RL b)) st)\/∃z n,x=.str z/\z.length<=640/\PySem.intText? z=some n/\Q (.int n) st:=by cases x with|bl b=>exact .inl ⟨b,rfl,h⟩|str z=>exact .inr ⟨z,h.2.choose,rfl,h.1,h.2.choose_spec⟩|_=>solve_by_elim
inductive B where
 | len|max2|min2|divmod|Yv|str1|tuple1|list1|all1|W9
 deriving DecidableEq
noncomputable def jb:List PV->Option (List Bool)
 | []=>some []
 | .bl b::r=>(jb r).map (b::·)
 | _::_=>none
def r_ (f:PV->Prop)(vs:List PV):Prop :=
 match vs with
 | [x]=>f x
 | _=>False
def El (f:PV->PV->Prop)(vs:List PV):Prop :=
 match vs with
 | [x,y]=>f x y
 | _=>False
def Od (f:Int->Prop)(x:PV):Prop :=
 match x with
 | .int b=>f b
 | _=>False
def Ua (f:List PV->Prop)(x:PV):Prop :=
 match x with
 | .tup b=>f b
 | _=>False
def fF (b:B)(vs:List PV)(st:AH)(Q:EK):Prop :=
 match b with
 | .len=>r_ (IT st Q) vs
 | .max2=>El (U7 λi j=>Q (.int (if i<j then j else i)) st) vs
 | .min2=>El (U7 λi j=>Q (.int (if j<i then j else i)) st) vs
 | .divmod=>El (U7 λi j=>Yj j/\Q (.tup [.int (i/j),.int (i % j)]) st) vs
 | .Yv=>r_ (Gu st Q) vs
 | .str1=>r_ (Od λi=>i.natAbs.log2<1920/\Q (.str (toString i)) st) vs
 | .tuple1=>r_ (λx=>∃xs,df st x=some xs/\Q (.tup xs) st) vs
 | .list1=>r_ (λx=>∃xs,df st x=some xs/\Q (.ref st.length) (st++[.lst xs])) vs
 | .all1=>r_ (λx=>∃xs bs,aS st x=some xs/\jb xs=some bs/\Q (.bl (bs.all id)) st) vs
 | .W9=>r_ (λx=>∃xs bs,aS st x=some xs/\jb xs=some bs/\Q (.bl (bs.any id)) st) vs
inductive M where
 | append
 deriving DecidableEq
def Om (f:Nat->Prop)(x:PV):Prop :=
 match x with
 | .ref n=>f n
 | _=>False
def wW (m:M)(x:PV)(vs:List PV)(st:AH)(Q:EK):Prop :=
 match m with
 | .append=>Om (λn=>r_ (λv=>∃xs,st[n]?=some (.lst xs)/\xs.length<100000/\Q .non (st.set n (.lst (xs++[v])))) vs) x
def b8 {f:Int->Int->Prop}{x y:PV}(h:U7 f x y):∃i j,x=.int i/\y=.int j/\f i j:=by
 cases x with
 | int i =>
  cases y with
  | int j=>exact⟨i,j,rfl,rfl,h⟩
  | _=>solve_by_elim
 | _=>solve_by_elim
def bo {f:PV->Prop}{vs:List PV}(h:r_ f vs):∃x,vs=[x]/\f x:=by
 cases vs with
 | nil=>solve_by_elim
 | cons x t =>
  cases t with
  | nil=>solve_by_elim
  | cons _ _=>solve_by_elim
def gi {f:PV->PV->Prop}{vs:List PV}(h:El f vs):∃x y,vs=[x,y]/\f x y:=by
 cases vs with
 | nil=>solve_by_elim
 | cons x t =>
  cases t with
  | nil=>solve_by_elim
  | cons y t =>
   cases t with
   | nil=>exact⟨x,y,rfl,h⟩
   | cons _ _=>solve_by_elim
def xh {f:Int->Prop}{x:PV}(h:Od f x):∃b,x=.int b/\f b:=by
 cases x with
 | int b=>solve_by_elim
 | _=>solve_by_elim
def m9 {f:List PV->Prop}{x:PV}(h:Ua f x):∃b,x=.tup b/\f b:=by
 cases x with
 | tup b=>solve_by_elim
 | _=>solve_by_elim
def xq {f:Nat->Prop}{x:PV}(h:Om f x):∃b,x=.ref b/\f b:=by
 cases x with
 | ref b=>solve_by_elim
 | _=>solve_by_elim
def t_ (x:PV)(st:AH)(Q:BK):Prop :=
 match x with
 | .bl b=>Q b st
 | _=>False
def Sub (st st':AH):Prop:=∀i,i<st.length->st'[i]?=st[i]?\/∃c,st'[i]?=some c/\c.ZQ 0=true
noncomputable def V5 (st:AH)(Q:EK):EK:=λv st'=>∃st1 g,st'=st1++g/\st1.length=st.length/\Sub st st1/\v.ZQ st.length=true/\Q v st1
noncomputable def Xl (st:AH)(Q:EK):EK:=λv st'=>Q v st'\/V5 st Q v st'
inductive SM where
 | join|split|WL
 deriving DecidableEq
def U0 (k:SM)(x y:PV)(st:AH)(Q:EK):Prop :=
 match x with
 | .str z=>match k with
  | .join=>∃ss:List Str,aS st y=some (ss.map PV.str)/\JoinOk z ss=true/\Q (.str (Txt.join z ss)) st
  | .split=>match y with
   | .str w=>0<w.length/\z.length<=100000/\(Txt.split z w).length<=100000/\Q (.ref st.length) (st++[.lst ((Txt.split z w).map PV.str)])
   | _=>False
  | .WL=>match y with
   | .str w=>z.length<=100000/\Q (.str (Txt.stripChars z w)) st
   | _=>False
 | _=>False
noncomputable def ox (z:Str):Str :=
 match Builtin.Str.occurrences z (" ":Str) 0 z.length 1 with
 | i::_=>Builtin.Str.strSub z 0 i++(("  ":Str)++Builtin.Str.strSub z (i+1) z.length)
 | []=>z
inductive UK where
 | VM|Vs|X3|X4|VP|Yh
 | V9 (ne:Bool) (n:Str) (kvs:List (Str × Int))|VG (n:Str) (kvs:List (Str × Int))|Yn (kvs:List (Str × Int)) (d:Option Int)
 deriving DecidableEq
noncomputable def RM:Option Int->PV
 | some i=>.int i
 | none=>.non
def Xn (k:UK)(x:PV)(st:AH)(Q:EK):Prop :=
 match k with
 | .VM=>∃ss:List Str,df st x=some (ss.map PV.str)/\ss.length<60/\∀ss':List Str,PyProof.Rows.sortedS ss'=true->ss'.Nodup->(∀i,i∈ss'↔i∈ss)->ss'.length<=ss.length->Q (.ref st.length) (st++[.lst (ss'.map PV.str)])
 | .Vs=>∃xs,aS st x=some xs/\Q (.bl xs.isEmpty) st
 | .X3=>∃xs,aS st x=some xs/\Q (.ref st.length) (st++[.lst xs.reverse])
 | .X4=>∃ps:List (Int × Int),aS st x=some (ps.map λp=>.tup [.int p.1,.int p.2])/\ps.length<=2/\∀qs:List (Int × Int),qs.Perm ps->Q (.ref st.length) (st++[.lst (qs.map λp=>.tup [.int p.1,.int p.2])])
 | .VP=>VN (λz=>z.length<=100000/\Q (.str (Txt.upper z)) st) x
 | .Yh=>∃xs,aS st x=some xs/\xs.all (λv=>(eR v || xm v))=true/\Q (.bl (xs.any eR)) st
 | .V9 ne _ kvs=>VN (λz=>Q (.bl ((kvs.lookup z).isSome != ne)) st) x
 | .VG _ kvs=>VN (λz=>∃i,kvs.lookup z=some i/\Q (.int i) st) x
 | .Yn kvs d=>VN (λz=>Q (match kvs.lookup z with|some i=>.int i|none=>RM d) st) x
set_option genInjectivity false
set_option genCtorIdx false
mutual
inductive E where
 | var (i:Nat)|int (i:Int)|bl (b:Bool)|non|str (x:Str)|gv (x:Str) (v:PV)
 | tup (es:Es)|lst (es:Es)
 | bin (op:Operator) (a b:E)|neg (a:E)|not (a:E)
 | cmp (op:CmpOp) (a b:E)
 | Zt (isAnd:Bool) (es:Es)
 | ite (c:T) (a b:E)
 | ix (a b:E)|sl (a:E) (lo hi:Oq)
 | call (f:Nat) (es:Es)
 | blt (b:B) (es:Es)
 | inst (a:E) (t:String)
 | met (m:M) (o:E) (es:Es)
 | comp (elt:E) (tg:Tg) (it:It) (ifs:Ts) (nt:List Str) (caps:List Nat)
 | tmp (a:E)
 | bad
 | Xg (a:E)|part (a:E) (y:Str)|XF (k:SM) (a b:E)
 | un (k:UK) (a:E)
inductive T where
 | not (a:T)|Zt (isAnd:Bool) (ts:Ts)|cmp (op:CmpOp) (a b:E)|Y_ (a:E)|un (k:UK) (a:E)
inductive Ts where
 | nil|cons (t:T) (ts:Ts)
inductive Es where
 | nil|cons (e:E) (es:Es)
 | VL (i:Nat) (z:Str) (j:Nat) (es:Es)
inductive Oq where
 | no|yes (e:E)
inductive It where
 | seq (e:E)|Zy (a:E)|zip (a b:E)|chars (e:E)|YS (a b c:E)
inductive Tg where
 | name (i:Nat)|tup (ts:Yd)|sub (o i:E)
inductive Yd where
 | nil|cons (t:Tg) (ts:Yd)
end
noncomputable def Es.Vt:Es->Bool
 | .nil=>true
 | _=>false
noncomputable def Ts.Vt:Ts->Bool
 | .nil=>true
 | _=>false
def vT (k c:Bool)(A B:Prop):Prop :=
 match k with
 | true=>if c=true then A else B
 | false=>if c=true then B else A
noncomputable def Yd.size:Yd->Nat
 | .nil=>0
 | .cons _ ts=>ts.size+1
def uM (o i v:PV)(st:AH)(k:AH->Prop):Prop :=
 match o,i with
 | .ref n,.int j=>∃xs,st[n]?=some (.lst xs)/\∃q,Wb xs.length j=some q/\k (st.set n (.lst (xs.set q v)))
 | _,_=>False
noncomputable def gY (ZR:AH->Prop)(body:PV->AH->(Option PV->AH->Prop)->Prop):List PV->List PV->AH->LK->Prop
 | [],acc,st,Q=>ZR st/\Q acc st
 | x::xs,acc,st,Q=>ZR st/\body x st λo st'=>gY ZR body xs (acc++o.toList) st' Q
noncomputable def vL (st:AH):PV->AH->Prop
 | .ref n=>λst'=>st'[n]?=st[n]?
 | _=>λ_=>True
noncomputable def Wz (i j k:Int):Nat:=if i<j then ((j-i-1)/k+1).toNat else 0
noncomputable def gR (lo k:Int)(n:Nat):List PV:=(List.range n).map λ(i:Nat)=>PV.int (lo+(i:Int)*k)
noncomputable def cZ (lo:Int)(n:Nat):List PV:=(List.range n).map λ(i:Nat)=>PV.int (lo+(i:Int))
noncomputable def cG:List PV->List PV->List PV
 | x::xs,y::ys=>.tup [x,y]::cG xs ys
 | _,_=>[]
noncomputable def bB (z:Str):List PV:=z.cps.toList.map λc=>.str ⟨#[c]⟩
section
variable (U:Nat->ZX)
mutual
noncomputable def Z_:E->Fr->AH->EK->Prop
 | .var i,Z,st,Q=>tJ Z[i]? λv=>Q v st
 | .int i,_,st,Q=>Q (.int i) st
 | .bl b,_,st,Q=>Q (.bl b) st
 | .non,_,st,Q=>Q .non st
 | .str x,_,st,Q=>Q (.str x) st
 | .gv _ v,_,st,Q=>Q v st
 | .tup es,Z,st,Q=>bT es Z st λvs st1=>vs.length<=100000/\Q (.tup vs) st1
 | .lst es,Z,st,Q=>bT es Z st λvs st1=>vs.length<=100000/\Q (.ref st1.length) (st1++[.lst vs])
 | .bin op a b,Z,st,Q=>Z_ a Z st λx st1=>Z_ b Z st1 λy st2=>jQ op x y st2 Q
 | .neg a,Z,st,Q=>Z_ a Z st λx st1=>∃i,x=.int i/\Q (.int (-i)) st1
 | .not a,Z,st,Q=>Z_ a Z st λx st1=>∃c,x=.bl c/\Q (.bl (!c)) st1
 | .cmp op a b,Z,st,Q=>Z_ a Z st λx st1=>Z_ b Z st1 λy st2=>fS op x y st2 Q
 | .Zt k es,Z,st,Q=>ng k es Z st Q
 | .ite c a b,Z,st,Q=>YW c Z st λk st1=>if k=true then Z_ a Z st1 Q else Z_ b Z st1 Q
 | .ix a b,Z,st,Q=>Z_ a Z st λx st1=>Z_ b Z st1 λy st2=>Wc x y st2 Q
 | .sl a lo hi,Z,st,Q=>Z_ a Z st λx st1=>Vx lo Z st1 λl st2=>Vx hi Z st2 λh st3=>Vw x l h st3 Q
 | .call f es,Z,st,Q=>bT es Z st λvs st1=>U f vs st1 Q
 | .blt b es,Z,st,Q=>bT es Z st λvs st1=>fF b vs st1 Q
 | .inst a t,Z,st,Q=>Z_ a Z st λx st1=>∃n,di st1 x=some n/\Q (.bl (a9 t n)) st1
 | .met m o es,Z,st,Q=>Z_ o Z st λx st1=>(∃xs,aS st1 x=some xs)/\bT es Z st1 λvs st2=>wW m x vs st2 Q
 | .comp elt tg it ifs nt caps,Z,st,Q=>gP it Z st λxs ZR st1 =>
   xs.length<100000/\gY ZR (λx st2 k=>ee tg x (nt.map (λ_=>none)++caps.map λi=>(Z[i]?).join) st2 λZ' st3=>gK true ifs Z' st3 λc Yr =>
    if c=true then Z_ elt Z' Yr λv Yb=>k (some v) Yb else k none Yr) xs [] st1 λvs st2=>Q (.ref st2.length) (st2++[.lst vs])
 | .tmp a,Z,st,Q=>Z_ a Z st (V5 st Q)
 | .bad,_,_,_=>False
 | .Xg a,Z,st,Q=>Z_ a Z st λx st1=>∃n z,x=.ref n/\st1[n]?=some (.lst [.str z])/\z.length<=100000/\Q (.str z) st1
 | .part a y,Z,st,Q=>Z_ a Z st λx st1=>∃z,x=.str z/\z.length<=100000/\Q (.tup (l_ z y)) st1
 | .XF k a b,Z,st,Q=>Z_ a Z st λx st1=>(∃z,x=.str z)/\Z_ b Z st1 λy st2=>U0 k x y st2 Q
 | .un k a,Z,st,Q=>Z_ a Z st λx st1=>Xn k x st1 Q
noncomputable def bT:Es->Fr->AH->LK->Prop
 | .nil,_,st,Q=>Q [] st
 | .cons e es,Z,st,Q=>Z_ e Z st λx st1=>bT es Z st1 λxs st2=>Q (x::xs) st2
 | .VL i z j es,Z,st,Q=>tJ Z[i]? λv=>VN (λa=>tJ Z[j]? λu=>VN (λb=>a.length<=100000/\b.length<=100000/\z.length<=100/\0<z.length/\bT es Z st λvs st1=>Q (.str (a++z)::.str (ox b)::vs) st1) u) v
noncomputable def Vx:Oq->Fr->AH->(Option Int->AH->Prop)->Prop
 | .no,_,st,Q=>Q none st
 | .yes e,Z,st,Q=>Z_ e Z st λx st1=>∃i,x=.int i/\Q (some i) st1
noncomputable def YW:T->Fr->AH->BK->Prop
 | .Zt k es,Z,st,Q=>gK k es Z st Q
 | .not a,Z,st,Q=>YW a Z st λc st1=>Q (!c) st1
 | .cmp op a b,Z,st,Q=>Z_ a Z st λx st1=>Z_ b Z st1 λy st2=>fS op x y st2 λv st3=>∃c,v=.bl c/\Q c st3
 | .Y_ a,Z,st,Q=>Z_ a Z st λv st1=>t_ v st1 Q
 | .un k a,Z,st,Q=>Z_ a Z st λx st1=>Xn k x st1 λv st2=>∃c,v=.bl c/\Q c st2
noncomputable def ng (k:Bool):Es->Fr->AH->EK->Prop
 | .nil,_,_,_=>False
 | .cons e es,Z,st,Q=>Z_ e Z st λx st1=>match es.Vt with
  | true=>Q x st1
  | false=>∃c,x=.bl c/\vT k c (ng k es Z st1 Q) (Q (.bl (!k)) st1)
 | .VL _ _ _ _,_,_,_=>False
noncomputable def gK (k:Bool):Ts->Fr->AH->BK->Prop
 | .nil,_,st,Q=>Q k st
 | .cons e es,Z,st,Q=>YW e Z st λc st1=>match es.Vt with
  | true=>Q c st1
  | false=>vT k c (gK k es Z st1 Q) (Q (!k) st1)
noncomputable def gP:It->Fr->AH->(List PV->(AH->Prop)->AH->Prop)->Prop
 | .seq e,Z,st,Q=>Z_ e Z st λx st1=>∃xs,df st1 x=some xs/\Q xs (vL st1 x) st1
 | .Zy a,Z,st,Q=>Z_ a Z st λx st1=>∃j,x=.int j/\-(2 ^ 62)<=j/\j<2 ^ 62/\Q (cZ 0 j.toNat) (λ_=>True) st1
 | .zip a b,Z,st,Q=>Z_ a Z st λx st1=>Z_ b Z st1 λy st2=>Ua (λxs=>Ua (λys=>Q (cG xs ys) (λ_=>True) st2) y) x
 | .chars a,Z,st,Q=>Z_ a Z st λx st1=>∃z,x=.str z/\Q (bB z) (λ_=>True) st1
 | .YS a b c,Z,st,Q=>Z_ a Z st λx st1=>Z_ b Z st1 λy st2=>Z_ c Z st2 λu st3=>∃i j k,x=.int i/\y=.int j/\u=.int k/\(-(2 ^ 62)<=i/\i<2 ^ 62/\-(2 ^ 62)<=j/\j<2 ^ 62/\0<k/\k<2 ^ 62)/\Q (gR i k (Wz i j k)) (λ_=>True) st3
noncomputable def ee:Tg->PV->Fr->AH->(Fr->AH->Prop)->Prop
 | .name i,v,Z,st,Q=>Q (Z.set i (some v)) st
 | .tup ts,v,Z,st,Q=>∃xs,v=.tup xs/\xs.length=ts.size/\iJ ts xs Z st Q
 | .sub o i,v,Z,st,Q=>Z_ o Z st λx st1=>Z_ i Z st1 λy st2=>uM x y v st2 λst3=>Q Z st3
noncomputable def iJ:Yd->List PV->Fr->AH->(Fr->AH->Prop)->Prop
 | .nil,vs,Z,st,Q=>vs=[]/\Q Z st
 | .cons t ts,vs,Z,st,Q=>∃v r,vs=v::r/\ee t v Z st λZ' st'=>iJ ts r Z' st' Q
end
end
mutual
inductive S where
 | set (t:Tg) (e:E)|par (i j:Nat) (a b:E)|aug (i:Nat) (op:Operator) (e:E)|expr (e:E)|ret (e:E)
 | Zf (c:T) (a b:Ss)|Zh (c:T) (b:Ss)|Yg (t:Tg) (it:It) (b:Ss)
inductive Ss where
 | nil|cons (s:S) (ss:Ss)
end
structure aQ where
 nx:Fr->AH->Prop
 rt:EK
set_option genInjectivity true
set_option genCtorIdx true
noncomputable def uX (ZR:AH->Prop)(body:PV->Fr->AH->aQ->Prop)(D:aQ):List PV->Fr->AH->Prop
 | [],Z,st=>ZR st/\D.nx Z st
 | x::xs,Z,st=>ZR st/\body x Z st { nx:=uX ZR body D xs,rt:=D.rt }
noncomputable def fR (c:Fr->AH->BK->Prop)(body:Fr->AH->aQ->Prop)(D:aQ):Nat->Fr->AH->Prop
 | 0,_,_=>False
 | n+1,Z,st=>c Z st λk st1=>if k=true then body Z st1 { nx:=fR c body D n,rt:=D.rt } else D.nx Z st1
def vz (op:Operator)(x y:PV)(st:AH)(Q:EK):Prop :=
 match op,x,y with
 | .Add,.ref n,.ref k=>∃xs ys,st[n]?=some (.lst xs)/\st[k]?=some (.lst ys)/\xs.length+ys.length<=100000/\Q (.ref n) (st.set n (.lst (xs++ys)))
 | _,_,_=>False
section
variable (U:Nat->ZX)
mutual
noncomputable def wpS:S->Fr->AH->aQ->Prop
 | .set t e,Z,st,D=>Z_ U e Z st λv st1=>ee U t v Z st1 D.nx
 | .par i j a b,Z,st,D=>Z_ U a Z st λx st1=>Z_ U b Z st1 λy st2=>D.nx ((Z.set i (some x)).set j (some y)) st2
 | .aug i op e,Z,st,D=>∃x,Z[i]?=some (some x)/\Z_ U e Z st λy st1=>vz op x y st1 λz st2=>D.nx (Z.set i (some z)) st2
 | .expr e,Z,st,D=>Z_ U e Z st λ_ st1=>D.nx Z st1
 | .ret e,Z,st,D=>Z_ U e Z st D.rt
 | .Zf c a b,Z,st,D=>YW U c Z st λk st1=>if k=true then aO a Z st1 D else aO b Z st1 D
 | .Zh c b,Z,st,D=>∃n,fR (YW U c) (aO b) D n Z st
 | .Yg t it b,Z,st,D=>gP U it Z st λxs ZR st1=>uX ZR (λx Z' st' D'=>ee U t x Z' st' λZ2 st2=>aO b Z2 st2 D') D xs Z st1
noncomputable def aO:Ss->Fr->AH->aQ->Prop
 | .nil,Z,st,D=>D.nx Z st
 | .cons s ss,Z,st,D=>wpS s Z st { D with nx:=λZ' st'=>aO ss Z' st' D }
end
end
section
variable {U:Nat->ZX}{Z:Fr}{st:AH}{Q:EK}{D:aQ}{a b:E}{c:T}{es:Es}
def Am:aO U .nil Z st D=D.nx Z st:=rfl
def Cj {s:S}:aO U (.cons s .nil) Z st D=wpS U s Z st D:=rfl
def Fo {t:Tg}:wpS U (.set t a) Z st D=Z_ U a Z st λv st1=>ee U t v Z st1 D.nx:=rfl
def Hm {i j:Nat}:wpS U (.par i j a b) Z st D=Z_ U a Z st λx st1=>Z_ U b Z st1 λy st2=>D.nx ((Z.set i (some x)).set j (some y)) st2:=rfl
def GA {i:Nat}{op:Operator}:wpS U (.aug i op a) Z st D=∃x,Z[i]?=some (some x)/\Z_ U a Z st λy st1=>vz op x y st1 λz st2=>D.nx (Z.set i (some z)) st2:=rfl
def Bj:wpS U (.expr a) Z st D=Z_ U a Z st λ_ st1=>D.nx Z st1:=rfl
def F1:wpS U (.ret a) Z st D=Z_ U a Z st λv st1=>D.rt v st1:=rfl
def Ka {x y:Ss}:wpS U (.Zf c x y) Z st D=YW U c Z st λk st1=>if k=true then aO U x Z st1 D else aO U y Z st1 D:=rfl
def FZ {i:Nat}:Z_ U (.var i) Z st Q=tJ Z[i]? λv=>Q v st:=rfl
def Fs {i:Int}:Z_ U (.int i) Z st Q=Q (.int i) st:=rfl
def KS {i:Bool}:Z_ U (.bl i) Z st Q=Q (.bl i) st:=rfl
def Gw:Z_ U .non Z st Q=Q .non st:=rfl
def GY {i:Str}:Z_ U (.str i) Z st Q=Q (.str i) st:=rfl
def Kk {x:Str}{v:PV}:Z_ U (.gv x v) Z st Q=Q v st:=rfl
def Fi:Z_ U (.tup es) Z st Q=bT U es Z st λvs st1=>vs.length<=100000/\Q (.tup vs) st1:=rfl
def FN:Z_ U (.lst es) Z st Q=bT U es Z st λvs st1=>vs.length<=100000/\Q (.ref st1.length) (st1++[.lst vs]):=rfl
def FH {op:Operator}:Z_ U (.bin op a b) Z st Q=Z_ U a Z st λx st1=>Z_ U b Z st1 λy st2=>jQ op x y st2 Q:=rfl
def F2:Z_ U (.neg a) Z st Q=Z_ U a Z st λx st1=>∃i,x=.int i/\Q (.int (-i)) st1:=rfl
def Gj:Z_ U (.not a) Z st Q=Z_ U a Z st λx st1=>∃c,x=.bl c/\Q (.bl (!c)) st1:=rfl
def FK {op:CmpOp}:Z_ U (.cmp op a b) Z st Q=Z_ U a Z st λx st1=>Z_ U b Z st1 λy st2=>fS op x y st2 Q:=rfl
def F6 {k:Bool}:Z_ U (.Zt k es) Z st Q=ng U k es Z st Q:=rfl
def GQ:Z_ U (.ite c a b) Z st Q=YW U c Z st λk st1=>if k=true then Z_ U a Z st1 Q else Z_ U b Z st1 Q:=rfl
def KW:Z_ U (.ix a b) Z st Q=Z_ U a Z st λx st1=>Z_ U b Z st1 λy st2=>Wc x y st2 Q:=rfl
def KP {lo hi:Oq}:Z_ U (.sl a lo hi) Z st Q=Z_ U a Z st λx st1=>Vx U lo Z st1 λl st2=>Vx U hi Z st2 λh st3=>Vw x l h st3 Q:=rfl
def Ae {f:Nat}:Z_ U (.call f es) Z st Q=bT U es Z st λvs st1=>U f vs st1 Q:=rfl
def Ga {f:B}:Z_ U (.blt f es) Z st Q=bT U es Z st λvs st1=>fF f vs st1 Q:=rfl
def BU {t:String}:Z_ U (.inst a t) Z st Q=Z_ U a Z st λx st1=>∃n,di st1 x=some n/\Q (.bl (a9 t n)) st1:=rfl
def GH {m:M}:Z_ U (.met m a es) Z st Q=Z_ U a Z st λx st1=>(∃xs,aS st1 x=some xs)/\bT U es Z st1 λvs st2=>wW m x vs st2 Q:=rfl
def AU:Z_ U (.Xg a) Z st Q=Z_ U a Z st λx st1=>∃n z,x=.ref n/\st1[n]?=some (.lst [.str z])/\z.length<=100000/\Q (.str z) st1:=rfl
def Fj {k:SM}:Z_ U (.XF k a b) Z st Q=Z_ U a Z st λx st1=>(∃z,x=.str z)/\Z_ U b Z st1 λy st2=>U0 k x y st2 Q:=rfl
def BE {y:Str}:Z_ U (.part a y) Z st Q=Z_ U a Z st λx st1=>∃z,x=.str z/\z.length<=100000/\Q (.tup (l_ z y)) st1:=rfl
def JY {k:UK}:Z_ U (.un k a) Z st Q=Z_ U a Z st λx st1=>Xn k x st1 Q:=rfl
def FY:Z_ U (.tmp a) Z st Q=Z_ U a Z st λv st1=>V5 st Q v st1:=rfl
variable {LQ:LK}{BQ:BK}{e e2:E}{i:Nat}{v:PV}{FQ:Fr->AH->Prop}{IQ:List PV->(AH->Prop)->AH->Prop}
def Ad:bT U .nil Z st LQ=LQ [] st:=rfl
def xQ:bT U (.cons e es) Z st LQ=Z_ U e Z st λx st1=>bT U es Z st1 λxs st2=>LQ (x::xs) st2:=rfl
def wO {z:Str}{j:Nat}:bT U (.VL i z j es) Z st LQ=tJ Z[i]? λv=>VN (λa=>tJ Z[j]? λu=>VN (λb=>a.length<=100000/\b.length<=100000/\z.length<=100/\0<z.length/\bT U es Z st λvs st1=>LQ (.str (a++z)::.str (ox b)::vs) st1) u) v:=rfl
def J_ {OQ:Option Int->AH->Prop}:Vx U .no Z st OQ=OQ none st:=rfl
def GS {OQ:Option Int->AH->Prop}:Vx U (.yes e) Z st OQ=Z_ U e Z st λx st1=>∃i,x=.int i/\OQ (some i) st1:=rfl
variable {c2:T}{ts:Ts}{k:Bool}
def Fy:YW U (.Zt k ts) Z st BQ=gK U k ts Z st BQ:=rfl
def GI:YW U (.not c) Z st BQ=YW U c Z st λc st1=>BQ (!c) st1:=rfl
def Gb {op:CmpOp}:YW U (.cmp op a b) Z st BQ=Z_ U a Z st λx st1=>Z_ U b Z st1 λy st2=>fS op x y st2 λv st3=>∃c,v=.bl c/\BQ c st3:=rfl
def GC:YW U (.Y_ a) Z st BQ=Z_ U a Z st λv st1=>t_ v st1 BQ:=rfl
def Lq {k:UK}:YW U (.un k a) Z st BQ=Z_ U a Z st λx st1=>Xn k x st1 λv st2=>∃c,v=.bl c/\BQ c st2:=rfl
def Al:ng U k (.cons e .nil) Z st Q=Z_ U e Z st Q:=rfl
def yS:ng U true (.cons e (.cons e2 es)) Z st Q=Z_ U e Z st λx st1=>∃c,x=.bl c/\if c=true then ng U true (.cons e2 es) Z st1 Q else Q (.bl false) st1:=rfl
def xF:ng U false (.cons e (.cons e2 es)) Z st Q=Z_ U e Z st λx st1=>∃c,x=.bl c/\if c=true then Q (.bl true) st1 else ng U false (.cons e2 es) Z st1 Q:=rfl
def sJ:gK U k .nil Z st BQ=BQ k st:=rfl
def Cy:gK U k (.cons c .nil) Z st BQ=YW U c Z st BQ:=rfl
def xC:gK U true (.cons c (.cons c2 ts)) Z st BQ=YW U c Z st λc st1=>if c=true then gK U true (.cons c2 ts) Z st1 BQ else BQ false st1:=rfl
def yI:gK U false (.cons c (.cons c2 ts)) Z st BQ=YW U c Z st λc st1=>if c=true then BQ true st1 else gK U false (.cons c2 ts) Z st1 BQ:=rfl
def Az:gP U (.seq e) Z st IQ=Z_ U e Z st λx st1=>∃xs,df st1 x=some xs/\IQ xs (vL st1 x) st1:=rfl
def GG:gP U (.Zy a) Z st IQ=Z_ U a Z st λx st1=>∃j,x=.int j/\-(2 ^ 62)<=j/\j<2 ^ 62/\IQ (cZ 0 j.toNat) (λ_=>True) st1:=rfl
def BS:gP U (.zip a b) Z st IQ=Z_ U a Z st λx st1=>Z_ U b Z st1 λy st2=>Ua (λxs=>Ua (λys=>IQ (cG xs ys) (λ_=>True) st2) y) x:=rfl
def vb:gP U (.chars a) Z st IQ=Z_ U a Z st λx st1=>∃z,x=.str z/\IQ (bB z) (λ_=>True) st1:=rfl
def Ge {c:E}:gP U (.YS a b c) Z st IQ=Z_ U a Z st λx st1=>Z_ U b Z st1 λy st2=>Z_ U c Z st2 λu st3=>∃i j k,x=.int i/\y=.int j/\u=.int k/\(-(2 ^ 62)<=i/\i<2 ^ 62/\-(2 ^ 62)<=j/\j<2 ^ 62/\0<k/\k<2 ^ 62)/\IQ (gR i k (Wz i j k)) (λ_=>True) st3:=rfl
def j8:ee U (.name i) v Z st FQ=FQ (Z.set i (some v)) st:=rfl
def sC {ts:Yd}:ee U (.tup ts) v Z st FQ=∃xs,v=.tup xs/\xs.length=ts.size/\iJ U ts xs Z st FQ:=rfl
def rm:ee U (.sub a b) v Z st FQ=Z_ U a Z st λx st1=>Z_ U b Z st1 λy st2=>uM x y v st2 λst3=>FQ Z st3:=rfl
def yo {vs:List PV}:iJ U .nil vs Z st FQ=(vs=[]/\FQ Z st):=rfl
def uw {t:Tg}{ts:Yd}{vs:List PV}:iJ U (.cons t ts) vs Z st FQ=∃v r,vs=v::r/\ee U t v Z st λZ' st'=>iJ U ts r Z' st' FQ:=rfl
def AK:Yd.size .nil=0:=id rfl
def yC {t:Tg}{ts:Yd}:Yd.size (.cons t ts)=ts.size+1:=id rfl
end
end FW
namespace FW
open PySem L2 HX
def ug {st:AH}{x y:PV}{k k':Bool->Prop}(h:∀b,k b->k' b)(q:Ye st x y k):Ye st x y k':=by
 unfold Ye at q |-
 split at q
 ·exact h _ q
 ·exact h _ q
 ·exact h _ q
 ·obtain⟨d,e,h1,h2,h3,h4,q⟩:=q;exact⟨d,e,h1,h2,h3,h4,h _ q⟩
def rg {op:Operator}{x y:PV}{st:AH}{Q Q':EK}(h:∀v st,Q v st->Q' v st)(q:jQ op x y st Q):jQ op x y st Q':=by
 cases op with
 | Add =>
  cases x with
  | int i =>
   cases y with
   | int j=>exact h _ _ q
   | _=>assumption
  | ref n =>
   cases y with
   | ref k=>obtain⟨xs,ys,h1,h2,h3,q⟩:=q;exact⟨xs,ys,h1,h2,h3,h _ _ q⟩
   | _=>assumption
  | tup xs =>
   cases y with
   | tup ys=>exact⟨q.1,h _ _ q.2⟩
   | _=>assumption
  | str a =>
   cases y with
   | str b=>exact⟨q.1,h _ _ q.2⟩
   | _=>assumption
  | _=>assumption
 | Mult =>
  cases x with
  | int i =>
   cases y with
   | int j=>exact⟨q.1,h _ _ q.2⟩
   | _=>assumption
  | _=>assumption
 | Sub=>obtain⟨i,j,rfl,rfl,q⟩:=b8 q;exact h _ _ q
 | FloorDiv=>obtain⟨i,j,rfl,rfl,q⟩:=b8 q;exact⟨q.1,h _ _ q.2⟩
 | Mod=>obtain⟨i,j,rfl,rfl,q⟩:=b8 q;exact⟨q.1,h _ _ q.2⟩
 | Pow=>obtain⟨i,j,rfl,rfl,q⟩:=b8 q;exact⟨q.1,h _ _ q.2⟩
 | _=>assumption
def uv {a:Str}{n:Nat}{st:AH}{k k':Bool->Prop}(h:∀b,k b->k' b)(q:inR a n st k):inR a n st k':=q.elim (λ⟨ns,e,q⟩=>.inl ⟨ns,e,h _ q⟩) ac
def iO {op:CmpOp}{x y:PV}{st:AH}{Q Q':EK}(h:∀v st,Q v st->Q' v st)(q:fS op x y st Q):fS op x y st Q':=by
 unfold fS at q |-
 split at q
 ·exact ug (λ_=>h _ _) q
 ·exact ug (λ_=>h _ _) q
 ·split at q <;> first|exact h _ _ q|exact q
 ·split at q <;> first|exact h _ _ q|exact q
 ·grind
 ·exact q
 ·grind
 ·split at q <;> first|exact h _ _ q|exact q
 ·split at q <;> first|exact h _ _ q|(obtain⟨ns,e,q⟩:=q;exact⟨ns,e,h _ _ q⟩)|exact⟨q.1,h _ _ q.2⟩|exact uv (λ_=>h _ _) q|exact q
 ·split at q <;> first|exact h _ _ q|(obtain⟨ns,e,q⟩:=q;exact⟨ns,e,h _ _ q⟩)|exact uv (λ_=>h _ _) q|exact q
def uW {x y:PV}{st:AH}{Q Q':EK}(h:∀v st,Q v st->Q' v st)(q:Wc x y st Q):Wc x y st Q':=by
 cases y with
 | int i =>
  rcases xU q with⟨z,c,rfl,h1,h2,q⟩|⟨xs,v,h1,h2,q⟩
  ·exact⟨h1,c,h2,h _ _ q⟩
  ·exact Ed h1 h2 (h _ _ q)
 | str z=>assumption
 | _=>exact q
def uV {x:PV}{lo hi:Option Int}{st:AH}{Q Q':EK}(h:∀v st,Q v st->Q' v st)(q:Vw x lo hi st Q):Vw x lo hi st Q':=by
 cases x with
 | tup xs=>exact h _ _ q
 | str z=>exact⟨q.1,h _ _ q.2⟩
 | _=>obtain⟨xs,e,q⟩:=q;exact⟨xs,e,h _ _ q⟩
def Bt {k:SM}{x y:PV}{st:AH}{Q Q':EK}(h:∀v st,Q v st->Q' v st)(q:U0 k x y st Q):U0 k x y st Q':=by
 cases x with
 | str z =>
  cases k with
  | join=>obtain⟨ss,h2,h3,q⟩:=q;exact⟨ss,h2,h3,h _ _ q⟩
  | split =>
   cases y with
   | str w=>obtain⟨h1,h2,h3,q⟩:=q;exact⟨h1,h2,h3,h _ _ q⟩
   | _=>assumption
  | WL =>
   cases y with
   | str w=>exact⟨q.1,h _ _ q.2⟩
   | _=>assumption
 | _=>assumption
def uG {k:UK}{x:PV}{st:AH}{Q Q':EK}(h:∀v st,Q v st->Q' v st)(q:Xn k x st Q):Xn k x st Q':=by
 cases k with
 | VM=>obtain⟨ss,h1,h2,q⟩:=q;exact⟨ss,h1,h2,λz a b c d=>h _ _ (q z a b c d)⟩
 | Vs=>obtain⟨xs,h1,q⟩:=q;exact⟨xs,h1,h _ _ q⟩
 | X3=>obtain⟨xs,h1,q⟩:=q;exact⟨xs,h1,h _ _ q⟩
 | X4=>obtain⟨ps,h1,h2,q⟩:=q;exact⟨ps,h1,h2,λz a=>h _ _ (q z a)⟩
 | VP=>obtain⟨z,rfl,h1,q⟩:=cj q;solve_by_elim
 | Yh=>obtain⟨xs,h1,h2,q⟩:=q;exact⟨xs,h1,h2,h _ _ q⟩
 | V9 ne n kvs=>obtain⟨z,rfl,q⟩:=cj q;exact h _ _ q
 | VG n kvs=>obtain⟨z,rfl,i,h1,q⟩:=cj q;exact⟨i,h1,h _ _ q⟩
 | Yn kvs d=>obtain⟨z,rfl,q⟩:=cj q;exact h _ _ q
def qE {b:B}{vs:List PV}{st:AH}{Q Q':EK}(h:∀v st,Q v st->Q' v st)(q:fF b vs st Q):fF b vs st Q':=by
 cases b with
 | len =>
  obtain⟨x,rfl,q⟩:=bo q;rcases u6 q with⟨z,rfl,h1,q⟩|⟨xs,e,q⟩
  ·solve_by_elim
  ·exact Aj e (h _ _ q)
 | max2=>obtain⟨x,y,rfl,q⟩:=gi q;obtain⟨i,j,rfl,rfl,q⟩:=b8 q;exact h _ _ q
 | min2=>obtain⟨x,y,rfl,q⟩:=gi q;obtain⟨i,j,rfl,rfl,q⟩:=b8 q;exact h _ _ q
 | divmod=>obtain⟨x,y,rfl,q⟩:=gi q;obtain⟨i,j,rfl,rfl,q⟩:=b8 q;exact⟨q.1,h _ _ q.2⟩
 | Yv =>
  obtain⟨x,rfl,q⟩:=bo q;rcases qZ q with⟨b,rfl,q⟩|⟨z,n,rfl,h1,h2,q⟩
  ·exact h _ _ q
  ·exact⟨h1,n,h2,h _ _ q⟩
 | str1=>obtain⟨x,rfl,q⟩:=bo q;obtain⟨i,rfl,q⟩:=xh q;exact⟨q.1,h _ _ q.2⟩
 | tuple1=>obtain⟨x,rfl,xs,h1,q⟩:=bo q;exact⟨xs,h1,h _ _ q⟩
 | list1=>obtain⟨x,rfl,xs,h1,q⟩:=bo q;exact⟨xs,h1,h _ _ q⟩
 | all1=>obtain⟨x,rfl,xs,bs,h1,h2,q⟩:=bo q;exact⟨xs,bs,h1,h2,h _ _ q⟩
 | W9=>obtain⟨x,rfl,xs,bs,h1,h2,q⟩:=bo q;exact⟨xs,bs,h1,h2,h _ _ q⟩
def qx {m:M}{x:PV}{vs:List PV}{st:AH}{Q Q':EK}(h:∀v st,Q v st->Q' v st)(q:wW m x vs st Q):wW m x vs st Q':=by
 cases m with
 | append=>obtain⟨n,rfl,q⟩:=xq q;obtain⟨v,rfl,xs,h1,h2,q⟩:=bo q;exact⟨xs,h1,h2,h _ _ q⟩
def p_ {x:PV}{st:AH}{Q Q':BK}(h:∀v st,Q v st->Q' v st)(q:t_ x st Q):t_ x st Q':=by
 unfold t_ at q |-
 split at q <;> first
  | exact h _ _ q
  | exact q.elim
def qX {o i v:PV}{st:AH}{k k':AH->Prop}(h:∀st,k st->k' st)(q:uM o i v st k):uM o i v st k':=by
 unfold uM at q |-
 split at q
 ·obtain⟨xs,h1,j,h2,q⟩:=q;exact⟨xs,h1,j,h2,h _ q⟩
 ·exact q
def Ct {st0:AH}{Q Q':EK}(h:∀v st,Q v st->Q' v st){v:PV}{st:AH}(q:V5 st0 Q v st):V5 st0 Q' v st:=by obtain⟨st1,g,h1,h2,h3,h4,q⟩:=q;exact⟨st1,g,h1,h2,h3,h4,h _ _ q⟩
theorem gF {ZR:AH->Prop}{body body':PV->AH->(Option PV->AH->Prop)->Prop}(hb:∀x st k k',(∀o st,k o st->k' o st)->body x st k->body' x st k') :
  ∀ {xs acc:List PV}{st:AH}{Q Q':LK},(∀v st,Q v st->Q' v st)->gY ZR body xs acc st Q->gY ZR body' xs acc st Q'
 | [],acc,st,Q,Q',h,q=>⟨q.1,h _ _ q.2⟩
 | x::xs,acc,st,Q,Q',h,q=>⟨q.1,hb _ _ _ _ (λo st' z=>gF hb h z) q.2⟩
def iY {k c:Bool}{A A' B B':Prop}(h:A->A')(h':B->B')(q:vT k c A B):vT k c A' B':=by cases k <;> cases c <;> simp_all[vT]
section
variable {U:Nat->ZX}
def bj (U:Nat->ZX):Prop:=∀f vs st Q Q',(∀v st,Q v st->Q' v st)->U f vs st Q->U f vs st Q'
mutual
theorem ae (G:bj U):∀(e:E) {Z:Fr}{st:AH}{Q Q':EK},(∀v st,Q v st->Q' v st)->Z_ U e Z st Q->Z_ U e Z st Q'
 | .var i,Z,st,Q,Q',h,q=>by obtain⟨v,e,z⟩:=gu q;exact sG e (h _ _ z)
 | .int i,Z,st,Q,Q',h,q=>h _ _ q
 | .bl i,Z,st,Q,Q',h,q=>h _ _ q
 | .non,Z,st,Q,Q',h,q=>h _ _ q
 | .str i,Z,st,Q,Q',h,q=>h _ _ q
 | .gv _ i,Z,st,Q,Q',h,q=>h _ _ q
 | .tup es,Z,st,Q,Q',h,q=>aD G es (λvs st1 z=>⟨z.1,h _ _ z.2⟩) q
 | .lst es,Z,st,Q,Q',h,q=>aD G es (λvs st1 z=>⟨z.1,h _ _ z.2⟩) q
 | .bad,Z,st,Q,Q',h,q=>ac q
 | .Xg a,Z,st,Q,Q',h,q=>by refine ae G a (λx st1 z=>?_) q;obtain⟨n,w,e,h1,h2,z⟩:=z;exact⟨n,w,e,h1,h2,h _ _ z⟩
 | .XF k a b,Z,st,Q,Q',h,q=>ae G a (λx st1 z=>⟨z.1,ae G b (λy st2 z=>Bt h z) z.2⟩) q
 | .part a y,Z,st,Q,Q',h,q=>by refine ae G a (λx st1 z=>?_) q;obtain⟨w,e,h1,z⟩:=z;exact⟨w,e,h1,h _ _ z⟩
 | .bin op a b,Z,st,Q,Q',h,q=>ae G a (λx st1 z=>ae G b (λy st2 z=>rg h z) z) q
 | .neg a,Z,st,Q,Q',h,q=>by refine ae G a (λx st1 z=>?_) q;obtain⟨i,e,z⟩:=z;exact⟨i,e,h _ _ z⟩
 | .not a,Z,st,Q,Q',h,q=>by refine ae G a (λx st1 z=>?_) q;obtain⟨i,e,z⟩:=z;exact⟨i,e,h _ _ z⟩
 | .cmp op a b,Z,st,Q,Q',h,q=>ae G a (λx st1 z=>ae G b (λy st2 z=>iO h z) z) q
 | .Zt k es,Z,st,Q,Q',h,q=>lF G k es h q
 | .ite c a b,Z,st,Q,Q',h,q=>by
  refine bJ G c (λk st1 z=>?_) q;cases k with
  | true=>rw[MK rfl] at z |-;exact ae G a h z
  | false=>rw[MM ME] at z |-;exact ae G b h z
 | .ix a b,Z,st,Q,Q',h,q=>ae G a (λx st1 z=>ae G b (λy st2 z=>uW h z) z) q
 | .sl a lo hi,Z,st,Q,Q',h,q=>ae G a (λx st1 z=>j6 G lo (λl st2 z=>j6 G hi (λu st3 z=>uV h z) z) z) q
 | .call f es,Z,st,Q,Q',h,q=>aD G es (λvs st1 z=>G _ _ _ _ _ h z) q
 | .blt b es,Z,st,Q,Q',h,q=>aD G es (λvs st1 z=>qE h z) q
 | .inst a t,Z,st,Q,Q',h,q=>by refine ae G a (λx st1 z=>?_) q;obtain⟨i,e,z⟩:=z;exact⟨i,e,h _ _ z⟩
 | .met m o es,Z,st,Q,Q',h,q=>ae G o (λx st1 z=>⟨z.1,aD G es (λvs st2 z=>qx h z) z.2⟩) q
 | .comp elt tg it ifs nt caps,Z,st,Q,Q',h,q=>by
  exact dm G it (λxs ZR st1 z=>⟨z.1,gF (λx st k k' hk w=>bG G tg (λZ' st3 w=>dq G true ifs (λc Yr w=>by
   cases c with
   | true=>rw[MK rfl] at w |-;exact ae G elt (λv Yb w=>hk _ _ w) w
   | false=>solve_by_elim) w) w) (λvs st2 w=>h _ _ w) z.2⟩) q
 | .tmp a,Z,st,Q,Q',h,q=>ae G a (λv st1 z=>Ct h z) q
 | .un k a,Z,st,Q,Q',h,q=>ae G a (λv st1 z=>uG h z) q
theorem aD (G:bj U):∀(e:Es) {Z:Fr}{st:AH}{Q Q':LK},(∀v st,Q v st->Q' v st)->bT U e Z st Q->bT U e Z st Q'
 | .nil,Z,st,Q,Q',h,q=>h _ _ q
 | .cons e es,Z,st,Q,Q',h,q=>ae G e (λx st1 z=>aD G es (λxs st2 z=>h _ _ z) z) q
 | .VL i w j es,Z,st,Q,Q',h,q=>by obtain⟨v,e1,q⟩:=gu q;obtain⟨a,rfl,q⟩:=cj q;obtain⟨u,e2,q⟩:=gu q;obtain⟨b,rfl,h1,h2,h3,h4,q⟩:=cj q;exact sG e1 (sG e2 ⟨h1,h2,h3,h4,aD G es (λxs st2 z=>h _ _ z) q⟩)
theorem j6 (G:bj U):∀(e:Oq) {Z:Fr}{st:AH}{Q Q':Option Int->AH->Prop},(∀v st,Q v st->Q' v st)->Vx U e Z st Q->Vx U e Z st Q'
 | .no,Z,st,Q,Q',h,q=>h _ _ q
 | .yes e,Z,st,Q,Q',h,q=>by refine ae G e (λx st1 z=>?_) q;obtain⟨i,e,z⟩:=z;exact⟨i,e,h _ _ z⟩
theorem bJ (G:bj U):∀(e:T) {Z:Fr}{st:AH}{Q Q':BK},(∀v st,Q v st->Q' v st)->YW U e Z st Q->YW U e Z st Q'
 | .Zt k es,Z,st,Q,Q',h,q=>dq G k es h q
 | .not a,Z,st,Q,Q',h,q=>bJ G a (λc st1 z=>h _ _ z) q
 | .cmp op a b,Z,st,Q,Q',h,q=>ae G a (λx st1 z=>ae G b (λy st2 z=>iO (λv st3 w=>let ⟨c,e,w⟩:=w;⟨c,e,h _ _ w⟩) z) z) q
 | .Y_ a,Z,st,Q,Q',h,q=>ae G a (λv st2 z=>p_ h z) q
 | .un k a,Z,st,Q,Q',h,q=>ae G a (λv st1 z=>uG (λv st2 w=>let ⟨c,e,w⟩:=w;⟨c,e,h _ _ w⟩) z) q
theorem lF (G:bj U)(k:Bool):∀(e:Es) {Z:Fr}{st:AH}{Q Q':EK},(∀v st,Q v st->Q' v st)->ng U k e Z st Q->ng U k e Z st Q'
 | .nil,Z,st,Q,Q',h,q=>q
 | .cons e es,Z,st,Q,Q',h,q=>ae G e (λx st1 z=>by
  split
  ·exact h _ _ (by simp_all)
  ·rename_i n;rw[n] at z;obtain⟨c,e,z⟩:=z;exact⟨c,e,iY (λz=>lF G k es h z) (h _ _) z⟩) q
 | .VL _ _ _ _,Z,st,Q,Q',h,q=>q
theorem dq (G:bj U)(k:Bool):∀(e:Ts) {Z:Fr}{st:AH}{Q Q':BK},(∀v st,Q v st->Q' v st)->gK U k e Z st Q->gK U k e Z st Q'
 | .nil,Z,st,Q,Q',h,q=>h _ _ q
 | .cons e es,Z,st,Q,Q',h,q=>bJ G e (λx st1 z=>by
  split
  ·exact h _ _ (by simp_all)
  ·rename_i n;rw[n] at z;exact iY (λz=>dq G k es h z) (h _ _) z) q
theorem dm (G:bj U):∀(e:It) {Z:Fr}{st:AH}{Q Q':List PV->(AH->Prop)->AH->Prop},(∀v c st,Q v c st->Q' v c st)->gP U e Z st Q->gP U e Z st Q'
 | .seq a,Z,st,Q,Q',h,q=>by refine ae G a (λx st1 z=>?_) q;obtain⟨c,e,z⟩:=z;exact⟨c,e,h _ _ _ z⟩
 | .Zy a,Z,st,Q,Q',h,q=>by refine ae G a (λx st1 z=>?_) q;obtain⟨c,e,h1,h2,z⟩:=z;exact⟨c,e,h1,h2,h _ _ _ z⟩
 | .zip a b,Z,st,Q,Q',h,q=>ae G a (λx st1 z=>ae G b (λy st2 z=>by obtain⟨xs,rfl,z2⟩:=m9 z;obtain⟨ys,rfl,z3⟩:=m9 z2;exact h _ _ _ z3) z) q
 | .chars a,Z,st,Q,Q',h,q=>by refine ae G a (λx st1 z=>?_) q;obtain⟨c,e,z⟩:=z;exact⟨c,e,h _ _ _ z⟩
 | .YS a b c,Z,st,Q,Q',h,q=>by refine ae G a (λx st1 z=>ae G b (λy st2 z=>ae G c (λu st3 z=>?_) z) z) q;obtain⟨i,j,k,e,e2,e3,h1,z⟩:=z;exact⟨i,j,k,e,e2,e3,h1,h _ _ _ z⟩
theorem bG (G:bj U):∀(t:Tg) {v:PV}{Z:Fr}{st:AH}{Q Q':Fr->AH->Prop},(∀Z st,Q Z st->Q' Z st)->ee U t v Z st Q->ee U t v Z st Q'
 | .name i,v,Z,st,Q,Q',h,q=>h _ _ q
 | .tup ts,v,Z,st,Q,Q',h,q=>by obtain⟨xs,e,hl,q⟩:=q;exact⟨xs,e,hl,gM G ts h q⟩
 | .sub o i,v,Z,st,Q,Q',h,q=>ae G o (λx st1 z=>ae G i (λy st2 z=>qX (λst3 z=>h _ _ z) z) z) q
theorem gM (G:bj U):∀(t:Yd) {v:List PV}{Z:Fr}{st:AH}{Q Q':Fr->AH->Prop},(∀Z st,Q Z st->Q' Z st)->iJ U t v Z st Q->iJ U t v Z st Q'
 | .nil,v,Z,st,Q,Q',h,q=>⟨q.1,h _ _ q.2⟩
 | .cons t ts,v,Z,st,Q,Q',h,q=>by obtain⟨x,r,e,q⟩:=q;exact⟨x,r,e,bG G t (λZ' st' z=>gM G ts h z) q⟩
end
structure gS (D D':aQ):Prop where
 nx:∀Z st,D.nx Z st->D'.nx Z st
 rt:∀v st,D.rt v st->D'.rt v st
theorem q8 {ZR:AH->Prop}{body body':PV->Fr->AH->aQ->Prop}{D D':aQ}(hD:gS D D')(hb:∀x Z st D D',gS D D'->body x Z st D->body' x Z st D') :
  ∀ {xs:List PV}{Z:Fr}{st:AH},uX ZR body D xs Z st->uX ZR body' D' xs Z st
 | [],Z,st,q=>⟨q.1,hD.nx _ _ q.2⟩
 | x::xs,Z,st,q=>by refine⟨q.1,hb _ _ _ _ _ ?_ q.2⟩;exact⟨λ_ _ z=>q8 hD hb z,hD.rt⟩
theorem lO {c:Fr->AH->BK->Prop}{body:Fr->AH->aQ->Prop}{D D':aQ}(hD:gS D D')(hc:∀Z st Q Q',(∀b st,Q b st->Q' b st)->c Z st Q->c Z st Q')
  (hb:∀Z st D D',gS D D'->body Z st D->body Z st D'):∀ {n:Nat}{Z:Fr}{st:AH},fR c body D n Z st->fR c body D' n Z st
 | 0,Z,st,q=>q
 | n+1,Z,st,q=>hc _ _ _ _ (λb st1 z=>by
  cases b with
  | true =>
   rw[MK rfl] at z |-
   refine hb _ _ _ _ ?_ z;exact⟨λ_ _ z=>lO hD hc hb z,hD.rt⟩
  | false=>rw[MM ME] at z |-;exact hD.nx _ _ z) q
def qc {op:Operator}{x y:PV}{st:AH}{Q Q':EK}(h:∀v st,Q v st->Q' v st)(q:vz op x y st Q):vz op x y st Q':=by
 unfold vz at q |-
 split at q
 ·obtain⟨xs,ys,h1,h2,h3,q⟩:=q;exact⟨xs,ys,h1,h2,h3,h _ _ q⟩
 ·exact q
mutual
theorem wpS_mono (G:bj U):∀(s:S) {Z:Fr}{st:AH}{D D':aQ},gS D D'->wpS U s Z st D->wpS U s Z st D'
 | .set t e,Z,st,D,D',h,q=>ae G e (λv st1 z=>bG G t h.nx z) q
 | .par i j a b,Z,st,D,D',h,q=>ae G a (λv st1 z=>ae G b (λw st2 z=>h.nx _ _ z) z) q
 | .aug i op e,Z,st,D,D',h,q=>by obtain⟨x,h1,q⟩:=q;exact⟨x,h1,ae G e (λv st1 z=>qc (λ_ _ z=>h.nx _ _ z) z) q⟩
 | .expr e,Z,st,D,D',h,q=>ae G e (λv st1 z=>h.nx _ _ z) q
 | .ret e,Z,st,D,D',h,q=>ae G e h.rt q
 | .Zf c a b,Z,st,D,D',h,q=>by
  refine bJ G c (λk st1 z=>?_) q;cases k with
  | true=>rw[MK rfl] at z |-;exact bf G a h z
  | false=>rw[MM ME] at z |-;exact bf G b h z
 | .Zh c b,Z,st,D,D',h,q=>by
  obtain⟨n,q⟩:=q;refine⟨n,lO h (c:=YW U c) (body:=aO U b) ?_ ?_ q⟩
  ·exactλ_ _ _ _ hk z=>bJ G c hk z
  ·exactλ_ _ _ _ hk z=>bf G b hk z
 | .Yg t it b,Z,st,D,D',h,q=>by exact dm G it (λxs ZR st1 z=>q8 h (λx Z st D D' hd w=>bG G t (λZ2 st2 w=>bf G b hd w) w) z) q
theorem bf (G:bj U):∀(s:Ss) {Z:Fr}{st:AH}{D D':aQ},gS D D'->aO U s Z st D->aO U s Z st D'
 | .nil,Z,st,D,D',h,q=>h.nx _ _ q
 | .cons s ss,Z,st,D,D',h,q=>by refine wpS_mono G s ?_ q;exact⟨λ_ _ z=>bf G ss h z,h.rt⟩
end
end
open L2 HX
def WT (K:W.Frag)(H:Hp)(a:Addr)(ys:List V):Prop :=
 (∃o,H a=some (.VF o (.lst ys)))\/∃(o:Obj) (its:Array Value) (n:Nat),K.lookup a=some o/\o.cls=.type "list"/\o.dict=none/\o.data=.seq its n/\its.size<=sizeLine/\Vals ys its.toList
def WT.sq {K:W.Frag}{H:Hp}{a:Addr}{ys:List V}(h:WT K H a ys):Zr K H a ys:=by
 rcases h with h|h
 ·exact .inl (.inr h)
 ·exact .inr h
mutual
noncomputable def R (K:W.Frag)(m:List Addr)(H:Hp):PV->V->Prop
 | .non,v=>v=.non
 | .bl b,v=>v=.bl b
 | .int i,v=>v=.int i
 | .str x,v=>v=.str x
 | .ref n,v=>∃a,m[n]?=some a/\v=.ref a
 | .tup xs,v=>∃a ys,v=.ref a/\ZC K H a ys/\Rs K m H xs ys
 | .YM xs,v=>∃a ys,v=.ref a/\WT K H a ys/\Rs K m H xs ys
noncomputable def Rs (K:W.Frag)(m:List Addr)(H:Hp):List PV->List V->Prop
 | [],ys=>ys=[]
 | x::xs,ys=>∃y r,ys=y::r/\R K m H x y/\Rs K m H xs r
end
section
variable {K:W.Frag}{m m':List Addr}{H H':Hp}{v:V}{vs:List V}
def Zo:R K m H .non v↔v=.non:=by rw[R]
def ZW {b:Bool}:R K m H (.bl b) v↔v=.bl b:=by rw[R]
def Z9 {b:Int}:R K m H (.int b) v↔v=.int b:=by rw[R]
def Z8 {b:Str}:R K m H (.str b) v↔v=.str b:=by rw[R]
def oI {n:Nat}:R K m H (.ref n) v↔∃a,m[n]?=some a/\v=.ref a:=by rw[R]
def ZM {xs:List PV}:R K m H (.tup xs) v↔∃a ys,v=.ref a/\ZC K H a ys/\Rs K m H xs ys:=by rw[R]
def Za {xs:List PV}:R K m H (.YM xs) v↔∃a ys,v=.ref a/\WT K H a ys/\Rs K m H xs ys:=by rw[R]
def Z5:Rs K m H [] vs↔vs=[]:=by rw[Rs]
def a8 {x:PV}{xs:List PV}:Rs K m H (x::xs) vs↔∃y r,vs=y::r/\R K m H x y/\Rs K m H xs r:=by rw[Rs]
def Z7 {x:PV}{xs:List PV}:Rs K m H (x::xs) (v::vs)↔R K m H x v/\Rs K m H xs vs:=by
 rw[a8];constructor
 ·rintro⟨_,_,e,h1,h2⟩;simp_all
 ·rintro⟨h1,h2⟩;exact⟨_,_,rfl,h1,h2⟩
theorem Rs.len:∀ {xs:List PV}{ys:List V},Rs K m H xs ys->xs.length=ys.length
 | [],ys,h=>by rw[Z5] at h;subst h;rfl
 | x::xs,ys,h=>by rw[a8] at h;obtain⟨y,r,rfl,_,h⟩:=h;simp[Rs.len h]
theorem Rs.get:∀ {xs:List PV}{ys:List V}{i:Nat}{x:PV},Rs K m H xs ys->xs[i]?=some x->∃y,ys[i]?=some y/\R K m H x y
 | [],ys,i,x,h,e=>by simp at e
 | x::xs,ys,i,z,h,e=>by
  rw[a8] at h;obtain⟨y,r,rfl,h1,h⟩:=h;cases i with
  | zero=>simp at e;subst e;solve_by_elim
  | succ i =>
   obtain⟨w,e1,e2⟩:=Rs.get h (by simpa using e)
   solve_by_elim
theorem Rs.app:∀ {xs zs:List PV}{ys ws:List V},Rs K m H xs ys->Rs K m H zs ws->Rs K m H (xs++zs) (ys++ws)
 | [],zs,ys,ws,h,h'=>by rw[Z5] at h;subst h;exact h'
 | x::xs,zs,ys,ws,h,h'=>by rw[a8] at h;obtain⟨y,r,rfl,h1,h⟩:=h;rw[List.cons_append,a8];exact⟨y,r++ws,rfl,h1,h.app h'⟩
theorem Rs.drop:∀ {xs:List PV}{ys:List V} (n:Nat),Rs K m H xs ys->Rs K m H (xs.drop n) (ys.drop n)
 | xs,ys,0,h=>by assumption
 | [],ys,n+1,h=>by rw[Z5] at h;subst h;solve_by_elim
 | x::xs,ys,n+1,h=>by rw[a8] at h;obtain⟨y,r,rfl,h1,h⟩:=h;simpa using Rs.drop n h
theorem Rs.take:∀ {xs:List PV}{ys:List V} (n:Nat),Rs K m H xs ys->Rs K m H (xs.take n) (ys.take n)
 | xs,ys,0,h=>by solve_by_elim
 | [],ys,n+1,h=>by rw[Z5] at h;subst h;solve_by_elim
 | x::xs,ys,n+1,h=>by rw[a8] at h;obtain⟨y,r,rfl,h1,h⟩:=h;rw[List.take_succ_cons,List.take_succ_cons,Z7];exact⟨h1,Rs.take n h⟩
theorem Rs.set {x:PV}{y:V}(hx:R K m H x y):∀ {xs:List PV}{ys:List V} (n:Nat),Rs K m H xs ys->Rs K m H (xs.set n x) (ys.set n y)
 | [],ys,n,h=>by rw[Z5] at h;subst h;solve_by_elim
 | z::xs,ys,0,h=>by rw[a8] at h;obtain⟨w,r,rfl,h1,h⟩:=h;rw[List.set_cons_zero,List.set_cons_zero,Z7];exact⟨hx,h⟩
 | z::xs,ys,n+1,h=>by rw[a8] at h;obtain⟨w,r,rfl,h1,h⟩:=h;rw[List.set_cons_succ,List.set_cons_succ,Z7];exact⟨h1,Rs.set hx n h⟩
def Rs.cut {xs:List PV}{ys:List V}(h:Rs K m H xs ys)(lo hi:Option Int):Rs K m H (dN xs lo hi) (pq ys lo hi):=by unfold dN pq;rw[h.len];exact(h.drop _).take _
theorem Rs.YL {xs:List PV}{ys:List V}{i:Int}{x:PV}(h:Rs K m H xs ys)(e:YL xs i=some x):∃y,L2.YL ys i=some y/\R K m H x y:=by
 unfold L2.YL at e |-
 rw[h.len] at e;cases q:Wb ys.length i with
 | none=>simp_all
 | some j =>
  rw[q] at e;obtain⟨y,e1,e2⟩:=h.get (show xs[j]?=some x from e)
  solve_by_elim
def Rs.one {x:PV}{y:V}(h:R K m H x y):Rs K m H [x] [y]:=by rw[Z7,Z5];exact⟨h,rfl⟩
end
structure Ext (K:W.Frag)(m:List Addr)(H:Hp)(m':List Addr)(H':Hp):Prop where
 pre:m <+: m'
 new:∀a∈m',a∈m\/H a=none
 fr:∀a o,(a ∉ m\/∀ys,o≠.lst ys)->H a=some o->H' a=some o
def Ext.refl (K:W.Frag)(m:List Addr)(H:Hp):Ext K m H m H:=⟨OL _,λ_ h=>.inl h,λ_ _ _ h=>h⟩
def Ext.tup {K:W.Frag}{m m':List Addr}{H H':Hp}(x:Ext K m H m' H'):∀a ys,ZC K H a ys->ZC K H' a ys:=λa _ q=>by
 rcases q with (q|⟨w,q⟩)|q
 ·exact .inl (.inl (x.fr _ _ (.inr nofun) q))
 ·exact .inl (.inr ⟨w,x.fr _ _ (.inr nofun) q⟩)
 ·exact .inr q
def Ext.Tn {K:W.Frag}{m m':List Addr}{H H':Hp}(x:Ext K m H m' H'):∀a ys,WT K H a ys->WT K H' a ys:=λa _ q=>by
 rcases q with⟨w,q⟩|q
 ·exact .inl ⟨w,x.fr _ _ (.inr nofun) q⟩
 ·exact .inr q
theorem Ext.trans {K:W.Frag}{m m1 m2:List Addr}{H H1 H2:Hp}(a:Ext K m H m1 H1)(b:Ext K m1 H1 m2 H2):Ext K m H m2 H2:=by
 refine⟨a.pre.trans b.pre,λc hc=>?_,λc o h e=>b.fr c o (h.imp_left λh z=>(a.new c z).elim h λz=>by simp_all) (a.fr c o h e)⟩;rcases b.new c hc with q|q
 ·exact a.new c q
 ·by_cases hm:c∈m
  ·exact .inl hm
  ·cases e:H c with
   | none=>exact .inr rfl
   | some o=>rw[a.fr c o (.inl hm) e] at q;cases q
def rH {m m':List Addr}(h:m <+: m'){n:Nat}{a:Addr}(e:m[n]?=some a):m'[n]?=some a:=by obtain⟨t,rfl⟩:=h;rw[M0 (MT.mp e).1];exact e
mutual
theorem R.gen {K:W.Frag}{m m':List Addr}{H H':Hp}(hp:m <+: m')(ht:∀a ys,ZC K H a ys->ZC K H' a ys)(hr:∀a ys,WT K H a ys->WT K H' a ys):∀ {p:PV}{v:V},R K m H p v->R K m' H' p v
 | .non,v,h | .bl b,v,h | .int b,v,h | .str b,v,h=>h
 | .ref n,v,h=>by rw[oI] at h |-;obtain⟨a,e,q⟩:=h;exact⟨a,rH hp e,q⟩
 | .tup xs,v,h=>by rw[ZM] at h |-;obtain⟨a,ys,e,q,r⟩:=h;exact⟨a,ys,e,ht _ _ q,Rs.gen hp ht hr r⟩
 | .YM xs,v,h=>by rw[Za] at h |-;obtain⟨a,ys,e,q,r⟩:=h;exact⟨a,ys,e,hr _ _ q,Rs.gen hp ht hr r⟩
theorem Rs.gen {K:W.Frag}{m m':List Addr}{H H':Hp}(hp:m <+: m')(ht:∀a ys,ZC K H a ys->ZC K H' a ys)(hr:∀a ys,WT K H a ys->WT K H' a ys):∀ {ps:List PV}{vs:List V},Rs K m H ps vs->Rs K m' H' ps vs
 | [],vs,h=>h
 | p::ps,vs,h=>by
  rw[a8] at h |-
  obtain⟨y,r,e,h1,h2⟩:=h;exact⟨y,r,e,h1.gen hp ht hr,h2.gen hp ht hr⟩
end
def R.mono {K:W.Frag}{m m':List Addr}{H H':Hp}(x:Ext K m H m' H'){p:PV}{v:V}(h:R K m H p v):R K m' H' p v:=h.gen x.pre x.tup x.Tn
def Rs.mono {K:W.Frag}{m m':List Addr}{H H':Hp}(x:Ext K m H m' H'){p:List PV}{v:List V}(h:Rs K m H p v):Rs K m' H' p v:=h.gen x.pre x.tup x.Tn
mutual
theorem R.cut {K:W.Frag}{m:List Addr}{H:Hp}{k:Nat}:∀ {p:PV}{v:V},R K m H p v->p.ZQ k=true->R K (m.take k) H p v
 | .non,v,h,_=>by assumption
 | .bl b,v,h,_=>by assumption
 | .int b,v,h,_=>by assumption
 | .str b,v,h,_=>by assumption
 | .ref n,v,h,z=>by
  rw[oI] at h |-
  obtain⟨a,e,q⟩:=h;rw[PV.ZQ] at z;exact⟨a,by simp_all,q⟩
 | .tup xs,v,h,z=>by
  rw[ZM] at h |-
  obtain⟨a,ys,e,q,r⟩:=h;rw[PV.ZQ] at z;exact⟨a,ys,e,q,Rs.Vq r z⟩
 | .YM xs,v,h,z=>by
  rw[Za] at h |-
  obtain⟨a,ys,e,q,r⟩:=h;rw[PV.ZQ] at z;exact⟨a,ys,e,q,Rs.Vq r z⟩
theorem Rs.Vq {K:W.Frag}{m:List Addr}{H:Hp}{k:Nat}:∀ {ps:List PV}{vs:List V},Rs K m H ps vs->PV.Zw k ps=true->Rs K (m.take k) H ps vs
 | [],vs,h,_=>by assumption
 | p::ps,vs,h,z=>by
  rw[a8] at h |-
  obtain⟨y,r,e,h1,h2⟩:=h;rw[PV.Zw,MG] at z;exact⟨y,r,e,R.cut h1 z.1,Rs.Vq h2 z.2⟩
end
mutual
theorem R.ZQ {K:W.Frag}{m:List Addr}{H:Hp}:∀ {p:PV}{v:V},R K m H p v->p.ZQ m.length=true
 | .non,v,h=>by rw[PV.ZQ]
 | .bl b,v,h=>by rw[PV.ZQ]
 | .int b,v,h=>by rw[PV.ZQ]
 | .str b,v,h=>by rw[PV.ZQ]
 | .ref n,v,h=>by rw[oI] at h;obtain⟨a,e,q⟩:=h;rw[PV.ZQ];exact M1 (MT.mp e).1
 | .tup xs,v,h=>by rw[ZM] at h;obtain⟨a,ys,e,q,r⟩:=h;rw[PV.ZQ];exact Rs.ZQ r
 | .YM xs,v,h=>by rw[Za] at h;obtain⟨a,ys,e,q,r⟩:=h;rw[PV.ZQ];exact Rs.ZQ r
theorem Rs.ZQ {K:W.Frag}{m:List Addr}{H:Hp}:∀ {ps:List PV}{vs:List V},Rs K m H ps vs->PV.Zw m.length ps=true
 | [],vs,h=>by rw[PV.Zw]
 | p::ps,vs,h=>by rw[a8] at h;obtain⟨y,r,e,h1,h2⟩:=h;rw[PV.Zw,MG];exact⟨R.ZQ h1,Rs.ZQ h2⟩
end
noncomputable def Y0 (K:W.Frag)(m:List Addr)(H:Hp):Cell->Addr->Prop
 | .lst xs,a=>∃ys,H a=some (.lst ys)/\Rs K m H xs ys
theorem Y0.mono {K:W.Frag}{m m':List Addr}{H H':Hp}(x:Ext K m H m' H'){c:Cell}{a:Addr}(h:Y0 K m H c a)(e:H' a=H a):Y0 K m' H' c a:=by
 cases c with
 | lst xs=>obtain⟨ys,h1,h2⟩:=h;exact⟨ys,e.trans h1,h2.mono x⟩
def Y0.cut {K:W.Frag}{m:List Addr}{H:Hp}{c:Cell}{a:Addr}{k:Nat}(h:Y0 K m H c a)(z:c.ZQ k=true):Y0 K (m.take k) H c a:=by
 cases c with
 | lst xs=>obtain⟨ys,h1,h2⟩:=h;exact⟨ys,h1,h2.Vq z⟩
theorem Y0.ZQ {K:W.Frag}{m:List Addr}{H:Hp}{c:Cell}{a:Addr}(h:Y0 K m H c a):c.ZQ m.length=true:=by
 cases c with
 | lst xs=>obtain⟨ys,h1,h2⟩:=h;exact h2.ZQ
structure RH (K:W.Frag)(m:List Addr)(H:Hp)(st:AH):Prop where
 len:m.length=st.length
 nd:m.Nodup
 at_:∀(n:Nat) (c:Cell) (a:Addr),st[n]?=some c->m[n]?=some a->Y0 K m H c a
section
variable {K:W.Frag}{m m':List Addr}{H H':Hp}{st:AH}
def RH.mem {a:Addr}(h:RH K m H st)(e:a∈m):∃ys,H a=some (.lst ys):=by
 obtain⟨n,hn,rfl⟩:=List.mem_iff_getElem.mp e;have:n<st.length:=by rw[<-h.len];exact hn
 have c:=h.at_ n st[n] m[n] (by simp[this]) (by simp[hn]);cases st[n];obtain⟨ys,q,_⟩:=c;exact⟨ys,q⟩
theorem RH.lst {n:Nat}{xs:List PV}{v:V}(h:RH K m H st)(e:st[n]?=some (.lst xs))(r:R K m H (.ref n) v):∃a ys,v=.ref a/\m[n]?=some a/\H a=some (.lst ys)/\Rs K m H xs ys:=by rw[oI] at r;obtain⟨a,e1,rfl⟩:=r;obtain⟨ys,h1,h2⟩:=h.at_ n _ a e e1;exact⟨a,ys,rfl,e1,h1,h2⟩
def RH.fresh {p:Addr}(h:RH K m H st)(e:H p=none):p ∉ m:=λz=>by
 obtain⟨o,q⟩:=h.mem z
 simp_all
def Ext.ZG {p:Addr}{o:HO}(h:RH K m H st)(e:H p=none):Ext K m H m (upd H p o):=⟨OL _,λ_ z=>.inl z,λa u _ q=>by rw[bg (dX q e)];exact q⟩
def RH.keep (h:RH K m H st)(x:Ext K m H m H')(e:∀a∈m,H' a=H a):RH K m H' st :=
 ⟨h.len,h.nd,λn c a h1 h2=>(h.at_ n c a h1 h2).mono x (e a (MW h2))⟩
theorem RH.ZG {p:Addr}{o:HO}(h:RH K m H st)(e:H p=none):RH K m (upd H p o) st :=
 h.keep (Ext.ZG h e) λa ha=>bg λz=>h.fresh e (z ▸ ha)
def Ext.new1 {p:Addr}{o:HO}(h:RH K m H st)(e:H p=none):Ext K m H (m++[p]) (upd H p o):=by
 have q:=Ext.ZG (o:=o) h e;refine⟨QL _ _,λa z=>?_,q.fr⟩;rcases MN.mp z with z|z
 ·exact .inl z
 simp_all
theorem RH.new1 {p:Addr}{o:HO}{c:Cell}(h:RH K m H st)(e:H p=none)(hc:Y0 K (m++[p]) (upd H p o) c p):RH K (m++[p]) (upd H p o) (st++[c]):=by
 have x:=Ext.new1 (o:=o) h e;refine⟨by simp[h.len],QS.mpr ⟨h.nd,ND.mpr ⟨by simp,Q5⟩,λa ha b hb z=>?_⟩,λn c' a h1 h2=>?_⟩
 ·rw[MF] at hb;subst hb;exact h.fresh e (z ▸ ha)
 ·by_cases hn:n<st.length
  ·rw[M0 hn] at h1;rw[M0 (by rw[h.len];exact hn)] at h2;exact(h.at_ n c' a h1 h2).mono x (bg λz=>h.fresh e (z ▸ MW h2))
  ·rw[MY (by simp_all)] at h1;rw[MY (by rw[h.len];omega)] at h2;have hl:=h.len;by_cases hz:n-st.length=0
   ·simp_all
   simp_all
def RH.newL {p:Addr}{xs:List PV}{ys:List V}(h:RH K m H st)(e:H p=none)(r:Rs K m H xs ys):RH K (m++[p]) (upd H p (.lst ys)) (st++[.lst xs]) :=
 h.new1 e ⟨ys,bq,r.mono (Ext.new1 h e)⟩
def R.last {p:Addr}{n:Nat}(h:m.length=n):R K (m++[p]) H (.ref n) (.ref p):=by rw[oI];exact⟨p,by rw[<-h];simp,rfl⟩
def Ext.set {n:Nat}{a:Addr}{o:HO}(h:RH K m H st)(e:m[n]?=some a):Ext K m H m (upd H a o):=by have hm:=MW e;obtain⟨ys,hu⟩:=h.mem hm;refine⟨OL _,λ_ z=>.inl z,λb w hb q=>?_⟩;rw[bg λz=>by subst z;rw[hu] at q;cases q;exact hb.elim (λz=>z hm) λz=>z _ rfl];exact q
def zI {m:List Addr}(h:m.Nodup){i j:Nat}{a:Addr}(e:m[i]?=some a)(e':m[j]?=some a):i=j:=by obtain⟨h1,h2⟩:=MT.mp e;obtain⟨h3,h4⟩:=MT.mp e';exact(List.getElem_inj h).mp (h2.trans h4.symm)
def RH.Yx {n:Nat}{a:Addr}{xs:List PV}{ys:List V}(h:RH K m H st)(e:m[n]?=some a)(r:Rs K m H xs ys):RH K m (upd H a (.lst ys)) (st.set n (.lst xs)):=by
 have x:Ext K m H m (upd H a (.lst ys)):=Ext.set h e;refine⟨by simp[h.len],h.nd,λk c b h1 h2=>?_⟩;by_cases hk:k=n
 ·subst hk;rw[e] at h2;cases h2;have hl:k<st.length:=by rw[<-h.len];exact(MT.mp e).1
  rw[NG hl] at h1;cases h1;exact⟨ys,bq,r.mono x⟩
 ·rw[NJ (λz=>hk z.symm)] at h1;exact(h.at_ k c b h1 h2).mono x (bg λz=>hk (zI h.nd h2 (z ▸ e)))
end
structure RF (K:W.Frag)(m:List Addr)(H:Hp)(Z:Fr)(O:L2.St):Prop where
 len:Z.length=O.length
 at_:∀(i:Nat) v,Z[i]?=some (some v)->∃x,O[i]?=some (some x)/\R K m H v x
theorem RF.mono {K:W.Frag}{m m':List Addr}{H H':Hp}{Z:Fr}{O:L2.St}(h:RF K m H Z O)(x:Ext K m H m' H'):RF K m' H' Z O :=
 ⟨h.len,λi v e=>let ⟨y,e1,r⟩:=h.at_ i v e;⟨y,e1,r.mono x⟩⟩
theorem RF.set {K:W.Frag}{m:List Addr}{H:Hp}{Z:Fr}{O:L2.St}(h:RF K m H Z O)(i:Nat){v:PV}{x:V}(r:R K m H v x):RF K m H (Z.set i (some v)) (O.set i (some x)):=by
 refine⟨by simp[h.len],λj w e=>?_⟩;by_cases hj:i=j
 ·subst hj;have hl:i<Z.length:=by have:=(MT.mp e).1;simpa using this
  rw[NG hl] at e;cases e;exact⟨x,by rw[NG (h.len ▸ hl)],r⟩
 ·rw[NJ hj] at e;rw[NJ hj];exact h.at_ j w e
noncomputable def post (K:W.Frag)(m:List Addr)(H:Hp)(Q:VK):EK:=λv st'=>∀m' H' x,Ext K m H m' H'->RH K m' H' st'->R K m' H' v x->Q x H'
noncomputable def Xx (K:W.Frag)(m:List Addr)(H:Hp)(Q:Bool->Hp->Prop):BK:=λv st'=>∀m' H',Ext K m H m' H'->RH K m' H' st'->Q v H'
noncomputable def GW (K:W.Frag)(m:List Addr)(H:Hp)(Q:List V->Hp->Prop):LK:=λvs st'=>∀m' H' xs,Ext K m H m' H'->RH K m' H' st'->Rs K m' H' vs xs->Q xs H'
noncomputable def Zv (K:W.Frag)(w:Fr->AH->EK->Prop):TE:=λO H Q=>∃m Z st,RF K m H Z O/\RH K m H st/\w Z st (post K m H Q)
noncomputable def Ue (K:W.Frag)(w:Fr->AH->BK->Prop):TT:=λO H Q=>∃m Z st,RF K m H Z O/\RH K m H st/\w Z st (Xx K m H Q)
noncomputable def V3 (K:W.Frag)(w:Fr->AH->LK->Prop):TA:=λO H Q=>∃m Z st,RF K m H Z O/\RH K m H st/\w Z st (GW K m H Q)
def post.ext {K:W.Frag}{m m1:List Addr}{H H1:Hp}{Q:VK}(x:Ext K m H m1 H1){v:PV}{st:AH}(q:post K m H Q v st):post K m1 H1 Q v st:=λm' H' y e r s=>q m' H' y (x.trans e) r s
def Xx.ext {K:W.Frag}{m m1:List Addr}{H H1:Hp}{Q:Bool->Hp->Prop}(x:Ext K m H m1 H1){v:Bool}{st:AH}(q:Xx K m H Q v st):Xx K m1 H1 Q v st:=λm' H' e r=>q m' H' (x.trans e) r
noncomputable def DJ (K:W.Frag)(w:PV->PV->AH->EK->Prop):R2:=λx' y' H Q=>∃m st x y,RH K m H st/\R K m H x x'/\R K m H y y'/\w x y st (post K m H Q)
noncomputable def Ko (K:W.Frag)(w:List PV->AH->EK->Prop):List V->Hp->VK->Prop:=λxs' H Q=>∃m st xs,RH K m H st/\Rs K m H xs xs'/\w xs st (post K m H Q)
def eT {n:Nat}(h:n<=100000):n<=sizeLine:=by rw[sizeLine_eq];lia
def rR {n:Nat}(h:n<100000):n<sizeLine:=by rw[sizeLine_eq];lia
section
variable {X:Cx}
def post.here {K:W.Frag}{m:List Addr}{H:Hp}{Q:VK}{v:PV}{st:AH}{x:V}(q:post K m H Q v st)(h:RH K m H st)(r:R K m H v x):Q x H:=q m H x (Ext.refl _ _ _) h r
theorem post.ZG {K:W.Frag}{m:List Addr}{H:Hp}{Q:VK}{xs:List PV}{ys:List V}{st:AH}{p:Addr}(q:post K m H Q (.tup xs) st)(h:RH K m H st)(r:Rs K m H xs ys)(e:H p=none):Q (.ref p) (upd H p (.tup ys)) :=
 q m _ _ (Ext.ZG h e) (h.ZG e) (ZM.mpr ⟨p,ys,rfl,ZC.of bq,r.mono (Ext.ZG h e)⟩)
theorem post.newL {K:W.Frag}{m:List Addr}{H:Hp}{Q:VK}{xs:List PV}{ys:List V}{st:AH}{p:Addr}(q:post K m H Q (.ref st.length) (st++[.lst xs]))(h:RH K m H st)(r:Rs K m H xs ys)(e:H p=none):Q (.ref p) (upd H p (.lst ys)) :=
 q _ _ _ (Ext.new1 h e) (h.newL e r) (R.last h.len)
theorem post.Yx {K:W.Frag}{m:List Addr}{H:Hp}{Q:VK}{v:PV}{y:V}{xs:List PV}{ys:List V}{st:AH}{n:Nat}{a:Addr}(q:post K m H Q v (st.set n (.lst xs)))(h:RH K m H st)(e:m[n]?=some a)(r:Rs K m H xs ys)(rv:R K m H v y) :
  Q y (upd H a (.lst ys)):=q _ _ _ (Ext.set h e) (h.Yx e r) (rv.mono (Ext.set h e))
def bF {K:W.Frag}{m:List Addr}{H:Hp}{st:AH}{v:PV}{x:V}{xs:List PV}(h:RH K m H st)(r:R K m H v x)(e:aS st v=some xs):∃a ys,x=.ref a/\Zr K H a ys/\Rs K m H xs ys:=by
 cases v with
 | YM zs =>cases e;rw[Za] at r;obtain⟨a,ys,rfl,h1,h2⟩:=r;exact⟨a,ys,rfl,h1.sq,h2⟩
 | ref n =>
  unfold aS at e;simp only at e;split at e
  ·cases e;rename_i q;obtain⟨a,ys,rfl,_,h1,h2⟩:=h.lst q r;exact⟨a,ys,rfl,Zr.of h1,h2⟩
  ·cases e
 | _=>cases e
def jX {K:W.Frag}{m:List Addr}{H:Hp}{st:AH}{v:PV}{x:V}{xs:List PV}(h:RH K m H st)(r:R K m H v x)(e:df st v=some xs):∃a ys,x=.ref a/\(Zr K H a ys\/ZC K H a ys)/\Rs K m H xs ys:=by
 cases v with
 | tup zs =>cases e;rw[ZM] at r;obtain⟨a,ys,rfl,h1,h2⟩:=r;exact⟨a,ys,rfl,.inr h1,h2⟩
 | YM zs =>obtain⟨a,ys,h1,h2,h3⟩:=bF h r e;exact⟨a,ys,h1,.inl h2,h3⟩
 | ref n =>obtain⟨a,ys,h1,h2,h3⟩:=bF h r e;exact⟨a,ys,h1,.inl h2,h3⟩
 | _=>cases e
def Mf {P:Program}{w:World}{A:Around}{E:Value->Shared->Prop}{s:Shared}{t b:Addr}{ws:List Value}{Q:Value->Shared->Prop}(ht:IsTup s.heap t ([]:List Value).toArray)(hb:IsTup s.heap b ws.toArray)(h:Q (.ref b) s) :
  wpAny (model P w) A (binaryOp .Add (.ref t) (.ref b)) Q E s:=by
 obtain⟨⟨cls,dd,data,sl⟩,ho,hc,n,hd⟩:=id ht;obtain⟨⟨cls2,dd2,data2,sl2⟩,ho2,hc2,n2,hd2⟩:=id hb;simp only at hc hd hc2 hd2;subst hc hd hc2 hd2;exact concat_meets ⟨_,ho,rfl⟩ ⟨_,ho2,rfl⟩ noFill_tuple_add seq_tuple_add P5 P2 (PU _ _)
  (tuple_addW0 t b ([]:List Value).toArray ws.toArray n n2 dd dd2 sl sl2 rfl) ⟨ho,ho2,h⟩
def wb (op:Operator):Y9 X (binaryOp op) (DJ X.K (jQ op)):=by
 intro pins s O H x' y' v u Q I rx ry h;obtain⟨m,st,x,y,rh,hx,hy,w⟩:=h;cases op with
 | Add =>
  cases x with
  | int i =>
   cases y with
   | int j =>have w:post X.K m H Q (.int (i+j)) st:=w;rw[Z9] at hx hy;subst hx hy;exact Hy pins s O H _ _ v u Q I rx ry ⟨_,_,rfl,rfl,w.here rh (Z9.mpr rfl)⟩
   | _=>solve_by_elim
  | ref n =>
   cases y with
   | ref k =>obtain⟨xs,ys,h1,h2,h3,w⟩:=w;obtain⟨a,xs',rfl,e1,g1,r1⟩:=rh.lst h1 hx;obtain⟨b,ys',rfl,e2,g2,r2⟩:=rh.lst h2 hy;exact IR pins s O H _ _ v u Q I rx ry ⟨a,b,xs',ys',rfl,rfl,g1,g2,by rw[<-r1.len,<-r2.len];exact eT h3,λp hp=>w.newL rh (r1.app r2) hp⟩
   | _=>solve_by_elim
  | tup xs =>
   cases y with
   | tup ys =>
    obtain⟨h2,w⟩:=w;rw[ZM] at hx hy;obtain⟨a,xs',rfl,g1,r1⟩:=hx;obtain⟨b,ys',rfl,g2,r2⟩:=hy;by_cases h1:xs'=[]
    ·subst h1;cases rx;cases ry;obtain⟨S9,Oo,p1,_⟩:=I.tuple g1;obtain⟨its2,rv2,p2,_⟩:=I.tuple g2;cases Oo;have e:=r1.len;rw[Rw.mp e,QC] at w;exact Mf p1 p2 ⟨.ref b,H,I,rfl,w.here rh (ZM.mpr ⟨b,ys',rfl,g2,r2⟩)⟩
    refine Fe pins s O H _ _ v u Q I rx ry ⟨a,b,xs',ys',rfl,rfl,g1,g2,λz=>?_,by rw[<-r1.len,<-r2.len];exact eT h2,λz=>?_,λz p hp=>w.ZG rh (r1.app r2) hp⟩
    ·exact h1 z
    ·subst z;have e:=r2.len;rw[Rw.mp e,N5] at w;exact w.here rh (ZM.mpr ⟨a,xs',rfl,g1,r1⟩)
   | _=>solve_by_elim
  | str a =>
   cases y with
   | str b =>obtain⟨h2,w⟩:=w;rw[Z8] at hx hy;subst hx hy;exact wM pins s O H _ _ v u Q I rx ry ⟨_,_,rfl,rfl,eT h2,w.here rh (Z8.mpr rfl)⟩
   | _=>solve_by_elim
  | _=>solve_by_elim
 | Mult =>
  cases x with
  | int i =>
   cases y with
   | int j =>have w:Vm i j/\post X.K m H Q (.int (i*j)) st:=w;rw[Z9] at hx hy;subst hx hy;exact D4 pins s O H _ _ v u Q I rx ry ⟨_,_,rfl,rfl,w.1,w.2.here rh (Z9.mpr rfl)⟩
   | _=>solve_by_elim
  | _=>solve_by_elim
 | Sub =>obtain⟨i,j,rfl,rfl,w⟩:=b8 w;rw[Z9] at hx hy;subst hx hy;exact Ik pins s O H _ _ v u Q I rx ry ⟨_,_,rfl,rfl,w.here rh (Z9.mpr rfl)⟩
 | FloorDiv =>obtain⟨i,j,rfl,rfl,w⟩:=b8 w;rw[Z9] at hx hy;subst hx hy;exact CS pins s O H _ _ v u Q I rx ry ⟨_,_,rfl,rfl,w.1,w.2.here rh (Z9.mpr rfl)⟩
 | Mod =>obtain⟨i,j,rfl,rfl,w⟩:=b8 w;rw[Z9] at hx hy;subst hx hy;exact Ju pins s O H _ _ v u Q I rx ry ⟨_,_,rfl,rfl,w.1,w.2.here rh (Z9.mpr rfl)⟩
 | Pow =>obtain⟨i,j,rfl,rfl,w⟩:=b8 w;rw[Z9] at hx hy;subst hx hy;exact HQ pins s O H _ _ v u Q I rx ry ⟨_,_,rfl,rfl,w.1,w.2.here rh (Z9.mpr rfl)⟩
 | _=>solve_by_elim
mutual
theorem R.den {K:W.Frag}{m:List Addr}{H:Hp}:∀ {p:PV}{v:V}{d:PyData},R K m H p v->p.toD=some d->(∃xs,d=.list xs)\/Den K H d v
 | .non,v,d,h,e=>by rw[PV.toD] at e;cases e;rw[Zo] at h;exact .inr (WY.mpr h)
 | .bl b,v,d,h,e=>by rw[PV.toD] at e;cases e;rw[ZW] at h;exact .inr (V8.mpr h)
 | .int b,v,d,h,e=>by rw[PV.toD] at e;cases e;rw[Z9] at h;exact .inr (WX.mpr h)
 | .str b,v,d,h,e=>by rw[PV.toD] at e;cases e;rw[Z8] at h;exact .inr (W2.mpr h)
 | .ref n,v,d,h,e=>by rw[PV.toD] at e;cases e
 | .tup xs,v,d,h,e=>by
  rw[PV.toD] at e;cases q:PV.Y8 xs with
  | none=>simp_all
  | some ds =>rw[q] at e;cases e;rw[ZM] at h;obtain⟨a,ys,rfl,h1,h2⟩:=h;exact .inr (XQ.mpr ⟨a,ys,rfl,h1,Rs.den h2 q⟩)
 | .YM xs,v,d,h,e=>by
  rw[PV.toD] at e;cases q:PV.Y8 xs with
  | none=>simp_all
  | some ds=>rw[q] at e;cases e;solve_by_elim
theorem Rs.den {K:W.Frag}{m:List Addr}{H:Hp}:∀ {ps:List PV}{vs:List V}{ds:List PyData},Rs K m H ps vs->PV.Y8 ps=some ds->Zu K H ds vs
 | [],vs,ds,h,e=>by rw[PV.Y8] at e;cases e;assumption
 | p::ps,vs,ds,h,e=>by
  rw[a8] at h;obtain⟨y,r,rfl,h1,h2⟩:=h;rw[PV.Y8] at e;cases q:p.toD with
  | none=>simp_all
  | some d =>
   cases q2:PV.Y8 ps with
   | none=>simp_all
   | some ds' =>
    rw[q,q2] at e;cases e;refine Xa.mpr ⟨?_,Rs.den h2 q2⟩;cases p with
    | YM xs =>
     rw[PV.toD] at q;cases q3:PV.Y8 xs with
     | none=>simp_all
     | some es =>rw[q3] at q;cases q;rw[Za] at h1;obtain⟨a,ys,rfl,g1,g2⟩:=h1;exact YC.mpr ⟨a,ys,rfl,g1.sq,Rs.den g2 q3⟩
    | _ =>
     rcases R.den h1 q with⟨xs,rfl⟩|z
     ·first
       | (rw[PV.toD] at q;cases q;done)
       | (rw[PV.toD] at q;simp only[Option.map_eq_some_iff,reduceCtorEq,and_false,exists_false] at q)
     ·exact z
end
def ke {K:W.Frag}{m:List Addr}{H:Hp}{st:AH}{p:PV}{v:V}{d:PyData}(rh:RH K m H st)(h:R K m H p v)(e:mQ st p=some d):Den K H d v:=by
 cases p with
 | ref n =>
  unfold mQ at e;simp only at e;split at e
  ·rename_i xs q;cases q2:PV.Y8 xs with
   | none=>simp_all
   | some ds =>rw[q2] at e;cases e;obtain⟨a,ys,rfl,_,h1,h2⟩:=rh.lst q h;exact YC.mpr ⟨a,ys,rfl,Zr.of h1,h2.den q2⟩
  ·cases e
 | YM xs =>
  have e':(PV.YM xs).toD=some d:=e;rw[PV.toD] at e';cases q2:PV.Y8 xs with
  | none=>simp_all
  | some ds =>rw[q2] at e';cases e';rw[Za] at h;obtain⟨a,ys,rfl,g1,g2⟩:=h;exact YC.mpr ⟨a,ys,rfl,g1.sq,g2.den q2⟩
 | tup xs =>
  have e':(PV.tup xs).toD=some d:=e;rcases R.den h e' with⟨zs,rfl⟩|z
  ·rw[PV.toD] at e';simp at e'
  ·exact z
 | non=>have e':(PV.non).toD=some d:=e;rw[PV.toD] at e';cases e';assumption
 | bl b=>have e':(PV.bl b).toD=some d:=e;rw[PV.toD] at e';cases e';assumption
 | int b=>have e':(PV.int b).toD=some d:=e;rw[PV.toD] at e';cases e';assumption
 | str b=>have e':(PV.str b).toD=some d:=e;rw[PV.toD] at e';cases e';assumption
def R.Tf {K:W.Frag}{m:List Addr}{H:Hp}{p:PV}{v:V}(h:R K m H p v):decide (v=.non)=eR p:=by
 cases p with
 | non=>rw[Zo] at h;subst h;rfl
 | bl b=>rw[ZW] at h;subst h;rfl
 | int b=>rw[Z9] at h;subst h;rfl
 | str b=>rw[Z8] at h;subst h;rfl
 | ref n=>rw[oI] at h;obtain⟨a,_,rfl⟩:=h;rfl
 | tup n=>rw[ZM] at h;obtain⟨a,_,rfl,_⟩:=h;rfl
 | YM n=>rw[Za] at h;obtain⟨a,_,rfl,_⟩:=h;rfl
def R.Ni {K:W.Frag}{m:List Addr}{H:Hp}{p:PV}{v:V}{k:Bool}(h:R K m H p v):decide (v=.bl k)=Ay k p:=by
 cases p with
 | non=>rw[Zo] at h;subst h;rfl
 | bl b=>rw[ZW] at h;subst h;cases b <;> cases k <;> rfl
 | int b=>rw[Z9] at h;subst h;rfl
 | str b=>rw[Z8] at h;subst h;rfl
 | ref n=>rw[oI] at h;obtain⟨a,_,rfl⟩:=h;rfl
 | tup n=>rw[ZM] at h;obtain⟨a,_,rfl,_⟩:=h;rfl
 | YM n=>rw[Za] at h;obtain⟨a,_,rfl,_⟩:=h;rfl
def Li {i j:Int}:decide (V.int i=V.int j)=decide (i=j):=by simp
def JS {i j:Bool}:decide (V.bl i=V.bl j)=decide (i=j):=by simp
def JK {i j:Str}:decide (V.str i=V.str j)=decide (i=j):=by simp
theorem mW {K:W.Frag}{m:List Addr}{H:Hp}:∀ {ns:List Str}{ys:List V},Rs K m H (ns.map PV.str) ys->ys=ns.map V.str
 | [],ys,h=>by assumption
 | n::ns,ys,h=>by
  cases ys with
  | nil=>have:=h.len;simp at this
  | cons y ys =>rw[M3,Z7,Z8] at h;rw[h.1,mW h.2];rfl
theorem kI:∀ {ns:List Str},(ns.map V.str).all kh=true
 | []=>rfl
 | n::ns=>by rw[M3,OB,kI];rfl
theorem rL {i:Str}:∀ {ns:List Str},inV (.str i) (ns.map V.str)=ns.any λj=>j == i
 | []=>rfl
 | n::ns=>by
  have:=rL (i:=i) (ns:=ns);unfold inV at this |-
  rw[M3,O9,O9,this];rfl
section
variable {K:W.Frag}{m:List Addr}{H:Hp}
end
def Co (hu:X.A.units+64<cLine)(op:CmpOp):Y9 X (compareOp op) (DJ X.K (fS op)):=by
 intro pins s O H x' y' v u Q I rx ry h;obtain⟨m,st,x,y,rh,hx,hy,w⟩:=h;unfold fS at w;cases op with
 | Eq =>
  simp only at w;unfold Ye at w;split at w
  ·rw[Z9] at hx hy;subst hx hy;exact AN pins s O H _ _ v u Q I rx ry ⟨rfl,by rw[Li];exact w.here rh (ZW.mpr rfl)⟩
  ·rw[ZW] at hx hy;subst hx hy;exact AN pins s O H _ _ v u Q I rx ry ⟨rfl,by rw[JS];exact w.here rh (ZW.mpr rfl)⟩
  ·rw[Z8] at hx hy;subst hx hy;exact AN pins s O H _ _ v u Q I rx ry ⟨rfl,by rw[JK];exact w.here rh (ZW.mpr rfl)⟩
  ·obtain⟨d,e,h1,h2,h3,h4,w⟩:=w;exact IB hu pins s O H _ _ v u Q I rx ry ⟨d,e,ke rh hx h1,ke rh hy h2,h3,h4,w.here rh (ZW.mpr rfl)⟩
 | NotEq =>
  simp only at w;unfold Ye at w;split at w
  ·rw[Z9] at hx hy;subst hx hy;exact Ar pins s O H _ _ v u Q I rx ry ⟨rfl,by rw[Li];exact w.here rh (ZW.mpr rfl)⟩
  ·rw[ZW] at hx hy;subst hx hy;exact Ar pins s O H _ _ v u Q I rx ry ⟨rfl,by rw[JS];exact w.here rh (ZW.mpr rfl)⟩
  ·rw[Z8] at hx hy;subst hx hy;exact Ar pins s O H _ _ v u Q I rx ry ⟨rfl,by rw[JK];exact w.here rh (ZW.mpr rfl)⟩
  ·obtain⟨d,e,h1,h2,h3,h4,w⟩:=w;exact HN hu pins s O H _ _ v u Q I rx ry ⟨d,e,ke rh hx h1,ke rh hy h2,h3,h4,w.here rh (ZW.mpr rfl)⟩
 | Is =>
  simp only at w;split at w
  ·rw[Zo] at hy;subst hy;exact Jk pins s O H _ _ v u Q I rx ry ⟨rfl,by rw[hx.Tf];exact w.here rh (ZW.mpr rfl)⟩
  ·rw[ZW] at hy;subst hy;exact HY pins s O H _ _ v u Q I rx ry ⟨_,rfl,by rw[hx.Ni];exact w.here rh (ZW.mpr rfl)⟩
  simp_all
 | IsNot =>
  simp only at w;split at w
  ·rw[Zo] at hy;subst hy;exact D9 pins s O H _ _ v u Q I rx ry ⟨rfl,by rw[hx.Tf];exact w.here rh (ZW.mpr rfl)⟩
  ·rw[ZW] at hy;subst hy;exact z_ pins s O H _ _ v u Q I rx ry ⟨_,rfl,by rw[hx.Ni];exact w.here rh (ZW.mpr rfl)⟩
  simp_all
 | Lt =>
  simp only at w;split at w
  ·rw[Z8] at hx hy;subst hx hy;exact zq pins s O H _ _ v u Q I rx ry ⟨_,_,rfl,rfl,w.here rh (ZW.mpr rfl)⟩
  ·rw[Z9] at hx hy;subst hx hy;exact JJ pins s O H _ _ v u Q I rx ry ⟨_,_,rfl,rfl,w.here rh (ZW.mpr rfl)⟩
  simp_all
 | LtE=>simp_all
 | Gt =>
  simp only at w;split at w
  ·rw[Z9] at hx hy;subst hx hy;exact JV pins s O H _ _ v u Q I rx ry ⟨_,_,rfl,rfl,w.here rh (ZW.mpr rfl)⟩
  simp_all
 | GtE =>
  simp only at w;split at w
  ·rw[Z9] at hx hy;subst hx hy;exact K7 pins s O H _ _ v u Q I rx ry ⟨_,_,rfl,rfl,w.here rh (ZW.mpr rfl)⟩
  simp_all
 | In =>
  simp only at w;split at w
  ·rw[Z8] at hx hy;subst hx hy;exact zM pins s O H _ _ v u Q I rx ry ⟨_,_,rfl,rfl,w.here rh (ZW.mpr rfl)⟩
  ·rw[Z8] at hx;subst hx;rcases w with⟨ns,e,w⟩|w
   ·obtain⟨a,ys,rfl,_,g,r⟩:=rh.lst e hy;obtain rfl:=mW r;refine y9 pins s O H _ _ v u Q I rx ry ⟨a,_,rfl,.inl (Zr.of g),rfl,kI,?_⟩;rw[MM ME,rL];exact w.here rh (ZW.mpr rfl)
   simp_all
  simp_all
 | NotIn =>
  simp only at w;split at w
  ·rw[Z8] at hx hy;subst hx hy;exact sd pins s O H _ _ v u Q I rx ry ⟨_,_,rfl,rfl,w.here rh (ZW.mpr rfl)⟩
  ·rw[Z8] at hx;subst hx;rcases w with⟨ns,e,w⟩|w
   ·obtain⟨a,ys,rfl,_,g,r⟩:=rh.lst e hy;obtain rfl:=mW r;refine sL pins s O H _ _ v u Q I rx ry ⟨a,_,rfl,.inl (Zr.of g),rfl,kI,?_⟩;rw[MK rfl,rL];exact w.here rh (ZW.mpr rfl)
   simp_all
  simp_all
def Ki (hu:X.A.units+64<cLine):Uc X (DJ X.K Wc):=by
 intro value slice pins s O H x' y' v u Q I rx ry h hs;obtain⟨m,st,x,y,rh,hx,hy,w⟩:=h;cases y with
 | int i =>
  rw[Z9] at hy;subst hy;rcases xU w with⟨z,c,rfl,h1,h2,w⟩|⟨xs,z,h1,h2,w⟩
  ·rw[Z8] at hx;subst hx;exact JA value slice pins s O H _ _ v u Q I rx ry ⟨_,_,c,rfl,rfl,eT h1,h2,w.here rh (Z8.mpr rfl)⟩ hs
  obtain⟨a,ys,rfl,g,r⟩:=jX rh hx h1;obtain⟨y,e,Ot⟩:=r.YL h2;rcases g with g|g
  ·exact Ef value slice pins s O H _ _ v u Q I rx ry ⟨a,ys,_,y,rfl,rfl,g,e,w.here rh Ot⟩ hs
  ·exact Ic value slice pins s O H _ _ v u Q I rx ry ⟨a,ys,_,y,rfl,rfl,g,e,w.here rh Ot⟩ hs
 | str z=>solve_by_elim
 | _=>exact w.elim
def i7 {prog:Program}{w:World}{A:Around}{E:Value->Shared->Prop}{s:Shared}{t sl:Addr}{items:Array Value}{vl vu:Value}{lo hi:Option Int}{Q:Value->Shared->Prop}(ht:IsTup s.heap t items)(hs:s.heap.IsSliceOf sl vl vu .none)(pl:IsPart vl lo)(pu:IsPart vu hi)
  (hw:HT.ZK items.size 0 lo=0/\HT.ZK items.size items.size hi=items.size) (h:Q (.ref t) s):wpAny (model prog w) A (getItem (.ref t) (.ref sl)) Q E s:=by
 obtain⟨os,hos,hcs,hds⟩:=id hs;have hTs:s.TypeIs (.ref sl) "slice":=⟨os,hos,hcs⟩;unfold getItem
 try with_reducible refine NU ?_
 first|refine MA (MC ?_)|skip
 refine MA (wpAny_sequenceKey ht.typeIs (by decide) ?_);refine MA (wpAny_callSpecial?_slot (name:=Str.ofString "__getitem__") ht.typeIs N_
  (wpAny_call_entry N_ ht.typeIs entry_tuple_getitem ?_ (args_tuple_getitem _ _)))
 show wpAny _ _ (Builtin.Tuple.tupleItemsOf (.ref t) >>= _) _ _ s;refine MA (tupleItemsOf_ ht ?_);refine MA (wpAny_typeOf hTs ?_);rw[MK (by decide)];refine MA (HT.Zn hs pl pu ?_);have hyes:((((HT.ZK items.size 0 lo:Nat):Int) == 0 && (1:Int) == 1 && (HT.ZK items.size items.size hi-HT.ZK items.size 0 lo) == items.size)=true):=by rw[hw.1,hw.2];simp
 show wpAny _ _ (if (((HT.ZK items.size 0 lo:Nat):Int) == 0 && (1:Int) == 1 && (HT.ZK items.size items.size hi-HT.ZK items.size 0 lo) == items.size)=true then _ else _) _ _ s;rw[MK hyes];unfold Builtin.Tuple.tupleIsExact;refine MA (MA (wpAny_typeOf ht.typeIs (MC ?_)));rw[MK (by simp)];exact MA (wpAny_rule (MC ⟨_,rfl,MC h⟩))
noncomputable def JO (K:W.Frag):V->Option Int->Option Int->Hp->VK->Prop:=λx' lo hi H Q=>∃m st x,RH K m H st/\R K m H x x'/\Vw x lo hi st (post K m H Q)
def wC {ys:List V}{lo hi:Option Int}(h:HT.ZK ys.length 0 lo=0/\HT.ZK ys.length ys.length hi=ys.length):pq ys lo hi=ys:=by unfold pq;simp[*]
def xD {v:Value}{p:Option Int}(h:IsPart v p):∃q:Option (Int × Tok),v=partValue q/\q.map (·.1)=p:=by
 cases h with
 | none=>solve_by_elim
 | int i t=>exact⟨some (i,t),rfl,rfl⟩
def EH {z:Str}{t:Tok}{l u:Option (Int × Tok)}{lo hi:Option Int}{Q:Value->Shared->Prop}{s:Shared}(e:(l.map (·.1),u.map (·.1))=(lo,hi))(h1:z.length<=100000)(h:∀tk t',Q (.str (b6 z lo hi) t') { s with toks:=tk }):(sliceMade z t l u none).post Q s:=by
 cases e;unfold sliceMade;have h:∀tk t',Q (.str (if ((slicePicked z l u none).length == z.length)=true then z else ⟨((slicePicked z l u none).filterMap (z.cps[·]?)).toArray⟩) t') { s with toks:=tk }:=h;cases q:((slicePicked z l u none).length == z.length) with
 | true =>rw[q] at h;exact h s.toks t
 | false =>
  rw[q] at h;refine⟨?_,h _ _⟩;show ((slicePicked z l u none).filterMap (z.cps[·]?)).toArray.size<=sizeLine;rw[NL];refine MX (List.length_filterMap_le _ _) (MX ?_ (eT h1));refine sliceRange_length_le _ _ _ _ (λ_=>?_) λz=>absurd (show (1:Int) > 0 by decide) z
  and_intros<;>grind
def JU:Rz X (JO X.K):=by
 intro pins s O H x' v vl vu lo hi sl Q I rx hs pl pu h;obtain⟨m,st,x,rh,hx,w⟩:=h;unfold Vw at w;split at w
 ·rename_i z;rw[Z8] at hx;subst hx;obtain⟨t,rfl⟩:=rx;obtain⟨h1,w⟩:=w;obtain⟨l,el,pl'⟩:=xD pl;obtain⟨u,eu,pu'⟩:=xD pu;subst el eu;refine ⟨"str",_,PyProof.Rows.slot_str_getitem.lookup,typeIs_str _ _ _,?_⟩;refine wpAny_getItem_str_slice (l:=l) (u:=u) (st:=none) hs rfl (EH ?_ h1 λtk t'=>⟨.str (b6 z lo hi),H,I.tok tk,⟨t',rfl⟩,w.here rh (Z8.mpr rfl)⟩)
  simp_all
 ·rw[ZM] at hx;obtain⟨a,ys,rfl,g,r⟩:=hx;by_cases hw:HT.ZK ys.length 0 lo=0/\HT.ZK ys.length ys.length hi=ys.length
  ·cases rx;obtain⟨its,r',ht,hz⟩:=I.tuple g;have hlen:its.toArray.size=ys.length:=by rw[NL];exact r'.length.symm
   refine ⟨"tuple",_,PyProof.Rows.slot_tuple_getitem.lookup,ht.typeIs,i7 ht hs pl pu (by rw [hlen];exact hw) ?_⟩;refine⟨.ref a,H,I,rfl,w.here rh (ZM.mpr ⟨a,ys,rfl,g,?_⟩)⟩;have:=r.cut lo hi;rw[wC hw] at this;exact this
  ·exact Jq pins s O H _ v vl vu lo hi sl Q I rx hs pl pu ⟨a,ys,rfl,g,hw,λp hp=>w.ZG rh (r.cut lo hi) hp⟩
 ·obtain⟨xs,h1,w⟩:=w;obtain⟨a,ys,rfl,g,r⟩:=bF rh hx h1;exact E3 pins s O H _ v vl vu lo hi sl Q I rx hs pl pu ⟨a,ys,rfl,g,λp hp=>w.newL rh (r.cut lo hi) hp⟩
def Rs.one' {K:W.Frag}{m:List Addr}{H:Hp}{x:PV}{ys:List V}(h:Rs K m H [x] ys):∃y,ys=[y]/\R K m H x y:=by
 rw[a8] at h;obtain⟨y,r,rfl,h1,h2⟩:=h;rw[Z5] at h2;subst h2
 solve_by_elim
def Rs.two' {K:W.Frag}{m:List Addr}{H:Hp}{x z:PV}{ys:List V}(h:Rs K m H [x,z] ys):∃y u,ys=[y,u]/\R K m H x y/\R K m H z u:=by rw[a8] at h;obtain⟨y,r,rfl,h1,h2⟩:=h;obtain⟨u,rfl,h3⟩:=h2.one';exact⟨y,u,rfl,h1,h3⟩
theorem lj {K:W.Frag}{m:List Addr}{H:Hp}:∀ {xs:List PV}{bs:List Bool}{ys:List V}{us:List Value},jb xs=some bs->Rs K m H xs ys->Vals ys us->LSm.BoolsAre us bs
 | [],bs,ys,us,e,h,r=>by rw[Z5] at h;subst h;cases r;cases e;exact .nil
 | x::xs,bs,ys,us,e,h,r=>by
  rw[a8] at h;obtain⟨y,q,rfl,h1,h2⟩:=h;cases x with
  | bl b =>
   cases r with
   | cons r1 r2 =>
    rw[ZW] at h1;subst h1;cases r1;unfold jb at e;cases z:jb xs with
    | none=>simp_all
    | some bs' =>rw[z] at e;cases e;exact .cons b (lj z h2 r2)
  | _=>cases e
def z9 {l:Addr}{vs:List Value}{bs:List Bool}{P:Program}{w:World}{A:Around}{E:Value->Shared->Prop}{s:Shared}{Q:Value->Shared->Prop}(hh:A.handled=none)(hl:s.heap.IsList l vs.toArray)(hb:LSm.BoolsAre vs bs)
  (h:∀h' tk,(∀b x,s.heap.get? b=some x->h'.get? b=some x)->Q (.bool (bs.all id)) { s with heap:=h',toks:=tk }):wpAny (model P w) A (call (.builtin "all") [.ref l]) Q E s:=by
 have hlt:l<s.heap.objs.size:=by obtain⟨_,e,_⟩:=hl;exact MQ e
 refine call_all_walk (wpAny_pyIter_list hl ?_);refine⟨s.heap.objs.size,[s.heap.objs.size,l],[s.heap.objs.size],vs.toArray.size,_,_,λi=>(bs[i]?).getD true,rfl,Walks.list (A:=A.in1) hh _ l (MV hlt) vs.toArray,
  ⟨⟨_,MH _ rfl,rfl,rfl⟩,hl.push _⟩,λi v s' Q' E' hP hQ=>?_,λh' tk hk=>?_⟩
 ·obtain⟨b,e,rfl⟩:=hb.get i v (by simpa using hP);simp only[e,Option.getD_some] at hQ
  solve_by_elim
 ·have e:((List.range vs.toArray.size).all λi=>(bs[i]?).getD true)=bs.all id:=by rw[NL,hb.length];exact LSm.range_all bs
  rw[e];exact h h' tk (LSm.kept_iter hk)
def zZ {l:Addr}{vs:List Value}{bs:List Bool}{P:Program}{w:World}{A:Around}{E:Value->Shared->Prop}{s:Shared}{Q:Value->Shared->Prop}(hh:A.handled=none)(hl:s.heap.IsList l vs.toArray)(hb:LSm.BoolsAre vs bs)
  (h:∀h' tk,(∀b x,s.heap.get? b=some x->h'.get? b=some x)->Q (.bool (bs.any id)) { s with heap:=h',toks:=tk }):wpAny (model P w) A (call (.builtin "any") [.ref l]) Q E s:=by
 have hlt:l<s.heap.objs.size:=by obtain⟨_,e,_⟩:=hl;exact MQ e
 refine call_any_walk (wpAny_pyIter_list hl ?_);refine⟨s.heap.objs.size,[s.heap.objs.size,l],[s.heap.objs.size],vs.toArray.size,_,_,λi=>(bs[i]?).getD false,rfl,Walks.list (A:=A.in1) hh _ l (MV hlt) vs.toArray,
  ⟨⟨_,MH _ rfl,rfl,rfl⟩,hl.push _⟩,λi v s' Q' E' hP hQ=>?_,λh' tk hk=>?_⟩
 ·obtain⟨b,e,rfl⟩:=hb.get i v (by simpa using hP);simp only[e,Option.getD_some] at hQ
  solve_by_elim
 ·have e:((List.range vs.toArray.size).any λi=>(bs[i]?).getD false)=bs.any id:=by rw[NL,hb.length];exact LSm.range_any bs
  rw[e];exact h h' tk (LSm.kept_iter hk)
noncomputable def KL:B->Value
 | .len=>.builtin "len"
 | .max2=>.builtin "max"
 | .min2=>.builtin "min"
 | .divmod=>.builtin "divmod"
 | .Yv=>.type "int"
 | .str1=>.type "str"
 | .tuple1=>.type "tuple"
 | .list1=>.type "list"
 | .all1=>.builtin "all"
 | .W9=>.builtin "any"
theorem qF:∀ {us:List Value}{ns:List Str},StrsAre us ns->Vals (ns.map V.str) us
 | _,_,.nil=>.nil
 | _,_,.cons n t r=>.cons ⟨t,rfl⟩ (qF r)
theorem wY {K:W.Frag}{m:List Addr}{H:Hp}:∀ {ns:List Str},Rs K m H (ns.map PV.str) (ns.map V.str)
 | []=>by solve_by_elim
 | n::ns=>by rw[M3,M3,Z7,Z8];exact⟨rfl,wY⟩
section
variable {prog:Program}{w:World}{A:Around}{E:Value->Shared->Prop}{s:Shared}{l:Addr}{xs:Array (Int × Tok)}
end
def sM:cH X (.type "int") (λxs H Q=>∃z n,xs=[.str z]/\z.length<=640/\PySem.intText? z=some n/\Q (.int n) H):=by intro pins s O H xs us Q I r h;obtain⟨z,n,rfl,h1,h2,q⟩:=h;obtain⟨u,rfl,t,rfl⟩:=cC r;exact W.KIN.call_text h2 h1 ⟨.int n,H,I.tok _,⟨_,rfl⟩,q⟩
def Jn (hc:X.calm=true)(hgd:X.A.guards=some [])(hun:X.A.units+64<cLine)(b:B):cH X (KL b) (Ko X.K (fF b)):=by
 intro pins s O H xs' us Q I r h;obtain⟨m,st,xs,rh,hx,w⟩:=h;cases b with
 | len =>
  obtain⟨x0,rfl,w⟩:=bo w;obtain⟨y,rfl,hy⟩:=hx.one';rcases u6 w with⟨z,rfl,h1,w⟩|⟨ys,h1,w⟩
  ·rw[Z8] at hy;subst hy;exact sQ pins s O H _ us Q I r ⟨_,rfl,eT h1,w.here rh (Z9.mpr rfl)⟩
  obtain⟨a,zs,rfl,g,rz⟩:=jX rh hy h1;refine sN pins s O H _ us Q I r ⟨a,zs,rfl,g,?_⟩;have:=w.here rh (x:=V.int ys.length) (Z9.mpr rfl);rw[rz.len] at this;exact this
 | max2 =>obtain⟨x0,y0,rfl,w⟩:=gi w;obtain⟨i,j,rfl,rfl,w⟩:=b8 w;obtain⟨y,u,rfl,hy,hu⟩:=hx.two';rw[Z9] at hy hu;subst hy hu;exact zC hc pins s O H _ us Q I r ⟨_,_,rfl,w.here rh (Z9.mpr rfl)⟩
 | min2 =>obtain⟨x0,y0,rfl,w⟩:=gi w;obtain⟨i,j,rfl,rfl,w⟩:=b8 w;obtain⟨y,u,rfl,hy,hu⟩:=hx.two';rw[Z9] at hy hu;subst hy hu;exact zU hc pins s O H _ us Q I r ⟨_,_,rfl,w.here rh (Z9.mpr rfl)⟩
 | divmod =>
  obtain⟨x0,y0,rfl,w⟩:=gi w;obtain⟨i,j,rfl,rfl,w⟩:=b8 w;obtain⟨y,u,rfl,hy,hu⟩:=hx.two';rw[Z9] at hy hu;subst hy hu;refine tf pins s O H _ us Q I r ⟨_,_,rfl,w.1,λp hp=>w.2.ZG rh ?_ hp⟩;rw[Z7,Z7,Z5,Z9,Z9]
  solve_by_elim
 | Yv =>
  obtain⟨x0,rfl,w⟩:=bo w;obtain⟨y,rfl,hy⟩:=hx.one';rcases qZ w with⟨b0,rfl,w⟩|⟨z,n,rfl,h1,h2,w⟩
  case inr =>rw[Z8] at hy;subst hy;exact sM pins s O H _ us Q I r ⟨_,_,rfl,h1,h2,w.here rh (Z9.mpr rfl)⟩
  rw[ZW] at hy;subst hy;exact zE pins s O H _ us Q I r (.inr ⟨_,rfl,w.here rh (Z9.mpr rfl)⟩)
 | str1 =>obtain⟨x0,rfl,w⟩:=bo w;obtain⟨i,rfl,w⟩:=xh w;obtain⟨y,rfl,hy⟩:=hx.one';rw[Z9] at hy;subst hy;exact se pins s O H _ us Q I r ⟨_,rfl,w.1,w.2.here rh (Z8.mpr rfl)⟩
 | tuple1 =>
  obtain⟨x0,rfl,w⟩:=bo w;obtain⟨ys,h1,w⟩:=w;obtain⟨y,rfl,hy⟩:=hx.one';obtain⟨a,zs,rfl,g,rz⟩:=jX rh hy h1;refine pI pins s O H _ us Q I r ⟨a,zs,rfl,?_⟩;rcases g with g|g
  ·exact .inl ⟨g,λp hp=>w.ZG rh rz hp⟩
  ·exact .inr ⟨g,w.here rh (ZM.mpr ⟨a,zs,rfl,g,rz⟩)⟩
 | list1 =>obtain⟨x0,rfl,w⟩:=bo w;obtain⟨ys,h1,w⟩:=w;obtain⟨y,rfl,hy⟩:=hx.one';obtain⟨a,zs,rfl,g,rz⟩:=jX rh hy h1;exact rq pins s O H _ us Q I r ⟨a,zs,rfl,g,λp hp=>w.newL rh rz hp⟩
 | all1 =>obtain⟨x0,rfl,w⟩:=bo w;obtain⟨ys,bs,h1,h2,w⟩:=w;obtain⟨y,rfl,hy⟩:=hx.one';obtain⟨a,zs,rfl,g,rz⟩:=bF rh hy h1;obtain⟨u,rfl,ru⟩:=cC r;cases ru;obtain⟨its,ri,pl,_⟩:=I.list g;exact z9 (I.ok.hd hc) pl.isList (lj h2 rz ri) λh' tk k=>⟨.bl _,H,I.kept k,rfl,w.here rh (ZW.mpr rfl)⟩
 | W9 =>obtain⟨x0,rfl,w⟩:=bo w;obtain⟨ys,bs,h1,h2,w⟩:=w;obtain⟨y,rfl,hy⟩:=hx.one';obtain⟨a,zs,rfl,g,rz⟩:=bF rh hy h1;obtain⟨u,rfl,ru⟩:=cC r;cases ru;obtain⟨its,ri,pl,_⟩:=I.list g;exact zZ (I.ok.hd hc) pl.isList (lj h2 rz ri) λh' tk k=>⟨.bl _,H,I.kept k,rfl,w.here rh (ZW.mpr rfl)⟩
def zw {st:AH}{x:PV}{n:String}(h:di st x=some n):n∈["NoneType","bool","int","str","list","tuple","dict"]:=by
 cases x with
 | ref k =>unfold di at h;simp only at h;grind
 | _=>cases h <;> decide
def EZ {pins:List (Addr × Obj)}{s:Shared}{O:L2.St}{H:Hp}{A:Around}{E:Value->Shared->Prop}{K:W.Frag}{m:List Addr}{st:AH}{x:PV}{x':V}{u:Value}{n c:String}{Q:Value->Shared->Prop}(I:Inv X pins O H s)(rh:RH X.K m H st)(hx:R X.K m H x x')
  (ru:RelV x' u) (hk:di st x=some n) (hc:c∈["int","bool","str","tuple","list","dict"]) (h:∀tk,Q (.bool (a9 c n)) { s with toks:=tk }) :
  wpAny (model X.prog X.w) A (call (.builtin "isinstance") [u,.type c]) Q E s:=by
 have e:=B7 X.K c hc n (zw hk);cases x with
 | non=>cases hk;rw[Zo] at hx;subst hx;exact f' I ru .non e h
 | bl b=>cases hk;rw[ZW] at hx;subst hx;exact f' I ru (.bl b) e h
 | int b=>cases hk;rw[Z9] at hx;subst hx;exact f' I ru (.int b) e h
 | str b=>cases hk;rw[Z8] at hx;subst hx;exact f' I ru (.str b) e h
 | tup xs =>cases hk;rw[ZM] at hx;obtain⟨a,ys,rfl,g,r⟩:=hx;cases ru;obtain⟨its,_,⟨o,ho,hcl,_⟩,_⟩:=I.tuple g;exact QG W.kitx_tuple I.X8 ⟨o,ho,hcl⟩ e (λz=>nomatch z) h
 | YM xs =>cases hk;rw[Za] at hx;obtain⟨a,ys,rfl,g,r⟩:=hx;cases ru;obtain⟨its,_,pl,_⟩:=I.list g.sq;obtain⟨o,ho,hcl,_⟩:=pl.isList;exact QG W.kitx_list I.X8 ⟨o,ho,hcl⟩ e (λz=>nomatch z) h
 | ref k =>
  unfold di at hk;simp only at hk;split at hk
  ·cases hk;rename_i q;obtain⟨a,ys,rfl,_,h1,h2⟩:=rh.lst q hx;exact f' I ru (.lst h1) e h
  ·cases hk
noncomputable def xo:M->String
 | .append=>"list.append"
noncomputable def K_ (K:W.Frag)(w:PV->List PV->AH->EK->Prop):V->List V->Hp->VK->Prop:=λx' xs' H Q=>∃m st x xs,RH K m H st/\R K m H x x'/\Rs K m H xs xs'/\w x xs st (post K m H Q)
def Jy (c:M):Wk X (xo c) (K_ X.K (wW c)):=by
 intro pins s O H x' vs' v us Q I rx rv h;obtain⟨m,st,x,vs,rh,hx,hv,w⟩:=h;cases c with
 | append =>obtain⟨n0,rfl,w⟩:=xq w;obtain⟨x0,rfl,w⟩:=bo w;obtain⟨xs,h1,h2,w⟩:=w;obtain⟨a,ys,rfl,e,g,r⟩:=rh.lst h1 hx;obtain⟨y,rfl,hy⟩:=hv.one';exact q9 pins s O H _ _ v us Q I rx rv ⟨a,ys,y,rfl,rfl,g,by rw[<-r.len];exact rR h2,w.Yx rh e (r.app (.one hy)) (Zo.mpr rfl)⟩
noncomputable def LY (K:W.Frag):V->V->V->Hp->(Hp->Prop)->Prop:=λo' i' v' H Q=>∃m st o i v,RH K m H st/\R K m H o o'/\R K m H i i'/\R K m H v v'/\uM o i v st λst'=>∀H',Ext K m H m H'->RH K m H' st'->Q H'
def Ir (hu:X.A.units+64<cLine):Hv X (LY X.K):=by
 intro pins s O H o' i' v' ov iv u Q I ro ri rv h;obtain⟨m,st,o,i,v,rh,ho,hi,hv,w⟩:=h;unfold uM at w;split at w
 ·obtain⟨xs,h1,q,h2,w⟩:=w;obtain⟨a,ys,rfl,e,g,r⟩:=rh.lst h1 ho;rw[Z9] at hi;subst hi;exact Ah pins s O H _ _ _ ov iv u Q I ro ri rv ⟨a,ys,_,q,rfl,rfl,g,by rw[<-r.len];exact h2,w _ (Ext.set rh e) (rh.Yx e (r.set hv q))⟩
 simp_all
noncomputable def L7 (K:W.Frag):V->Hp->(Bool->Hp->Prop)->Prop:=λx' H Q=>∃m st x,RH K m H st/\R K m H x x'/\t_ x st (Xx K m H Q)
def KF:∀ {x':V}{H:Hp}{Q:Bool->Hp->Prop},L7 X.K x' H Q->∃k,HE X.K x' H k/\Q k H:=by
 intro x' H Q h;obtain⟨m,st,x,rh,hx,w⟩:=h;unfold t_ at w;split at w
 ·rw[ZW] at hx;subst hx;exact⟨_,rfl,w m H (Ext.refl _ _ _) rh⟩
 ·exact w.elim
def Hr (op:Operator):Pk X op (DJ X.K (vz op)):=by
 intro pins s O H x' y' v u Q I rx ry h;obtain⟨m,st,x,y,rh,hx,hy,w⟩:=h;unfold vz at w;split at w
 ·obtain⟨xs,zs,h1,h2,h3,w⟩:=w;obtain⟨a,ys,rfl,e,g,r⟩:=rh.lst h1 hx;obtain⟨b,ys2,rfl,e2,g2,r2⟩:=rh.lst h2 hy;exact Jb pins s O H _ _ v u Q I rx ry ⟨a,b,ys,ys2,rfl,rfl,g,g2,by rw[<-r.len,<-r2.len];exact eT h3,w.Yx rh e (r.app r2) hx⟩
 simp_all
end
noncomputable def PV.same:PV->PV->Bool
 | .int a,.int b=>a == b
 | .str a,.str b=>a == b
 | _,_=>false
def PV.Vv {x y:PV}(h:x.same y=true):x=y:=by unfold PV.same at h;split at h <;> simp_all
noncomputable def gdV (kvs:List (Str × Int)):PV:=.YM (kvs.map λp=>.tup [.str p.1,.int p.2])
noncomputable def mj:PV->Option (List (Str × Int))
 | .YM xs=>some (xs.filterMap λp=>match p with | .tup [.str k,.int i]=>some (k,i)|_=>none)
 | _=>none
def ED {x y:PV}(h:x.same y=true):mj x=none:=by cases x with|YM=>exact bd (show false=true from h)|_=>rfl
structure Cfg where
 N:List Str
 names:List (Str × NameKind)
 fns:List Str
 lim:Nat
 YB:List Str
 gl:List (Str × PV)
noncomputable def Cfg.XH (c:Cfg)(x:Str):Bool:=(c.names.lookup x == some .local || c.names.lookup x == some .cell || c.names.lookup x == some .free) && !(x == ("__debug__":Str)) && !(x == ("__classdict__":Str))
noncomputable def Cfg.loc (c:Cfg)(x:Str):Bool:=c.names.lookup x == some .local || c.names.lookup x == some .cell
noncomputable def Cfg.X7 (c:Cfg)(x:Str):Bool:=c.names.lookup x == some .globalImplicit && !(x == ("__debug__":Str)) && !(x == ("__name__":Str))
noncomputable def Cfg.blt (c:Cfg)(x:Str):Bool:=c.X7 x && c.YB.contains x
noncomputable def Cfg.fn (c:Cfg)(f:Nat)(x:Str):Bool:=c.fns[f]? == some x && decide (f<c.lim) && c.X7 x
noncomputable def rn:B->Str
 | .len=>"len"
 | .max2=>"max"
 | .min2=>"min"
 | .divmod=>"divmod"
 | .Yv=>"int"
 | .str1=>"str"
 | .tuple1=>"tuple"
 | .list1=>"list"
 | .all1=>"all"
 | .W9=>"any"
noncomputable def rD:M->Str
 | .append=>"append"
noncomputable def kinds:List String:=["int","bool","str","tuple","list","dict"]
noncomputable def sT:Expr->Bool
 | .ListComp ..=>false
 | .SetComp ..=>false
 | .DictComp ..=>false
 | _=>true
noncomputable def wo:Expr->Bool
 | .Name ..=>true
 | .Call ..=>true
 | .Subscript ..=>true
 | _=>false
mutual
noncomputable def Tg.low (n:Nat):Tg->Bool
 | .name i=>decide (i<n)
 | .tup ts=>Yd.low n ts
 | .sub _ _=>false
noncomputable def Yd.low (n:Nat):Yd->Bool
 | .nil=>true
 | .cons t ts=>Tg.low n t && Yd.low n ts
end
noncomputable def iu:Expr->Bool
 | .Set ..=>false
 | _=>true
noncomputable def Cfg.inner (c:Cfg)(nt:List Str)(caps:List Nat)(sc:Scope):Cfg:={ c with N:=nt++caps.filterMap (c.N[·]?),names:=sc.names }
noncomputable def ES (k:Option NameKind):Bool:=k == some .cell || k == some .free
noncomputable def Cfg.block (c:Cfg)(nt:List Str)(caps:List Nat)(sc:Scope):Bool :=
 sc.kind == .function && sc.names.all (λy=>!(y.2 == .cell)) && sc.names.all (λy=>!(y.2 == .local) || sc.names.lookup y.1 == some .local) && sc.names.all (λy=>!(y.2 == .free) || ES (c.names.lookup y.1))
  && caps.all (λi=>decide (i<c.N.length)) && (caps.filterMap (c.N[·]?)).all (λx=>sc.names.lookup x == some .free && ES (c.names.lookup x)) && decide (nt++caps.filterMap (c.N[·]?)).Nodup
noncomputable def xg:It->Expr->Bool
 | .zip _ _,.Tuple ..=>true
 | .zip _ _,_=>false
 | .seq _,_ | .Zy _,_ | .chars _,_ | .YS _ _ _,_=>true
noncomputable def fP:Expr->Bool
 | .Name ..=>true
 | .List ..=>true
 | .Subscript ..=>true
 | .ListComp ..=>true
 | _=>false
noncomputable def vW:Expr->Bool
 | .Constant (.str _) ..=>true
 | _=>false
noncomputable def A5:SM->Str
 | .join=>"join"
 | .split=>"split"
 | .WL=>"strip"
noncomputable def aK (x:Expr)(f:Str->Pos->Bool):Bool:=match x with | .Name y p=>f y p|_=>false
def ak {x:Expr}{f:Str->Pos->Bool}(h:aK x f=true):∃y p,x=.Name y p/\f y p=true:=by cases x with|Name y p=>exact⟨y,p,rfl,h⟩|_=>exact bd h
noncomputable def jc (x:Expr)(f:Int->Bool):Bool:=match x with | .Constant (.int j) _ _=>f j|_=>false
def fh {x:Expr}{f:Int->Bool}(h:jc x f=true):∃j k p,x=.Constant (.int j) k p/\f j=true:=by
 cases x with
 | Constant v k p=>cases v with|int j=>exact⟨j,k,p,rfl,h⟩|_=>exact bd h
 | _=>exact bd h
noncomputable def KZ (x:Expr)(f:Bool->Bool):Bool:=match x with | .Constant (.bool j) _ _=>f j|_=>false
def Bs {x:Expr}{f:Bool->Bool}(h:KZ x f=true):∃j k p,x=.Constant (.bool j) k p/\f j=true:=by
 cases x with
 | Constant v k p=>cases v with|bool j=>exact⟨j,k,p,rfl,h⟩|_=>exact bd h
 | _=>exact bd h
noncomputable def iB (x:Expr)(f:Str->Bool):Bool:=match x with | .Constant (.str j) _ _=>f j|_=>false
def dk {x:Expr}{f:Str->Bool}(h:iB x f=true):∃j k p,x=.Constant (.str j) k p/\f j=true:=by
 cases x with
 | Constant v k p=>cases v with|str j=>exact⟨j,k,p,rfl,h⟩|_=>exact bd h
 | _=>exact bd h
noncomputable def xi (x:Expr):Bool:=match x with | .Constant .none _ _=>true|_=>false
def k8 {x:Expr}(h:xi x=true):∃k p,x=.Constant .none k p:=by
 cases x with
 | Constant v k p=>cases v with|none=>solve_by_elim|_=>exact bd h
 | _=>exact bd h
noncomputable def iN (x:Expr)(f:List Expr->Bool):Bool:=match x with | .Tuple xs _ _=>f xs|_=>false
def dj {x:Expr}{f:List Expr->Bool}(h:iN x f=true):∃xs k p,x=.Tuple xs k p/\f xs=true:=by cases x with|Tuple xs k p=>exact⟨xs,k,p,rfl,h⟩|_=>exact bd h
noncomputable def kW (x:Expr)(f:List Expr->Bool):Bool:=match x with | .List xs _=>f xs|_=>false
def fE {x:Expr}{f:List Expr->Bool}(h:kW x f=true):∃xs p,x=.List xs p/\f xs=true:=by cases x with|List xs p=>exact⟨xs,p,rfl,h⟩|_=>exact bd h
noncomputable def X_ {α:Type}(xs:List α)(f:α->Bool):Bool:=match xs with | [a]=>f a|_=>false
def br {α:Type}{xs:List α}{f:α->Bool}(h:X_ xs f=true):∃a,xs=[a]/\f a=true:=by
 cases xs with
 | nil=>exact bd h
 | cons a t=>cases t with|nil=>solve_by_elim|cons _ _=>exact bd h
noncomputable def Uw {α:Type}(xs:List α)(f:α->α->Bool):Bool:=match xs with | [a,b]=>f a b|_=>false
def iV {α:Type}{xs:List α}{f:α->α->Bool}(h:Uw xs f=true):∃a b,xs=[a,b]/\f a b=true:=by
 cases xs with
 | nil=>exact bd h
 | cons a t=>cases t with
  | nil=>exact bd h
  | cons b t=>cases t with|nil=>exact⟨a,b,rfl,h⟩|cons _ _=>exact bd h
noncomputable def Ri {α:Type}(xs:List α)(f:α->α->α->Bool):Bool:=match xs with | [a,b,c]=>f a b c|_=>false
def yh {α:Type}{xs:List α}{f:α->α->α->Bool}(h:Ri xs f=true):∃a b c,xs=[a,b,c]/\f a b c=true:=by
 cases xs with
 | nil=>exact bd h
 | cons a t=>cases t with
  | nil=>exact bd h
  | cons b t=>cases t with
   | nil=>exact bd h
   | cons c t=>cases t with|nil=>exact⟨a,b,c,rfl,h⟩|cons _ _=>exact bd h
noncomputable def c_ {α:Type}(xs:List α)(f:α->List α->Bool):Bool:=match xs with|a::t=>f a t | []=>false
def aG {α:Type}{xs:List α}{f:α->List α->Bool}(h:c_ xs f=true):∃a t,xs=a::t/\f a t=true:=by
 cases xs with
 | nil=>exact bd h
 | cons a t=>exact⟨a,t,rfl,h⟩
noncomputable def eU {α:Type}(x:Option α)(f:α->Bool):Bool:=match x with|some a=>f a|none=>false
def bM {α:Type}{x:Option α}{f:α->Bool}(h:eU x f=true):∃a,x=some a/\f a=true:=by
 cases x with
 | none=>exact bd h
 | some a=>solve_by_elim
noncomputable def C8 (x:Expr)(f:List (Option Expr)->List Expr->Bool):Bool:=match x with | .Dict ks vs _=>f ks vs|_=>false
def wk {x:Expr}{f:List (Option Expr)->List Expr->Bool}(h:C8 x f=true):∃ks vs p,x=.Dict ks vs p/\f ks vs=true:=by cases x with|Dict ks vs p=>exact⟨ks,vs,p,rfl,h⟩|_=>exact bd h
noncomputable def uD (x:Expr)(f:Expr->Operator->Expr->Bool):Bool:=match x with | .BinOp l o r _=>f l o r|_=>false
def iW {x:Expr}{f:Expr->Operator->Expr->Bool}(h:uD x f=true):∃l o r p,x=.BinOp l o r p/\f l o r=true:=by cases x with|BinOp l o r p=>exact⟨l,o,r,p,rfl,h⟩|_=>exact bd h
noncomputable def ym (x:Expr)(f:Expr->Bool):Bool:=match x with | .UnaryOp .USub y _=>f y|_=>false
def k9 {x:Expr}{f:Expr->Bool}(h:ym x f=true):∃y p,x=.UnaryOp .USub y p/\f y=true:=by
 cases x with
 | UnaryOp o y p=>cases o with|USub=>exact⟨y,p,rfl,h⟩|_=>exact bd h
 | _=>exact bd h
noncomputable def BH (x:Expr)(f:Expr->Bool):Bool:=match x with | .UnaryOp .Not y _=>f y|_=>false
def qD {x:Expr}{f:Expr->Bool}(h:BH x f=true):∃y p,x=.UnaryOp .Not y p/\f y=true:=by
 cases x with
 | UnaryOp o y p=>cases o with|Not=>exact⟨y,p,rfl,h⟩|_=>exact bd h
 | _=>exact bd h
noncomputable def j9 (x:Expr)(f:Expr->CmpOp->Expr->Bool):Bool:=match x with | .Compare l os rs _=>X_ os λo=>X_ rs λr=>f l o r|_=>false
def dw {x:Expr}{f:Expr->CmpOp->Expr->Bool}(h:j9 x f=true):∃l o r p,x=.Compare l [o] [r] p/\f l o r=true:=by
 cases x with
 | Compare l os rs p =>obtain⟨o,rfl,h⟩:=br h;obtain⟨r,rfl,h⟩:=br h;exact⟨l,o,r,p,rfl,h⟩
 | _=>exact bd h
noncomputable def Df (x:Expr)(f:PySem.BoolOp->List Expr->Bool):Bool:=match x with | .BoolOp o xs _=>f o xs|_=>false
def rj {x:Expr}{f:PySem.BoolOp->List Expr->Bool}(h:Df x f=true):∃o xs p,x=.BoolOp o xs p/\f o xs=true:=by cases x with|BoolOp o xs p=>exact⟨o,xs,p,rfl,h⟩|_=>exact bd h
noncomputable def FC (x:Expr)(f:Expr->Expr->Expr->Bool):Bool:=match x with | .IfExp y l r _=>f y l r|_=>false
def yZ {x:Expr}{f:Expr->Expr->Expr->Bool}(h:FC x f=true):∃y l r p,x=.IfExp y l r p/\f y l r=true:=by cases x with|IfExp y l r p=>exact⟨y,l,r,p,rfl,h⟩|_=>exact bd h
noncomputable def oQ (x:Expr)(f:Expr->Expr->Bool):Bool:=match x with | .Subscript l r _=>f l r|_=>false
def dU {x:Expr}{f:Expr->Expr->Bool}(h:oQ x f=true):∃l r p,x=.Subscript l r p/\f l r=true:=by cases x with|Subscript l r p=>exact⟨l,r,p,rfl,h⟩|_=>exact bd h
noncomputable def yn (x:Expr)(f:Option Expr->Option Expr->Bool):Bool:=match x with | .Slice u v none _=>f u v|_=>false
def uO {x:Expr}{f:Option Expr->Option Expr->Bool}(h:yn x f=true):∃u v p,x=.Slice u v none p/\f u v=true:=by
 cases x with
 | Slice u v w p=>cases w with|none=>exact⟨u,v,p,rfl,h⟩|some _=>exact bd h
 | _=>exact bd h
noncomputable def vN (x:Expr)(f:Expr->Bool):Bool:=match x with | .Slice none none (some z) _=>f z|_=>false
def nN {x:Expr}{f:Expr->Bool}(h:vN x f=true):∃z p,x=.Slice none none (some z) p/\f z=true:=by
 cases x with
 | Slice u v w p=>cases u with
  | none=>cases v with
   | none=>cases w with|none=>exact bd h|some z=>exact⟨z,p,rfl,h⟩
   | some _=>exact bd h
  | some _=>exact bd h
 | _=>exact bd h
noncomputable def b7 (x:Expr)(f:Expr->List Expr->Pos->Bool):Bool:=match x with | .Call g xs [] p=>f g xs p|_=>false
def aH {x:Expr}{f:Expr->List Expr->Pos->Bool}(h:b7 x f=true):∃g xs p,x=.Call g xs [] p/\f g xs p=true:=by
 cases x with
 | Call g xs ks p=>cases ks with|nil=>exact⟨g,xs,p,rfl,h⟩|cons _ _=>exact bd h
 | _=>exact bd h
noncomputable def iy (x:Expr)(f:Expr->Str->Pos->Bool):Bool:=match x with | .Attribute y n p=>f y n p|_=>false
def c9 {x:Expr}{f:Expr->Str->Pos->Bool}(h:iy x f=true):∃y n p,x=.Attribute y n p/\f y n p=true:=by cases x with|Attribute y n p=>exact⟨y,n,p,rfl,h⟩|_=>exact bd h
noncomputable def BN (x:Expr)(f:Expr->List Comprehension->Scope->Pos->Bool):Bool:=match x with | .ListComp e gs sc p=>f e gs sc p|_=>false
def ir {x:Expr}{f:Expr->List Comprehension->Scope->Pos->Bool}(h:BN x f=true):∃e gs sc p,x=.ListComp e gs sc p/\f e gs sc p=true:=by cases x with|ListComp e gs sc p=>exact⟨e,gs,sc,p,rfl,h⟩|_=>exact bd h
noncomputable def u_:List (Option Expr)->List Expr->List (Str × Int)->Bool
 | [],[],[]=>true
 | k::ks,v::vs,p::r=>eU k (λk=>iB k λz=>z == p.1) && jc v (λi=>i == p.2) && u_ ks vs r
 | _,_,_=>false
noncomputable def LB (d:Option Int)(xs:List Expr):Bool:=match d with|none=>xs.isEmpty|some i=>X_ xs λw=>jc w λj=>j == i
mutual
noncomputable def aV (c:Cfg):E->Expr->Bool
 | .var i,x=>aK x λy _=>c.N[i]? == some y && c.XH y
 | .int i,x=>jc x λj=>i == j
 | .bl i,x=>KZ x λj=>i == j
 | .non,x=>xi x
 | .str i,x=>iB x λj=>i == j
 | .gv y v,x=>aK x λz _=>z == y && c.X7 y && eU (c.gl.lookup y) λw=>w.same v
 | .tup es,x=>iN x λxs=>dO c es xs
 | .lst es,x=>kW x λxs=>dO c es xs
 | .bin op a b,x=>uD x λl o r=>o == op && aV c a l && aV c b r
 | .neg a,x=>ym x λy=>aV c a y
 | .not a,x=>BH x λy=>aV c a y
 | .cmp op a b,x=>j9 x λl o r=>o == op && !behindInMarks o r && aV c a l && aV c b r
 | .Zt k es,x=>Df x λo xs=>(o == if k then .And else .Or) && dO c es xs && !xs.isEmpty
 | .ite t a b,x=>FC x λy l r=>wH c t y && aV c a l && aV c b r
 | .ix a b,x=>oQ x λl r=>iM r && aV c a l && aV c b r
 | .sl a lo hi,x=>oQ x λl r=>yn r λu v=>aV c a l && Ji c lo u && Ji c hi v
 | .call f es,x=>b7 x λg xs _=>aK g λy _=>c.fn f y && xs.all ao && dO c es xs
 | .blt b es,x=>b7 x λg xs _=>aK g λy _=>y == rn b && c.blt y && xs.all ao && !xs.isEmpty && dO c es xs
 | .inst a t,x=>b7 x λg xs _=>aK g λy _=>Uw xs λl r=>aK r λz _=>y == ("isinstance":Str) && c.blt y && ao l && z == (t:Str) && c.blt z && kinds.contains t && aV c a l
 | .met m o es,x=>b7 x λg xs cp=>iy g λy n ap=>n == rD m && ap.endLine == cp.line && xs.all ao && decide (xs.length=1) && fP y && aV c o y && dO c es xs
 | .comp elt tg it ifs nt caps,x=>BN x λex gs sc _=>X_ gs λg=>g.is_async == 0 && xg it g.target && iu g.iter && tg.low nt.length && c.block nt caps sc && yt c it g.iter && ot (c.inner nt caps sc) tg g.target && tK (c.inner nt caps sc) ifs g.ifs && aV (c.inner nt caps sc) elt ex
 | .tmp a,x=>aV c a x
 | .bad,_=>true
 | .un .VM a,x=>b7 x λg xs _=>aK g λy _=>X_ xs λl=>b7 l λg2 ys _=>aK g2 λz _=>X_ ys λu=>y == ("sorted":Str) && c.blt y && z == ("set":Str) && c.blt z && ao l && ao u && aV c a u
 | .un .Vs a,x=>j9 x λl o r=>kW r λxs=>o == .Eq && xs.isEmpty && aV c a l
 | .un .X3 a,x=>oQ x λl r=>vN r λz=>ym z λz1=>jc z1 λi=>i == 1 && aV c a l
 | .un .X4 a,x=>b7 x λg xs _=>aK g λy _=>X_ xs λl=>y == ("sorted":Str) && c.blt y && ao l && aV c a l
 | .un .VP a,x=>b7 x λg xs cp=>iy g λy n ap=>n == ("upper":Str) && ap.endLine == cp.line && xs.isEmpty && fP y && aV c a y
 | .un .Yh a,x=>j9 x λl o r=>xi l && o == .In && !behindInMarks o r && aV c a r
 | .un (.V9 ne n kvs) a,x=>j9 x λl o r=>aK r λy _=>(o == if ne then .NotIn else .In) && !behindInMarks o r && y == n && c.X7 y && eU (c.gl.lookup y) (λv=>mj v == some kvs) && aV c a l
 | .un (.VG n kvs) a,x=>oQ x λl r=>aK l λy _=>iM r && y == n && c.X7 y && eU (c.gl.lookup y) (λv=>mj v == some kvs) && aV c a r
 | .un (.Yn kvs d) a,x=>b7 x λg xs cp=>iy g λy n ap=>C8 y λks vs=>c_ xs λu r=>u_ ks vs kvs && decide (kvs.map (·.1)).Nodup && decide (kvs.length<=15) && !kvs.isEmpty && LB d r && n == ("get":Str) && ap.endLine == cp.line && ao u && aV c a u
 | .Xg a,x=>b7 x λg xs cp=>iy g λy n ap=>iB y λj=>X_ xs λl=>oQ l λu r=>vN r λz=>ym z λz1=>jc z1 λi=>n == ("join":Str) && ap.endLine == cp.line && j == ("":Str) && i == 1 && aV c a u
 | .XF k a b,x=>b7 x λg xs cp=>iy g λy n ap=>X_ xs λl=>n == A5 k && ap.endLine == cp.line && (fP y || vW y) && ao l && aV c a y && aV c b l
 | .part a s,x=>b7 x λg xs cp=>iy g λy n ap=>X_ xs λl=>iB l λj=>n == ("partition":Str) && ap.endLine == cp.line && j == s && !(s.length == 0) && fP y && aV c a y
termination_by structural e=>e
noncomputable def dO (c:Cfg):Es->List Expr->Bool
 | .nil,xs=>xs.isEmpty
 | .cons e es,xs=>c_ xs λy ys=>ao y && aV c e y && dO c es ys
 | .VL i z j es,xs=>c_ xs λy r=>c_ r λu ys=>ao y && ao u && uD y (λl o q=>aK l λx _=>c.N[i]? == some x && c.XH x && o == .Add && iB q λz'=>z' == z)
  && b7 u (λg as cp=>iy g λl n ap=>aK l λx _=>c.N[j]? == some x && c.XH x && n == ("replace":Str) && ap.endLine == cp.line && Ri as λp q k=>iB p (λa=>a == (" ":Str)) && iB q (λa=>a == ("  ":Str)) && jc k (λi=>i == 1)) && dO c es ys
termination_by structural e=>e
noncomputable def Ji (c:Cfg):Oq->Option Expr->Bool
 | .no,x=>x.isNone
 | .yes e,x=>eU x λy=>aV c e y
termination_by structural e=>e
noncomputable def wH (c:Cfg):T->Expr->Bool
 | .not a,x=>BH x λy=>wH c a y
 | .Zt k es,x=>Df x λo xs=>(o == if k then .And else .Or) && !xs.isEmpty && tK c es xs
 | .cmp op a b,x=>j9 x λl o r=>o == op && !behindInMarks o r && aV c a l && aV c b r
 | .Y_ a,x=>wo x && aV c a x
 | .un .Vs a,x=>j9 x λl o r=>kW r λxs=>o == .Eq && xs.isEmpty && aV c a l
 | .un .Yh a,x=>j9 x λl o r=>xi l && o == .In && !behindInMarks o r && aV c a r
 | .un (.V9 ne n kvs) a,x=>j9 x λl o r=>aK r λy _=>(o == if ne then .NotIn else .In) && !behindInMarks o r && y == n && c.X7 y && eU (c.gl.lookup y) (λv=>mj v == some kvs) && aV c a l
 | .un .VM _,_ | .un .X3 _,_ | .un .X4 _,_ | .un .VP _,_ | .un (.VG _ _) _,_ | .un (.Yn _ _) _,_=>false
termination_by structural e=>e
noncomputable def tK (c:Cfg):Ts->List Expr->Bool
 | .nil,xs=>xs.isEmpty
 | .cons e es,xs=>c_ xs λy ys=>wH c e y && tK c es ys
termination_by structural e=>e
noncomputable def yt (c:Cfg):It->Expr->Bool
 | .seq e,x=>iu x && aV c e x
 | .Zy a,x=>b7 x λg xs _=>aK g λy _=>X_ xs λl=>y == ("range":Str) && c.blt y && ao l && aV c a l
 | .zip a b,x=>b7 x λg xs _=>aK g λy _=>Uw xs λl r=>y == ("zip":Str) && c.blt y && ao l && ao r && aV c a l && aV c b r
 | .chars e,x=>iu x && aV c e x
 | .YS a b d,x=>b7 x λg xs _=>aK g λy _=>Ri xs λl r u=>y == ("range":Str) && c.blt y && ao l && ao r && ao u && aV c a l && aV c b r && aV c d u
termination_by structural e=>e
noncomputable def ot (c:Cfg):Tg->Expr->Bool
 | .name i,x=>aK x λy _=>c.N[i]? == some y && c.loc y
 | .tup ts,x=>iN x λxs=>rG c ts xs
 | .sub o i,x=>oQ x λl r=>iM r && aV c o l && aV c i r
termination_by structural e=>e
noncomputable def rG (c:Cfg):Yd->List Expr->Bool
 | .nil,xs=>xs.isEmpty
 | .cons t ts,xs=>c_ xs λy ys=>ao y && ot c t y && rG c ts ys
termination_by structural e=>e
end
noncomputable def fK (K:W.Frag)(sp:ZX):Sp:=λvs H Q _=>∃m st as,Rs K m H as vs/\RH K m H st/\sp as st (post K m H Q)
structure GD (P:Program)(w:World)(K:W.Frag)(mg:Str->Option Value)(x:Str)(kvs:List (Str × Int)):Prop where
 ex:∃a o vs,mg x=some (.ref a)/\(a == sysModules)=false/\K.lookup a=some o/\Obj.IsDictOf (cA P w) o vs/\KV (kvs.map λp=>((Sum.inr p.1:Key),V.int p.2)) vs
def GL (P:Program)(w:World)(K:W.Frag)(mg:Str->Option Value)(x:Str)(v:PV):Prop :=
 match mj v with
 | some kvs=>GD P w K mg x kvs
 | none=>∃u y,mg x=some u/\RelV y u/\∀m H,R K m H v y
def GL.val {P:Program}{w:World}{K:W.Frag}{mg:Str->Option Value}{x:Str}{v:PV}(h:GL P w K mg x v)(e:mj v=none):∃u y,mg x=some u/\RelV y u/\∀m H,R K m H v y:=by unfold GL at h;rw[e] at h;exact h
def GL.dict {P:Program}{w:World}{K:W.Frag}{mg:Str->Option Value}{x:Str}{v:PV}{kvs:List (Str × Int)}(h:GL P w K mg x v)(e:mj v=some kvs):GD P w K mg x kvs:=by unfold GL at h;simp_all
def GL.of {P:Program}{w:World}{K:W.Frag}{mg:Str->Option Value}{x:Str}{v:PV}(e:mj v=none)(h:∃u y,mg x=some u/\RelV y u/\∀m H,R K m H v y):GL P w K mg x v:=by unfold GL;rw[e];exact h
def GL.ofD {P:Program}{w:World}{K:W.Frag}{mg:Str->Option Value}{x:Str}{v:PV}{kvs:List (Str × Int)}(e:mj v=some kvs)(h:GD P w K mg x kvs):GL P w K mg x v:=by unfold GL;rw[e];exact h
def GL.Rh {P:Program}{w:World}{K:W.Frag}{h:Heap}{mg:Str->Option Value}{x z:Str}{t:Tok}(X:K.In h)(G:h.Ns mainGlobals mg)(e:W.nsIn K mainGlobals x=some (some (.str z t))):GL P w K mg x (.str z):=.of rfl ⟨_,.str z,P6 X G e,⟨t,rfl⟩,λ_ _=>Z8.mpr rfl⟩
def GL.Rg {P:Program}{w:World}{K:W.Frag}{h:Heap}{mg:Str->Option Value}{x:Str}{z:Int}{t:Tok}(X:K.In h)(G:h.Ns mainGlobals mg)(e:W.nsIn K mainGlobals x=some (some (.int z t))):GL P w K mg x (.int z):=.of rfl ⟨_,.int z,P6 X G e,⟨t,rfl⟩,λ_ _=>Z9.mpr rfl⟩
noncomputable abbrev HK (w:World)(L:List (Str × Int × Tok × Tok)):List DictEntry:=L.map λp=>⟨PyData.keyHash w.params p.1,.str p.1 p.2.2.1,.int p.2.1 p.2.2.2⟩
def GD.mkL {P:Program}{w:World}{K:W.Frag}{mg:Str->Option Value}{x:Str}{ga:Addr}{ep:Nat}(L:List (Str × Int × Tok × Tok))(sy:K.lookup sysModules=none)(hm:mg x=some (.ref ga))(hg:K.lookup ga=some ⟨.type "dict",none,.dict (HK w L).toArray ep,#[]⟩)(nd:(L.map (·.1)).Nodup):GD P w K mg x (L.map λp=>(p.1,p.2.1)):=by
 refine⟨ga,_,L.map λp=>(.inr p.1,.int p.2.1 p.2.2.2),hm,beq_eq_false_iff_ne.mpr (λe=>by rw[e,sy] at hg;cases hg),hg,⟨_,_,⟨rfl,rfl,rfl⟩,rfl,λe he=>?_,?_,?_⟩,?_⟩
 ·have he:e∈HK w L:=by simpa using he
  obtain⟨p,_,rfl⟩:=MR.mp he;exact⟨.inr p.1,fM _ _ _ _,rfl⟩
 ·show Pairs (cA P w) (HK w L) _;clear nd hg
  induction L with
  | nil=>exact .nil
  | cons p L ih=>exact .cons (fM _ _ _ _) rfl ih
 ·rw[N2];have:(L.map ((λp:Key × Value=>p.1) ∘ λp=>((Sum.inr p.1:Key),Value.int p.2.1 p.2.2.2)))=(L.map (·.1)).map Sum.inr:=by rw[N2];rfl
  rw[this];exact List.Pairwise.map Sum.inr (λa b hne z=>hne (Sum.inr.inj z)) nd
 ·rw[N2];clear nd hg
  induction L with
  | nil=>exact .nil
  | cons p L ih=>exact .cons ⟨rfl,_,rfl⟩ ih
structure ZD (X:Cx)(c:Cfg)(U:Nat->ZX):Prop where
 calm:X.calm=true
 pass:PassesOwn (model X.prog X.w) X.A X.env X.xe
 N:X.N=c.N
 nd:c.N.Nodup
 XH:∀x,c.names.lookup x=some .local\/c.names.lookup x=some .cell\/c.names.lookup x=some .free->SJ X.env.scope x
 loc:∀x,c.names.lookup x=some .local\/c.names.lookup x=some .cell->Loc X.env.scope x/\(X.fn x=true\/X.env.scope.names.lookup x=some .local)
 Uk:∀x,c.names.lookup x=some .local->X.env.scope.names.lookup x=some .local
 X7:∀x,c.names.lookup x=some .globalImplicit->Gl X x
 bk:X.env.blockKind=.function
 U5:∀x,c.names.lookup x=some .cell\/c.names.lookup x=some .free->X.env.kindOf x=some .cell\/X.env.kindOf x=some .free
 room:Zz c.lim X.A
 fn:∀f x,f<c.lim->c.fns[f]?=some x->∃ps,V1 X.prog X.w X.K X.mg X.base (f+1) x ps (fK X.K (U f))
 blt:∀x∈c.YB,X.mg x=none
 gl:∀x v,c.gl.lookup x=some v->GL X.prog X.w X.K X.mg x v
 mono:bj U
section
variable {X:Cx}{c:Cfg}{U:Nat->ZX}
def ZD.WN (C:ZD X c U){x:Str}(h:c.XH x=true):SJ X.env.scope x/\(x == ("__debug__":Str))=false/\(x == ("__classdict__":Str))=false:=by unfold Cfg.XH at h;simp only[bi,Bool.or_eq_true,beq_iff_eq,Bool.not_eq_true'] at h;exact⟨C.XH x (by lia),h.1.2,h.2⟩
def ZD.Xd (C:ZD X c U){x:Str}(h:c.X7 x=true):Gl X x/\(x == ("__debug__":Str))=false/\x≠"__name__":=by unfold Cfg.X7 at h;simp only[bi,beq_iff_eq,Bool.not_eq_true'] at h;exact⟨C.X7 x h.1.1,h.1.2,λz=>by rw[z] at h;exact absurd h.2 (by decide)⟩
def ZD.Ys (C:ZD X c U){x:Str}(h:c.blt x=true):Gl X x/\(x == ("__debug__":Str))=false/\x≠"__name__"/\X.mg x=none:=by unfold Cfg.blt at h;rw[MG] at h;obtain⟨h1,h2,h3⟩:=C.Xd h.1;exact⟨h1,h2,h3,C.blt x (List.contains_iff_mem.mp h.2)⟩
def ZD.SN (C:ZD X c U){f:Nat}{x:Str}(h:c.fn f x=true):Gl X x/\(x == ("__debug__":Str))=false/\Zz (f+1) X.A/\∃ps,V1 X.prog X.w X.K X.mg X.base (f+1) x ps (fK X.K (U f)):=by unfold Cfg.fn at h;simp only[bi,beq_iff_eq,decide_eq_true_eq] at h;obtain⟨h1,h2,h3⟩:=C.Xd h.2;exact⟨h1,h2,C.room.mono h.1.2,C.fn f x h.1.2 h.1.1⟩
def K0:∀b:B,bootBuiltins (rn b)=some (KL b):=by intro b;cases b <;> decide +kernel
def wX:∀t∈kinds,bootBuiltins (t:Str)=some (.type t):=by decide +kernel
def iG:bootBuiltins ("isinstance":Str)=some (.builtin "isinstance"):=by decide +kernel
def vU {x:Expr}(h:wo x=true)(env:Env):∀whole,isTrue x env whole=(do let v <-whole;standAt x.pos;holding [v] (truthy v)):=by cases x <;> first|(intro _;rfl)|cases h
def gJ {K:W.Frag}{m:List Addr}{H:Hp}{as:List PV}{vs:List V}(h:Rs K m H as vs):Rs K m H as (vs++[]):=by simp[*]
def Cf (C:ZD X c U){f:Nat}{y:Str}{xs:List Expr}{p pos:Pos}{es:Es}(hf:c.fn f y=true)(hn:xs.all ao=true)(hc:dO c es xs=true)(ha:PA X xs (V3 X.K (bT U es))) :
  PE X (.Call (.Name y p) xs [] pos) (Zv X.K λZ st Q=>bT U es Z st λvs st1=>U f vs st1 Q):=by
 obtain⟨h1,h2,hr,ps,F⟩:=C.SN hf;have key:∀ {O:L2.St}{H:Hp}{Q:VK},Zv X.K (λZ st Q=>bT U es Z st λvs st1=>U f vs st1 Q) O H Q->jh (fK X.K (U f)) [] E0 (V3 X.K (bT U es)) O H Q:=by rintro O H Q ⟨m,Z,st,rf,rh,w⟩;exact⟨m,Z,st,rf,rh,aD C.mono es (λvs st1 k m1 H1 Vy e1 r1 r2=>⟨m1,st1,vs,gJ r2,r1,C.mono _ _ _ _ _ (λ_ _ q=>q.ext e1) k⟩) w⟩
 intro pins s O H Q I h;cases xs with
 | nil =>
  refine Fd F hr h1 h2 pins s O H Q I ?_;obtain⟨m,Z,st,rf,rh,w⟩:=h;cases es with
  | nil=>exact⟨m,st,[],Z5.mpr rfl,rh,w⟩
  | _=>exact bd (show false=true from hc)
 | cons x xs =>rw[OB,MG] at hn;exact DL F hr ha h1 h2 hn.1 hn.2 pins s O H Q I (key h)
def CM (C:ZD X c U){b:B}{y:Str}{xs:List Expr}{p pos:Pos}{es:Es}(hy:y=rn b)(hb:c.blt y=true)(hn:xs.all ao=true)(hne:xs.isEmpty=false)(ha:PA X xs (V3 X.K (bT U es))) :
  PE X (.Call (.Name y p) xs [] pos) (Zv X.K λZ st Q=>bT U es Z st λvs st1=>fF b vs st1 Q):=by
 obtain⟨h1,h2,h3,h4⟩:=C.Ys hb;have hv:=K0 b;rw[<-hy] at hv;have key:∀ {O:L2.St}{H:Hp}{Q:VK},Zv X.K (λZ st Q=>bT U es Z st λvs st1=>fF b vs st1 Q) O H Q->Tp (Ko X.K (fF b)) (V3 X.K (bT U es)) O H Q:=by rintro O H Q ⟨m,Z,st,rf,rh,w⟩;exact⟨m,Z,st,rf,rh,aD C.mono es (λvs st1 k m1 H1 Vy e1 r1 r2=>⟨m1,st1,vs,r1,r2,qE (λ_ _ q=>q.ext e1) k⟩) w⟩
 have hc:=Jn C.calm C.room.gd C.room.units b;cases xs with
 | nil=>cases hne
 | cons x xs =>
  rw[OB,MG] at hn;intro pins s O H Q I h;cases b <;> first
   | exact ff hc h1 h4 hv ha h3 h2 hn.1 hn.2 pins s O H Q I (key h)
   | exact nh hc h1 h4 hv ha h3 h2 hn.1 hn.2 pins s O H Q I (key h)
def zy (m:M):PlainAttrs "list"/\Slot "list" (rD m) (xo m)/\typeOf (.builtin (xo m))=pure (.type "method_descriptor"):=by
 cases m
 ·exact⟨PySem.F.plainAttrs_list,PySem.F.slot_list_append,PySem.F.type_list_append⟩
def lg {y:Expr}(h:fP y=true){n:Str}{env:Env}{w:Sem Value}:attributeBase y n env w=w:=by cases y <;> first|rfl|cases h
def AO (C:ZD X c U){m:M}{n:Str}{y:Expr}{ap cp:Pos}{xs:List Expr}{o:E}{es:Es}(hn:n=rD m)(hl:(ap.endLine == cp.line)=true)(hs:xs.all ao=true)(h2:xs.length=1)(hy:fP y=true)(ho:PE X y (Zv X.K (Z_ U o)))(ha:PA X xs (V3 X.K (bT U es)))(hc:dO c es xs=true) :
  PE X (.Call (.Attribute y n ap) xs [] cp) (Zv X.K (Z_ U (.met m o es))):=by
 obtain⟨pa,slot,ty⟩:=zy m;rw[<-hn] at slot;have hm:Wk X (xo m) (K_ X.K (wW m)):=Jy m;intro pins s O H Q I h;obtain⟨mm,Z,st,rf,rh,w⟩:=h;have tyv:∀ {m1:List Addr} {H1:Hp} {st1:AH} {v:PV} {x:V},RH X.K m1 H1 st1->R X.K m1 H1 v x->(∃xs,aS st1 v=some xs)->R8 X.K "list" x H1:=by rintro m1 H1 st1 v x r1 r2 ⟨xs,e⟩;obtain⟨a,ys,rfl,g,_⟩:=bF r1 r2 e;exact .inl ⟨rfl,ys,g⟩
 match xs,hs,h2,ha,hc with
 | [a],hs,h2,ha,hc =>simp only[List.all_cons,List.all_nil,Bool.and_true] at hs;have st1:starEach [a] X.env=[(false,eval a X.env)]:=ay hs;refine l' pa slot ty hm ho ha (lg hy) (by rw[st1];rfl) hl st1 rfl pins s O H Q I ?_;refine⟨mm,Z,st,rf,rh,ae C.mono o (λv st1 k m1 H1 x1 e1 r1 r2=>⟨tyv r1 r2 k.1,?_⟩) w⟩;exact⟨m1,Z,st1,rf.mono e1,r1,aD C.mono es (λvs st2 k m2 H2 xs2 e2 r3 r4=>⟨m2,st2,v,vs,r3,r2.mono e2,r4,qx (λ_ _ q=>q.ext (e1.trans e2)) k⟩) k.2⟩
 | [],_,h2,_,_|_::_::_,_,h2,_,_=>simp at h2
def EO (C:ZD X c U){a:E}{t:String}{l:Expr}{y z:Str}{p q pos:Pos}(h:(y == ("isinstance":Str) && c.blt y && ao l && z == (t:Str) && c.blt z && kinds.contains t)=true)(ha:PE X l (Zv X.K (Z_ U a))) :
  PE X (.Call (.Name y p) [l,.Name z q] [] pos) (Zv X.K (Z_ U (.inst a t))):=by
 simp only[bi,beq_iff_eq] at h;obtain⟨⟨⟨⟨⟨h1,h2⟩,h3⟩,h4⟩,h5⟩,h6⟩:=h;subst h1 h4;have ht:t∈kinds:=List.contains_iff_mem.mp h6;obtain⟨g1,g2,g3,g4⟩:=C.Ys h2;obtain⟨k1,k2,k3,k4⟩:=C.Ys h5;rintro pins s O H Q I ⟨m,Z,st,rf,rh,w⟩;have pt:PE X (.Name (t:Str) q) (tC (.ty t)):=xT k1 k4 (wX t ht) rfl k3 k2;have hA:PA X [l,.Name (t:Str) q] (eQ (Zv X.K (Z_ U a)) (eQ (tC (.ty t)) kH)):=Yy ha (Yy pt bD) h3;have hC:cH X (.builtin "isinstance") (λxs H Q=>∃m st x y n,RH X.K m H st/\R X.K m H x y/\xs=[y,.ty t]/\di st x=some n/\Q (.bl (a9 t n)) H):=by rintro pins s O H xs us Q I r ⟨m,st,x,y,n,r1,r2,rfl,e,q⟩;obtain⟨u,v,rfl,ru,rv⟩:=jV r;cases (show v=Value.type t from rv);exact EZ (K:=X.K) I r1 r2 ru e ht λtk=>⟨.bl _,H,I.tok tk,rfl,q⟩
 refine ff hC g1 g4 iG hA g3 g2 h3 rfl pins s O H Q I ?_;refine⟨m,Z,st,rf,rh,ae C.mono a (λv st1 k m1 H1 x1 e1 r1 r2=>?_) w⟩;obtain⟨n,e,k⟩:=k;exact⟨m1,st1,v,x1,n,r1,r2,rfl,e,(k.ext e1).here r1 (ZW.mpr rfl)⟩
def IJ (C:ZD X c U){i:Nat}{y:Str}{p:Pos}(h:(c.N[i]? == some y && c.XH y)=true):PE X (.Name y p) (Zv X.K (Z_ U (.var i))):=by simp only[bi,beq_iff_eq] at h;obtain⟨h1,h2,h3⟩:=C.WN h.2;rintro pins s O H Q I ⟨m,Z,st,rf,rh,w⟩;obtain⟨v,e,w⟩:=gu w;obtain⟨y,e2,r⟩:=rf.at_ i v e;exact o_ (by rw[C.N];exact h.1) h1 h2 h3 pins s O H Q I ⟨y,e2,w.here rh r⟩
def sW {K:W.Frag}{m m':List Addr}{H H':Hp}{st st':AH}{Q:EK}{v:PV}{x:V}(rh:RH K m H st)(e:Ext K m H m' H')(Wg:RH K m' H' st')(r:R K m' H' v x)(q:V5 st Q v st') :
  ∃st1,Q v st1/\Ext K m H m H'/\RH K m H' st1/\R K m H' v x:=by
 obtain⟨st1,g,rfl,hl,hs,hb,q⟩:=q;have hm:m'.take m.length=m:=by obtain⟨t,ht⟩:=e.pre;rw[<-ht,QM]
 have hlen:m.length=st.length:=rh.len;refine⟨st1,q,⟨OL _,λ_ z=>.inl z,e.fr⟩,⟨by simp_all,rh.nd,λn c a h1 h2=>?_⟩,?_⟩
 ·have hn:n<st1.length:=(MT.mp h1).1;have c1:Y0 K m' H' c a:=Wg.at_ n c a (by rw[M0 hn];exact h1) (rH e.pre h2);have hc:c.ZQ m.length=true:=by
   rcases hs n (by simp_all) with z|⟨c',z,zb⟩
   ·rw[h1] at z;exact(rh.at_ n c a z.symm h2).ZQ
   ·rw[h1] at z;cases z;cases c;exact PV.Yp (OV _) zb
  have:=c1.cut hc;rw[hm] at this;exact this
 ·have:=r.cut (k:=m.length) (by rw[hlen];exact hb);rw[hm] at this;exact this
noncomputable def Zb (K:W.Frag)(m:List Addr)(H:Hp)(Q:L2.St->Hp->Prop):Fr->AH->Prop:=λZ' st'=>∀m' H' O',Ext K m H m' H'->RH K m' H' st'->RF K m' H' Z' O'->Q O' H'
def Zb.ext {K:W.Frag}{m m1:List Addr}{H H1:Hp}{Q:L2.St->Hp->Prop}(x:Ext K m H m1 H1){Z:Fr}{st:AH}(q:Zb K m H Q Z st):Zb K m1 H1 Q Z st:=λm' H' O' e r s=>q m' H' O' (x.trans e) r s
def Zb.here {K:W.Frag}{m:List Addr}{H:Hp}{Q:L2.St->Hp->Prop}{Z:Fr}{O:L2.St}{st:AH}(q:Zb K m H Q Z st)(h:RH K m H st)(r:RF K m H Z O):Q O H:=q m H O (Ext.refl _ _ _) h r
noncomputable def Sx (K:W.Frag)(w:PV->Fr->AH->(Fr->AH->Prop)->Prop):TG:=λv' O H Q=>∃m Z st v,RF K m H Z O/\RH K m H st/\R K m H v v'/\w v Z st (Zb K m H Q)
noncomputable def LP (K:W.Frag)(w:List PV->Fr->AH->(Fr->AH->Prop)->Prop):U4:=λv' O H Q=>∃m Z st v,RF K m H Z O/\RH K m H st/\Rs K m H v v'/\w v Z st (Zb K m H Q)
def ZD.Xv (C:ZD X c U){x:Str}(h:c.loc x=true):Loc X.env.scope x/\(X.fn x=true\/X.env.scope.names.lookup x=some .local):=by unfold Cfg.loc at h;simp only[Bool.or_eq_true,beq_iff_eq] at h;exact C.loc x h
def ZD.VJ (C:ZD X c U):X.N.Nodup:=by rw[C.N];exact C.nd
def jj {e:Expr}{es:List Expr}{env:Env}(h:ao e=true):assignEach (e::es) env=(false,assign e env)::assignEach es env:=by cases e <;> first|rfl|cases h
theorem oA {c:Cfg}:∀ {ts:Yd}{xs:List Expr}{env:Env},rG c ts xs=true->(assignEach xs env).length=ts.size/\(assignEach xs env).findIdx? (·.1)=none
 | .nil,xs,env,h=>by
  have h:xs.isEmpty=true:=h;cases xs with
  | nil=>exact⟨rfl,rfl⟩
  | cons _ _=>cases h
 | .cons t ts,xs,env,h=>by
  replace h:=aG h;obtain⟨y,ys,rfl,h⟩:=h
  ·simp only[bi] at h;obtain⟨⟨h1,h2⟩,h3⟩:=h;obtain⟨g1,g2⟩:=oA (env:=env) h3;rw[jj h1];exact⟨by simp[g1,Yd.size],by simp[List.findIdx?_cons,g2]⟩
structure nk (K:W.Frag)(J:L2.It)(xs:List PV)(ZR:AH->Prop)(m0:List Addr)(H0:Hp):Prop where
 stop:∀m H st,Ext K m0 H0 m H->RH K m H st->ZR st->J.stop xs.length H
 item:∀(i:Nat) v m H st,Ext K m0 H0 m H->RH K m H st->ZR st->xs[i]?=some v->J.go i H/\∀x H',J.Rp i H x H'->Ext K m H m H'/\RH K m H' st/\R K m H' v x
noncomputable def Sy (K:W.Frag)(w:Fr->AH->(List PV->(AH->Prop)->AH->Prop)->Prop):TI:=λO H Rr=>∃m Z st,RF K m H Z O/\RH K m H st /\
 w Z st λxs ZR st1=>∀m1 H1 J,Ext K m H m1 H1->RH K m1 H1 st1->nk K J xs ZR m1 H1->Rr J H1
def t8 {x:Expr}{env:Env}(h:iu x=true):∀v,foldedSetIterable x env v=pure v:=by cases x <;> first|(intro _;rfl)|cases h
def Jj {tg l:Expr}{tl:TE}(hl:PE X l tl):PI X tg l (λO H Rr=>tl O H λx H1=>∃a,x=.ref a/\((∃xs,Zr X.K H1 a xs)/\Rr (Rq X.K a) H1\/(∃xs,ZC X.K H1 a xs)/\Rr (Ph X.K a) H1)):=by
 intro pins s O H Rr I h;refine ZP (hl pins s O H _ I h) λv s1 ⟨x,H1,I1,r1,q1⟩=>?_;obtain⟨a,e,q1⟩:=q1;subst e;cases r1;rcases q1 with⟨⟨xs,hq⟩,q⟩|⟨⟨xs,hq⟩,q⟩
 ·obtain⟨its,rv,p,hz⟩:=I1.list hq;refine wpAny_pyIter_list p.isList ?_;refine⟨s1.heap.objs.size,[s1.heap.objs.size],_,_,H1,rfl,I1.kept (t':=s1.toks) λb o e=>MB _ e,ze a _,⟨_,MH _ rfl,rfl,rfl⟩,λb hb=>?_,q⟩;have e:b=s1.heap.objs.size:=by simpa using hb
  subst e;exact I1.Xu (MJ _) (I1.hok.fresh (MJ _))
 ·obtain⟨its,rv,p,hz⟩:=I1.tuple hq;refine wpAny_pyIter_tuple (show s1.heap.IsTuple a its.toArray from p) ?_;refine⟨s1.heap.objs.size,[s1.heap.objs.size],_,_,H1,rfl,I1.kept (t':=s1.toks) λb o e=>MB _ e,wD a _,⟨_,MH _ rfl,rfl,rfl⟩,λb hb=>?_,q⟩;have e:b=s1.heap.objs.size:=by simpa using hb
  subst e;exact I1.Xu (MJ _) (I1.hok.fresh (MJ _))
def zK {K:W.Frag}{m0:List Addr}{H0:Hp}{st0:AH}{n:Nat}{a:Addr}{xs:List PV}(rh:RH K m0 H0 st0)(e:st0[n]?=some (.lst xs))(ea:m0[n]?=some a):nk K (Rq K a) xs (λst'=>st'[n]?=st0[n]?) m0 H0:=by
 have get:∀m H st,Ext K m0 H0 m H->RH K m H st->st[n]?=st0[n]?->∃ys,H a=some (.lst ys)/\Rs K m H xs ys:=λm H st x r q=>by rw[e] at q;exact r.at_ n _ a q (rH x.pre ea)
 refine⟨λm H st x r q=>?_,λi v m H st x r q ev=>?_⟩
 ·obtain⟨ys,h1,h2⟩:=get m H st x r q;exact⟨ys,Zr.of h1,by rw[h2.len];simp⟩
 ·obtain⟨ys,h1,h2⟩:=get m H st x r q;obtain⟨y,e1,r1⟩:=h2.get ev;refine⟨⟨ys,y,Zr.of h1,e1⟩,λz H' ⟨e2,e3⟩=>?_⟩;subst e2;have:=e3 ys (Zr.of h1);rw[e1] at this;cases this;exact⟨Ext.refl _ _ _,r,r1⟩
def Cq {K:W.Frag}{m0:List Addr}{H0:Hp}{a:Addr}{xs:List PV}{ys:List V}(h:WT K H0 a ys)(r0:Rs K m0 H0 xs ys):nk K (Rq K a) xs (λ_=>True) m0 H0:=by refine⟨λm H st x r q=>⟨ys,(x.Tn _ _ h).sq,by rw[r0.len];simp⟩,λi v m H st x r q ev=>?_⟩;obtain⟨y,e1,r1⟩:=(r0.mono x).get ev;refine⟨⟨ys,y,(x.Tn _ _ h).sq,e1⟩,λz H' ⟨e2,e3⟩=>?_⟩;subst e2;have:=e3 ys (x.Tn _ _ h).sq;rw[e1] at this;cases this;exact⟨Ext.refl _ _ _,r,r1⟩
def Ds {K:W.Frag}{m0:List Addr}{H0:Hp}{a:Addr}{xs:List PV}{ys:List V}(h:ZC K H0 a ys)(r0:Rs K m0 H0 xs ys):nk K (Ph K a) xs (λ_=>True) m0 H0:=by refine⟨λm H st x r q=>⟨ys,x.tup _ _ h,by rw[r0.len];simp⟩,λi v m H st x r q ev=>?_⟩;obtain⟨y,e1,r1⟩:=(r0.mono x).get ev;refine⟨⟨ys,y,x.tup _ _ h,e1⟩,λz H' ⟨e2,e3⟩=>?_⟩;subst e2;have:=e3 ys (x.tup _ _ h);rw[e1] at this;cases this;exact⟨Ext.refl _ _ _,r,r1⟩
def vQ {K:W.Frag}{m0:List Addr}{H0:Hp}{lo:Int}{n:Nat}:nk K (Ru lo n) (cZ lo n) (λ_=>True) m0 H0:=by
 refine⟨λm H st x r q=>by show n<=_;simp[cZ],λi v m H st x r q ev=>?_⟩;unfold cZ at ev;rw[M5] at ev;have hi:i<n:=by
  by_cases hi:i<n
  ·exact hi
  ·simp_all
 rw[QF hi] at ev;cases ev;refine⟨hi,λz H' ⟨e2,e3⟩=>?_⟩;subst e2 e3;exact⟨Ext.refl _ _ _,r,Z9.mpr rfl⟩
end
section
variable {X:Cx}{c:Cfg}{U:Nat->ZX}
def zr {pins:List (Addr × Obj)}{O:L2.St}{H:Hp}{s:Shared}(I:L2.Inv X pins O H s)(d:Drawn):L2.Inv X pins O H { s with drawn:=d } :=
 ⟨I.ok,I.os,I.bare,I.base,I.loc,I.cell,I.free,I.ZF,I.pin,I.hok,I.len⟩
noncomputable def ER (prog:Program)(w:World)(a:Addr)(ns:List Str):HO:=.ext λh=>Zd (tZ prog w) (!(Ze w)) h a ns
theorem xJ:∀ {us:List Value}{ns:List Str},Vals (ns.map V.str) us->∀(i:Nat) v,us[i]?=some v->∃t,v=.str (ns.getD i Str.empty) t
 | _,[],h,i,v,e=>by cases h;simp at e
 | _,n::ns,h,i,v,e=>by
  cases h with
  | cons r1 r2 =>
   cases i with
   | zero=>simp at e;subst e;assumption
   | succ i=>obtain⟨t,q⟩:=xJ r2 i v (by simpa using e);solve_by_elim
def zx (hcalm:X.calm=true):cH X (.type "set") (λxs H Q=>∃p ns,xs=[V.ref p]/\(Zr X.K H p (ns.map V.str)\/ZC X.K H p (ns.map V.str))/\ns.length<60/\∀a,H a=none->Q (.ref a) (upd H a (ER X.prog X.w a ns))):=by
 rintro pins s O H xs us Q I r ⟨p,ns,rfl,hp,hn,q⟩;obtain⟨u,rfl,ru⟩:=cC r;cases ru;have fin:∀ {h':Heap}{tk:Nat},Zd (tZ X.prog X.w) (!(Ze X.w)) h' s.heap.objs.size ns->(∀b o,b<s.heap.objs.size->s.heap.get? b=some o->h'.get? b=some o)->EP X pins O Q (.ref s.heap.objs.size) { s with heap:=h',toks:=tk }:=λ{h' tk} hZ k=>by refine⟨.ref s.heap.objs.size,_,I.laid (t':=tk) (λb u e=>k b u (MQ e) e) (MJ _) (show ZL X.prog X.w _ _ _ (ER X.prog X.w s.heap.objs.size ns) from ⟨hZ,?_,λh1 h2 z e=>z.at e⟩),rfl,q _ (I.hok.fresh (MJ _))⟩;obtain⟨es,ep,t,ho,_⟩:=hZ;exact⟨_,ho⟩
 have val:∀ {its:List Value},Vals (ns.map V.str) its->(∀(i:Nat) (v:Value),its.toArray[i]?=some v->(tZ X.prog X.w).knd.is ((λi=>ns.getD i Str.empty) i) v=true)/\(List.range its.toArray.size).map (λi=>ns.getD i Str.empty)=ns/\its.toArray.size<900:=λ{its} ri=>by
  have ln:ns.length=its.length:=by simpa using ri.length
  refine⟨λi v hv=>?_,?_,by rw[NL];lia⟩
  ·obtain⟨t,rfl⟩:=xJ ri i v (by simpa using hv);exact(QX _:(ns.getD i Str.empty == ns.getD i Str.empty)=true)
  ·refine PF (by simp[ln]) λi h1 h2=>?_;simp[List.getElem?_eq_getElem h2]
 rcases hp with hp|hp
 ·obtain⟨its,ri,pl,_⟩:=I.list hp;obtain⟨v1,v2,v3⟩:=val ri;exact zN (SS:=tZ X.prog X.w) (I.ok.hd hcalm) pl.isList _ v1 v2 v3 λh' tk hZ k=>fin hZ k
 ·obtain⟨its,ri,pl,_⟩:=I.tuple hp;obtain⟨v1,v2,v3⟩:=val ri;exact vK (SS:=tZ X.prog X.w) (I.ok.hd hcalm) pl _ v1 v2 v3 λh' tk hZ k=>fin hZ k
def tQ (hcalm:X.calm=true):cH X (.builtin "sorted") (λxs H Q=>∃p ns,xs=[V.ref p]/\H p=some (ER X.prog X.w p ns)/\ns.length<60/\∀ns':List Str,sortedS ns'=true->ns'.Nodup->(∀i,i∈ns'↔i∈ns)->ns'.length<=ns.length->∀l,H l=none->Q (.ref l) (upd H l (.lst (ns'.map V.str)))):=by rintro pins s O H xs us Q I r ⟨p,ns,rfl,hp,hn,q⟩;obtain⟨u,rfl,ru⟩:=cC r;cases ru;have hZ:Zd (tZ X.prog X.w) (!(Ze X.w)) s.heap p ns:=(I.hok p _ hp).1;refine wL (I.ok.hd hcalm) hZ (by lia) λh' tk d l out e ns' k zl he a1 a2 a2' a3 a4=>?_;refine⟨.ref l,_,(zr I d).laid (t':=tk) (λb u e=>k b u (MQ e) e) zl (show ZL X.prog X.w _ _ _ (.lst (ns'.map V.str)) from ⟨?_,out.toList,e,qF a1,he⟩),rfl,q ns' a2 a2' a3 a4 _ (I.hok.fresh zl)⟩;rw[MI];exact OU (rR (by lia))
theorem j7 {K:W.Frag}{m:List Addr}{H:Hp}:∀ {ns:List Str}{ys:List V},Rs K m H (ns.map PV.str) ys->ys=ns.map V.str
 | [],ys,h=>by assumption
 | n::ns,ys,h=>by rw[M3,a8] at h;obtain⟨y,r,rfl,h1,h2⟩:=h;rw[Z8] at h1;rw[h1,j7 h2];rfl
def HZ (C:ZD X c U){y z:Str}{u:Expr}{p p2 p3 p4:Pos}{a:E}(h1:y="sorted")(h2:c.blt y=true)(h3:z="set")(h4:c.blt z=true)(h5:ao (.Call (.Name z p4) [u] [] p3)=true)(h6:ao u=true)(ha:PE X u (Zv X.K (Z_ U a))) :
  PE X (.Call (.Name y p2) [.Call (.Name z p4) [u] [] p3] [] p) (Zv X.K (Z_ U (.un .VM a))):=by
 obtain⟨a1,a2,a3,a4⟩:=C.Ys h2;obtain⟨b1,b2,b3,b4⟩:=C.Ys h4;have v1:bootBuiltins y=some (.builtin "sorted"):=by rw [h1];decide +kernel
 have v2:bootBuiltins z=some (.type "set"):=by rw [h3];decide +kernel
 have inner:=nh (pos:=p3) (p:=p4) (zx C.calm) b1 b4 v2 (Yy ha bD h6) b3 b2 h6 rfl;intro pins s O H Q I h;refine ff (pos:=p) (p:=p2) (tQ C.calm) a1 a4 v1 (Yy inner bD h5) a3 a2 h5 rfl pins s O H Q I ?_;obtain⟨m,Z,st,rf,rh,w⟩:=h;refine⟨m,Z,st,rf,rh,ae C.mono a (λv st1 k m1 H1 x1 e1 r1 r2=>?_) w⟩;obtain⟨ns,hq,h2,k⟩:=k;have src:∃b,x1=.ref b/\(Zr X.K H1 b (ns.map V.str)\/ZC X.K H1 b (ns.map V.str)):=by
  cases v with
  | ref n =>
   have hq:aS st1 (.ref n)=some (ns.map PV.str):=hq;have:st1[n]?=some (.lst (ns.map PV.str)):=by
    unfold aS at hq;simp only at hq;split at hq
    ·simp_all
    ·cases hq
   obtain⟨b,ys,rfl,eb,gg,ry⟩:=r1.lst this r2;rw[j7 ry] at gg;exact⟨b,rfl,.inl (Zr.of gg)⟩
  | tup xs =>cases hq;rw[ZM] at r2;obtain⟨b,ys,rfl,gg,ry⟩:=r2;rw[j7 ry] at gg;exact⟨b,rfl,.inr gg⟩
  | YM xs =>cases hq;obtain⟨b,ys,rfl,gg,ry⟩:=Za.mp r2;rw[j7 ry] at gg;exact⟨b,rfl,.inl gg.sq⟩
  | _=>cases hq
 obtain⟨b,rfl,gg⟩:=src;refine⟨b,ns,rfl,gg,h2,λq hq=>⟨q,ns,rfl,bq,h2,λns' p0 p1 p2 p3 l hl=>?_⟩⟩;have rr:=r1.ZG (o:=ER X.prog X.w q ns) hq;exact k ns' p0 p1 p2 p3 _ _ _ ((e1.trans (Ext.ZG r1 hq)).trans (Ext.new1 rr hl)) (rr.newL hl wY) (R.last rr.len)
end
section
variable {X:Cx}{pins:List (Addr × Obj)}{O:L2.St}{H:Hp}{s:Shared}{h':Heap}
def DC {t':Nat}{wr:List Addr}(I:L2.Inv X pins O H s)(k:∀b o,b ∉ wr->s.heap.get? b=some o->h'.get? b=some o)(hf:∀b∈wr,ik X pins H b):L2.Inv X pins O H { s with heap:=h',toks:=t' }:=by
 have Te:∀b u,H b=some u->b ∉ wr:=λb u e z=>by rw[(hf b z).1] at e;cases e
 refine I.step (g':=s.gens) (d':=s.drawn) (ch:=wr) (λb hb=>⟨(hf b hb).2.2.2.1,(hf b hb).2.1,(hf b hb).2.2.2.2.1,(hf b hb).2.2.2.2.2⟩) (λb o _ _ hc e _=>k b o hc e) (λb o _ _ hc e _=>⟨o.slots,k b o hc e⟩) (λ_ _ _ _ n=>n)
  (λb o hc e=>⟨o,k b o hc e⟩) (λ_ _ e _=>e) (λm hm=>?_) (λb u e=>?_) I.bare
 ·obtain⟨o,es,ep,ho,r⟩:=hm;exact⟨o,es,ep,k _ o (λz=>(hf _ z).2.1 rfl) ho,r⟩
 ·exact(I.hok b u e).stay λv q=>k b v (Te b u e) q
def En {t':Nat}{wr:List Addr}{T:Addr}{xs:List V}{its:List Value}(I:L2.Inv X pins O H s)(k:∀b o,b ∉ wr->s.heap.get? b=some o->h'.get? b=some o)(hf:∀b∈wr,ik X pins H b)
  (hT:s.heap.objs.size<=T) (hx:Vals xs its) (hz:xs.length<=sizeLine) (ht:h'.IsTuple T its.toArray):L2.Inv X pins O (upd H T (.tup xs)) { s with heap:=h',toks:=t' }:=by
 have Te:∀b u,H b=some u->b ∉ wr:=λb u e z=>by rw[(hf b z).1] at e;cases e
 have hn:H T=none:=I.hok.fresh hT;have up:∀b u,H b=some u->upd H T (.tup xs) b=some u:=λb u e=>by rw[bg (dX e hn)];exact e
 refine I.step (g':=s.gens) (d':=s.drawn) (ch:=wr) (λb hb=>⟨(hf b hb).2.2.2.1,(hf b hb).2.1,(hf b hb).2.2.2.2.1,(hf b hb).2.2.2.2.2⟩) (λb o _ _ hc e _=>k b o hc e) (λb o _ _ hc e _=>⟨o.slots,k b o hc e⟩)
  (λb o _ e n=>by rw[bg (MV (ML (MQ e) hT))];exact n)
  (λb o hc e=>⟨o,k b o hc e⟩) (λb _ e _=>up b _ e) (λm hm=>?_) (λb u e=>?_) I.bare
 ·obtain⟨o,es,ep,ho,r⟩:=hm;exact⟨o,es,ep,k _ o (λz=>(hf _ z).2.1 rfl) ho,r⟩
 ·by_cases hb:b=T
  ·subst hb;rw[bq] at e;cases e;exact⟨hz,its,hx,ht⟩
  ·rw[bg hb] at e;exact(I.hok b u e).stay λv q=>k b v (Te b u e) q
end
theorem iH:∀ {xs ys:List PV},(cG xs ys).length=min xs.length ys.length
 | [],ys=>by simp[cG]
 | x::xs,[]=>by simp[cG]
 | x::xs,y::ys=>by simp only[cG,List.length_cons,iH (xs:=xs) (ys:=ys)];simp
theorem km:∀ {xs ys:List PV}{i:Nat}{v:PV},(cG xs ys)[i]?=some v->∃x y,xs[i]?=some x/\ys[i]?=some y/\v=.tup [x,y]
 | [],ys,i,v,h=>by simp[cG] at h
 | x::xs,[],i,v,h=>by simp[cG] at h
 | x::xs,y::ys,0,v,h=>by simp[cG] at h;exact⟨x,y,rfl,rfl,h.symm⟩
 | x::xs,y::ys,i+1,v,h=>by
  simp only[cG,List.getElem?_cons_succ] at h |-
  exact km h
open L2
section
variable {prog:Program}{w:World}{A:Around}{E:Value->Shared->Prop}{s:Shared}
end
def lU {α β:Type}{f:α->β}{l m:List β}(h:l.Perm m):∀ {r:List α},m=r.map f->∃r':List α,r'.Perm r/\l=r'.map f:=by
 induction h with
 | nil=>exactλ{r} e=>⟨r,.refl _,e⟩
 | cons x _ ih =>
  intro r e;cases r with
  | nil=>cases e
  | cons a r =>rw[M3] at e;obtain⟨rfl,rfl⟩:=QW e;obtain⟨r',p,rfl⟩:=ih rfl;exact⟨a::r',p.cons a,rfl⟩
 | swap x y l =>
  intro r e
  match r,e with
  | a::b::r,e =>simp only[List.map_cons,List.cons.injEq] at e;obtain⟨rfl,rfl,rfl⟩:=e;exact⟨b::a::r,.swap _ _ _,rfl⟩
 | trans _ _ ih1 ih2 =>intro r e;obtain⟨r2,p2,e2⟩:=ih2 e;obtain⟨r1,p1,e1⟩:=ih1 e2;exact⟨r1,p1.trans p2,e1⟩
section
variable {prog:Program}{w:World}{A:Around}{E:Value->Shared->Prop}{s:Shared}{L:List (Addr × Str)}{f:Addr->List Nat}
end
open PySem PyProof.Rows
section
variable {prog:Program}{w:World}{A:Around}{E:Value->Shared->Prop}{s:Shared}{a₀:Array Keyed}{K:SortKind}
def DM (prog:Program)(w:World)(A:Around)(E:Value->Shared->Prop)(s:Shared)(K:SortKind)(a₀:Array Keyed):Prop :=
 ∀(st:SortSt) (Q:Option Bool->SortSt->Prop),SB K a₀ st->(∀b,Q (some b) st)->PyProof.Rows.wpS (model prog w) A E s (ltAt' 1 0) Q st
def JH {st:SortSt}{Q:AscSt->SortSt->Prop}(C:DM prog w A E s K a₀)(B:SB K a₀ st)(k1:Q (none,1) st)(k2:Q (none,2) st):PyProof.Rows.wpS (model prog w) A E s (ascLoop 1 2) Q st:=by
 unfold ascLoop;refine wpS_forRange (I:=λx c t=>c=(none,x)/\t=st) (λx c t h1 h2=>?_) (λc t=>?_) ⟨rfl,rfl⟩
 ·rintro⟨rfl,rfl⟩;have e:x=1:=by omega
  subst e;refine wpS_bind (C t _ B λb=>?_);cases b with
  | true=>exact wpS_pure k1
  | false=>exact wpS_pure ⟨rfl,rfl⟩
 ·rintro⟨rfl,rfl⟩;exact k2
def Iv {st:SortSt}{Q:AscSt->SortSt->Prop}(k:Q (none,2) st):PyProof.Rows.wpS (model prog w) A E s (ascLoop 2 2) Q st:=by unfold ascLoop;refine wpS_forRange (I:=λx c t=>c=(none,x)/\t=st) (λx c t h1 h2=>by omega) (λc t=>?_) ⟨rfl,rfl⟩;rintro⟨rfl,rfl⟩;exact k
def Hq {st:SortSt}{Q:DescSt->SortSt->Prop}(k:Q (none,2,0) st):PyProof.Rows.wpS (model prog w) A E s (descLoop 2 2) Q st:=by unfold descLoop;refine wpS_forRange (I:=λx c t=>c=(none,x,0)/\t=st) (λx c t h1 h2=>by omega) (λc t=>?_) ⟨rfl,rfl⟩;rintro⟨rfl,rfl⟩;exact k
def JN {st:SortSt}{Q:Option Nat->SortSt->Prop}(C:DM prog w A E s K a₀)(B:SB K a₀ st)(k:∀t,SB K a₀ t->Q (some 2) t):PyProof.Rows.wpS (model prog w) A E s (countRun' 0 2) Q st:=by
 rw[countRun0_eq];refine wpS_bind (JH C B ?_ ?_)
 ·dsimp only;rw[MM (by decide),MM (by decide)];unfold descPart;refine wpS_bind (wpS_lift (wpAny_rule ⟨rfl,?_⟩));refine wpS_bind (Hq ?_);dsimp only;rw[MM (by decide)];unfold tail3;exact wpS_bind (wpS_reverse (wpS_bind (Iv (wpS_pure (k _ (B.arr (mirror_perm _ _ _ _)))))))
 ·exact wpS_pure (k _ B)
def IE {st:SortSt}{Q:Unit->SortSt->Prop}(C:DM prog w A E s K a₀)(B:SB K a₀ st)(h2:a₀.size=2)(k:∀t,(arrOf t).Perm a₀->failedOf t=none->Q () t):PyProof.Rows.wpS (model prog w) A E s sortRuns' Q st:=by
 rw[sortRuns'_eq];refine wpS_bind (wpS_get ?_);dsimp only;have mr:minRun' 2 2 0=2:=by rw[show (2:Nat)=1+1 from rfl,minRun'_succ,MK (by simp)]
 simp only[B.sz,h2,mr];refine wpS_bind (PyProof.Rows.wpS_mono (wpS_forRange (I:=λx c t=>(x=0/\c=(none,0)/\SB K a₀ t)\/(1<=x/\c=(none,2)/\(arrOf t).Perm a₀/\failedOf t=none/\pendingOf t=#[(0,2,0)]))
  (Q:=λc t=>c=(none,2)/\(arrOf t).Perm a₀/\failedOf t=none/\pendingOf t=#[(0,2,0)]) (λx c t h1 h3=>?_) (λc t=>?_) (.inl ⟨rfl,rfl,B⟩)) ?_)
 ·rintro (⟨rfl,rfl,B⟩|⟨g1,rfl,d⟩)
  ·dsimp only;rw[MM (by omega)];simp only[Nat.sub_zero,Nat.min_self,Nat.zero_add];refine wpS_bind (JN C B λt B=>?_);dsimp only;rw[MM (by omega)];refine wpS_bind (wpS_get ?_);rw[show (pendingOf t).back?=none by rw[B.pd];rfl];dsimp only;exact wpS_bind (wpS_modify (wpS_pure (.inr ⟨by omega,rfl,B.pm,B.fl,by show (pendingOf t).push _=_;rw[B.pd];rfl⟩)))
  ·dsimp only;rw[MK (MJ _)];exact wpS_pure ⟨rfl,d⟩
 ·rintro (⟨g,_⟩|⟨_,hc,d⟩)
  ·omega
  ·exact⟨hc,d⟩
 ·rintro c t ⟨rfl,d⟩;dsimp only;refine wpS_bind (PyProof.Rows.wpS_mono (wpS_forRange (I:=λ_ c t'=>t'=t/\c=(none,())) (Q:=λc t'=>t'=t/\c=(none,())) (λy c t' _ _=>?_) (λ_ _ h=>h) ⟨rfl,rfl⟩) ?_)
  ·rintro⟨rfl,rfl⟩;refine wpS_bind (wpS_get ?_);rw[MK (by rw[d.2.2];exact MJ 1)];exact wpS_pure ⟨rfl,rfl⟩
  ·rintro c t' ⟨rfl,rfl⟩;exact wpS_pure (k _ d.1 d.2.1)
end
def Tq (h:Heap)(T:Addr):Prop:=∃o a t b u n,h.get? T=some o/\o.cls=.type "tuple"/\o.data=.seq #[.int a t,.int b u] n
def Tq.kept {h h':Heap}{T:Addr}(x:Tq h T)(k:∀o,h.get? T=some o->h'.get? T=some o):Tq h' T:=by obtain⟨o,a,t,b,u,n,e,r⟩:=x;exact⟨o,a,t,b,u,n,k o e,r⟩
section
variable {prog:Program}{w:World}{A:Around}{E:Value->Shared->Prop}{s:Shared}
def oY {T:Addr}{Q:Option Value->Shared->Prop}(x:Tq s.heap T)(h:∀a t,Q (some (.int a t)) s):wpAny (model prog w) A (firstOfTuple' (.ref T)) Q E s:=by obtain⟨o,a,t,b,u,n,e,hc,hd⟩:=x;show wpAny _ _ (typeOf (.ref T) >>= _) _ _ _;refine MA (wpAny_typeOf (T:="tuple") ⟨o,e,hc⟩ ?_);rw[MM (by decide)];exact MA (listItems_at e hd (MC (h a t)))
def zY {T Uq:Addr}{Q:SortKind->Shared->Prop}(h1:Tq s.heap T)(h2:Tq s.heap Uq)(q:Q (tuples' true) s):wpAny (model prog w) A (keyKind' #[.ref T,.ref Uq]) Q E s:=by rw[keyKind'_eq,List.mapM_toArray];show wpAny _ _ ((List.toArray <$> List.mapM firstOfTuple' [.ref T,.ref Uq]) >>= _) _ _ _;rw[map_eq_pure_bind,bind_assoc,List.mapM_cons,List.mapM_cons,List.mapM_nil];refine MA (MA (oY h1 λa t=>?_));refine MA (MA (oY h2 λb u=>?_));refine MA (MC (MC (MC (MA (MC ?_)))));rw[MK (by simp)];refine MA (wpAny_rule ?_);show wpAny _ _ (oneTypeOnly' #[Value.int a t,Value.int b u] >>= _) _ _ _;rw[oneTypeOnly'_eq,List.mapM_toArray,mapM_typeOf_ints (.cons a t (.cons b u .nil))];simp only[map_pure,pure_bind];refine MC ?_;rw[MK (by simp)];exact q
def DU {T Uq:Addr}{Q:Bool->Shared->Prop}(h1:Tq s.heap T)(h2:Tq s.heap Uq)(q:∀b,Q b s):wpAny (model prog w) A (keyLt' (tuples' true) (.ref T) (.ref Uq)) Q E s:=by
 obtain⟨o,a,t,b,u,n,e,hc,hd⟩:=h1;obtain⟨o',a',t',b',u',n',e',hc',hd'⟩:=h2;show wpAny _ _ (Builtin.List.listItems (.ref T) >>= _) _ _ _;refine MA (listItems_at e hd (MA (listItems_at e' hd' ?_)));show wpAny _ _ (forIn [((Value.int a t,Value.int a' t'),0),((Value.int b u,Value.int b' u'),1)] _ _ >>= _) _ _ _;rw[OS];refine MA (MA (MA (QJ a t a' t' _ _ _ _ ?_)));cases a == a' with
 | false =>rw[MK (by decide)];refine MA (show wpAny _ _ (oneLt' true (.int a t) (.int a' t')) _ _ _ from oneLt_int ?_);exact MC (MC (MC (q _)))
 | true =>
  rw[MM (by decide)];refine MC ?_;dsimp only;rw[OS];refine MA (MA (QJ b u b' u' _ _ _ _ ?_));cases b == b' with
  | false =>rw[MK (by decide)];refine MA (show wpAny _ _ (oneLt' false (.int b u) (.int b' u')) _ _ _ from ?_);rw[oneLt'_eq];simp only[Bool.false_eq_true,if_false];refine MA (show wpAny _ _ (compareOp .Lt (.int b u) (.int b' u')) _ _ _ from PyProof.Rows.lt_int ?_);refine wpAny_truthy_bool ?_;exact MC (MC (MC (q _)))
  | true =>rw[MM (by decide)];refine MC ?_;dsimp only;rw[List.forIn_nil];exact MC (MC (q _))
noncomputable abbrev Y6 (L:List Addr):List Value:=L.map Value.ref
def zJ {L:List Addr}:(pairsOf (Y6 L)).toList=L.map λT=>(Value.ref T,Value.ref T):=by rw[pairsOf_toList];grind
def uQ {L:List Addr}{xs:Array Keyed}(h:xs.Perm (pairsOf (Y6 L))):∃L':List Addr,L'.Perm L/\xs.toList=L'.map λT=>(Value.ref T,Value.ref T):=lU (Array.perm_iff_toList_perm.mp h) zJ
def Cr {L:List Addr}(h:∀T∈L,Tq s.heap T)(h2:L.length=2):DM prog w A E s (tuples' true) (pairsOf (Y6 L)):=λst Q B q=>by
 obtain⟨L',p,e⟩:=uQ B.pm;have at_:∀i (hi:i<L'.length),(arrOf st)[i]?=some (Value.ref L'[i],Value.ref L'[i]):=λi hi=>by rw[<-Array.getElem?_toList,e,M5,M4 hi];rfl
 have l2:=p.length_eq;have a1:=at_ 1 (by simp[*]);have a0:=at_ 0 (by simp_all);rw[ltAt'_eq];refine wpS_bind (wpS_get ?_);show PyProof.Rows.wpS _ _ _ _ (elem' (arrOf st) 1 >>= λx=>elem' (arrOf st) 0 >>= λy=>lt' x y) Q st;rw[elem'_eq,elem'_eq,a1,a0];refine wpS_bind (wpS_pure (wpS_bind (wpS_pure ?_)));rw[lt'_eq];refine wpS_bind (wpS_get ?_);rw[B.kd];exact wpS_bind (wpS_lift (wpAny_attempt (DU (h _ (p.mem_iff.mp (OJ _))) (h _ (p.mem_iff.mp (OJ _))) λb=>⟨rfl,wpS_pure (q b)⟩)))
def z8 {a:Addr}{n:Nat}{L:List Addr}{P:Fin->Shared->Prop}(ho:s.heap.get? a=some (seqObj "list" (Y6 L).toArray n))(h:∀T∈L,Tq s.heap T)(hn:∀T∈L,T≠a)(h64:L.length<=2)
  (k:∀L':List Addr,L'.Perm L->P (.done (.ret .none)) { s with heap:=sortedHeap s.heap a (Y6 L) (Y6 L').toArray }):wpAny (model prog w) A (Builtin.«list.sort» ⟨[.ref a],[]⟩) P E s:=by
 rw[list_sort_plain];have sz:(Y6 L).toArray.size=L.length:=by simp
 refine MA (listItems_at ho rfl (MA (listUpdate_at ho rfl ?_ (by rw[sz,sizeLine_eq];lia))));obtain ⟨e1,o1⟩:∃e1,(s.heap.update a (Obj.mapSeq λ_=>#[])).get? a=some (seqObj "list" #[] e1):=⟨_,get?_update_seq ho (λ_=>#[])⟩;refine MA (seqEpoch_at o1 rfl (MA (wpAny_newTuple ?_ (by rw[NB,sz,sizeLine_eq];omega))));refine MA (wpAny_newList (NU ?_));have old:∀ {b o},(s.heap.update a (Obj.mapSeq λ_=>#[])).get? b=some o->(((s.heap.update a (Obj.mapSeq λ_=>#[])).push (seqObj "tuple" (Y6 L).toArray 0)).push (seqObj "list" #[] 0)).get? b=some o:=λe=>MB _ (MB _ e);have tp:∀T∈L,Tq (((s.heap.update a (Obj.mapSeq λ_=>#[])).push (seqObj "tuple" (Y6 L).toArray 0)).push (seqObj "list" #[] 0)) T:=λT hT=>(h T hT).kept λo e=>old ((NA _ _ (Ne.symm (hn T hT))).trans e);have o2:=old o1;have fin:∀st':SortSt,(arrOf st').Perm (pairsOf (Y6 L))->P (.done (.ret .none)) { s with heap:=sortedHeap s.heap a (Y6 L) ((arrOf st').map (·.2)) }:=λst' hp=>by
  obtain⟨L',p,e⟩:=uQ hp;have eo:Array.map (λx:Keyed=>x.2) (arrOf st')=(Y6 L').toArray:=by apply Array.toList_inj.mp;rw[Array.toList_map,e,N2];rfl
  rw[eo];exact k L' p
 show wpAny (model prog w) A _ P E { s with heap:=((s.heap.update a (Obj.mapSeq λ_=>#[])).push (seqObj "tuple" (Y6 L).toArray 0)).push (seqObj "list" #[] 0) };dsimp only;have ps:(pairsOf (Y6 L)).size=L.length:=by rw[pairsOf_size,MI]
 by_cases h2:(Y6 L).toArray.size<2
 ·rw[MK h2,MK h2];refine MA (MC ?_);rw[StateT.run_pure];refine MA (MC ?_);dsimp only;refine MA (seqEpoch_at o2 rfl (MA (listUpdate_at o2 rfl ?_ (hsz2:=by rw[Array.size_map];show (pairsOf (Y6 L)).size<=_;rw[ps,sizeLine_eq];omega))));simp only[bne_self_eq_false,Bool.false_eq_true,if_false];exact MC (fin (SortSt.mk' general' (pairsOf (Y6 L)) #[] 7 none) (Array.Perm.refl _))
 ·rw[MM h2,MM h2];have l2:L.length=2:=by omega
  obtain⟨T,Uq,rfl⟩:∃T Uq,L=[T,Uq]:=by
   match L,l2 with
   | [T,Uq],_=>exact⟨T,Uq,rfl⟩
  refine MA (zY (tp T (by simp)) (tp Uq (by simp)) ?_);refine MA (wpAny_mono (IE (s:={ s with heap:=((s.heap.update a (Obj.mapSeq λ_=>#[])).push (seqObj "tuple" (Y6 [T,Uq]).toArray 0)).push (seqObj "list" #[] 0) }) (K:=tuples' true) (a₀:=pairsOf (Y6 [T,Uq])) (st:=SortSt.mk' (tuples' true) (pairsOf (Y6 [T,Uq])) #[] 7 none)
   (Q:=λ_ t=>(arrOf t).Perm (pairsOf (Y6 [T,Uq]))/\failedOf t=none) (Cr tp rfl) ⟨Array.Perm.refl _,rfl,rfl,rfl⟩ ps λt a1 a2=>⟨a1,a2⟩) ?_ λ_ _ e=>e)
  rintro⟨⟨⟩,t⟩ s' ⟨rfl,hp,hfl⟩;dsimp only;refine MA (seqEpoch_at o2 rfl (MA (listUpdate_at o2 rfl ?_ (hsz2:=by rw[Array.size_map,hp.size_eq,ps,sizeLine_eq];show 2<=_;omega))));rw[hfl];simp only[bne_self_eq_false,Bool.false_eq_true,if_false];exact MC (fin t hp)
end
def D8 {h:Heap}{it t:Addr}{i:Nat}{x:Value}{o:Obj}{k:Nat}(e:h.get? it=some o)(hc:o.cls=.type "tuple_iterator")(hd:o.data=.fields #[.ref t,.int (i:Int) 0]) :
  (h.update it (Obj.mapFields λz=>z.setIfInBounds k x)).get? it=some (Obj.mapFields (λz=>z.setIfInBounds k x) o):=by
 refine M7 _ e ?_;obtain⟨c,d,da,sl⟩:=o;simp only at hc hd;subst hc hd;rfl
def uk (it t:Addr)(i:Nat)(items:Array Value)(x:Value):Meets (Builtin.«tuple_iterator.__next__» { pos:=[.ref it] }) λ_ R s =>
  s.heap.IsTupleIter it t i/\s.heap.IsTuple t items/\items[i]?=some x/\∀h',h'.IsTupleIter it t (i+1)->Heap.SameBut it s.heap h'->R (.ok (.ret x)) { s with heap:=h' }:=by
 intro prog w A R s ⟨⟨o,e,hc,hd⟩,⟨o2,e2,hc2,n,hd2⟩,hx,h⟩;refine MA (MC ?_);refine MA (wpAny_field (i:=0) e hd rfl ?_);refine MA (wpAny_field (i:=1) e hd rfl ?_);refine MA (wpAny_seqItems e2 hd2 ?_);show wpAny _ _ (match items[((i:Nat):Int).toNat]? with|some x=>_|none=>_) _ _ _;rw[NO,hx];refine MA (wpAny_setField e hd (OA 1) ?_);refine MC ?_;refine h _ ⟨_,D8 e hc hd,?_,?_⟩ (NW _ _ _)
 ·obtain⟨c,d,da,sl⟩:=o;simp only at hc hd;subst hc hd;rfl
 ·obtain⟨c,d,da,sl⟩:=o;simp only at hc hd;subst hc hd
  solve_by_elim
def Fc {α:Type}{M:Model}{A:Around}{E:Value->Shared->Prop}{s:Shared}{Q:α->Shared->Prop}(hh:A.handled=none)(h:∀h' e,(∀b o,s.heap.get? b=some o->h'.get? b=some o)->(∃o,h'.get? e=some o/\o.cls=.type "StopIteration")->E (.ref e) { s with heap:=h' }) :
  wpAny M A (Builtin.SmallTypes.stopIteration:Sem α) Q E s:=by
 refine MA ?_;refine MA (wpAny_newTuple ?_);refine MA (MC ?_);refine wpAny_newObj_type (wpAny_raiseNew_none hh ?_);refine h _ _ (λb o e=>MB _ (MB _ e)) ⟨_,MH _ rfl,rfl⟩
def wI (it t:Addr)(i:Nat)(items:Array Value):Meets (Builtin.«tuple_iterator.__next__» { pos:=[.ref it] }) λA R s =>
  A.handled=none/\s.heap.IsTupleIter it t i/\s.heap.IsTuple t items/\items[i]?=none/\∀h' e,Heap.ExtBut it s.heap h'->(∃o,h'.get? e=some o/\o.cls=.type "StopIteration")->R (.error (.ref e)) { s with heap:=h' }:=by
 intro prog w A R s ⟨hh,⟨o,e,hc,hd⟩,⟨o2,e2,hc2,n,hd2⟩,hx,h⟩;refine MA (MC ?_);refine MA (wpAny_field (i:=0) e hd rfl ?_);refine MA (wpAny_field (i:=1) e hd rfl ?_);refine MA (wpAny_seqItems e2 hd2 ?_);show wpAny _ _ (match items[((i:Nat):Int).toNat]? with|some x=>_|none=>_) _ _ _;rw[NO,hx];refine MA (wpAny_rule ?_);refine MA (wpAny_setField e hd (Tw 1) ?_);refine Fc hh λh' x k1 k2=>h h' x (λb o' hb eb=>k1 b o' ?_) k2;show (s.heap.update it _).get? b=some o';rw[Heap.get?_update_ne _ _ _ _ hb];exact eb
section
variable {prog:Program}{w:World}{A:Around}{E:Value->Shared->Prop}{s:Shared}{it t:Addr}{i:Nat}{items:Array Value}
def rZ {x:Value}{Q:Value->Shared->Prop}(hi:s.heap.IsTupleIter it t i)(ht:s.heap.IsTuple t items)(hx:items[i]?=some x)(h:∀h',h'.IsTupleIter it t (i+1)->Heap.SameBut it s.heap h'->Q x { s with heap:=h' }) :
  wpAny (model prog w) A (Builtin.SmallTypes.nextOf (.ref it)) Q E s:=by
 refine MA (wpAny_callSpecial?_slot hi.typeIs ON ?_);refine call_meets ON hi.typeIs F.entry_tuple_iterator_next (F.args_tuple_iterator_next_1 _) (uk it t i items x) ⟨hi,ht,hx,λh' k1 k2=>MC (h h' k1 k2)⟩
def uh {Q:Value->Shared->Prop}(hh:A.handled=none)(hi:s.heap.IsTupleIter it t i)(ht:s.heap.IsTuple t items)(hx:items[i]?=none)(h:∀h' e,Heap.ExtBut it s.heap h'->(∃o,h'.get? e=some o/\o.cls=.type "StopIteration")->E (.ref e) { s with heap:=h' }) :
  wpAny (model prog w) A (Builtin.SmallTypes.nextOf (.ref it)) Q E s:=by
 refine MA (wpAny_callSpecial?_slot hi.typeIs ON ?_);exact call_meets ON hi.typeIs F.entry_tuple_iterator_next (F.args_tuple_iterator_next_1 _) (wI it t i items) ⟨hh,hi,ht,hx,h⟩
end
def jK {h h':Heap}{it t:Addr}{i:Nat}(k:∀o,h.get? it=some o->h'.get? it=some o)(z:h.IsTupleIter it t i):h'.IsTupleIter it t i:=by obtain⟨o,e,r⟩:=z;exact⟨o,k o e,r⟩
def nB {h h':Heap}{t:Addr}{items:Array Value}(k:∀o,h.get? t=some o->h'.get? t=some o)(z:h.IsTuple t items):h'.IsTuple t items:=by obtain⟨o,e,r⟩:=z;exact⟨o,k o e,r⟩
section
variable {X:Cx}
end
structure Zs where
 it:Addr
 a:Addr
 xs:Array Value
def SrcAt (h:Heap)(q:Zs)(i:Nat):Prop:=h.IsTupleIter q.it q.a i/\h.IsTuple q.a q.xs
def SrcAt.keep {h h':Heap}{q:Zs}{i:Nat}(z:SrcAt h q i)(k1:∀o,h.get? q.it=some o->h'.get? q.it=some o)(k2:∀o,h.get? q.a=some o->h'.get? q.a=some o):SrcAt h' q i:=⟨jK k1 z.1,nB k2 z.2⟩
def SrcAt.obj {h:Heap}{q:Zs}{i:Nat}(z:SrcAt h q i):∃o vs,h.get? q.it=some o/\o.data=.fields vs:=let ⟨o,e,_,d⟩:=z.1;⟨o,_,e,d⟩
section
variable {prog:Program}{w:World}{A:Around}{E:Value->Shared->Prop}{s:Shared}{q:Zs}{i:Nat}
def Bu {x:Value}{Q:Value->Shared->Prop}(hne:q.a≠q.it)(h:SrcAt s.heap q i)(hx:q.xs[i]?=some x)(hQ:∀h',SrcAt h' q (i+1)->Heap.SameBut q.it s.heap h'->Q x { s with heap:=h' }):wpAny (model prog w) A (Builtin.SmallTypes.nextOf (.ref q.it)) Q E s:=by exact rZ h.1 h.2 hx λh' k1 k2=>hQ h' ⟨k1,nB (λo e=>by rw[k2.2 _ hne];exact e) h.2⟩ k2
def E5 {Q:Value->Shared->Prop}(hh:A.handled=none)(h:SrcAt s.heap q i)(hx:q.xs[i]?=none)(hE:∀h' e,Heap.ExtBut q.it s.heap h'->(∃o,h'.get? e=some o/\o.cls=.type "StopIteration")->E (.ref e) { s with heap:=h' }):wpAny (model prog w) A (Builtin.SmallTypes.nextOf (.ref q.it)) Q E s:=by exact uh hh h.1 h.2 hx hE
end
noncomputable abbrev eO (xs:List Value):Obj:={ cls:=.type "tuple",data:=.seq xs.toArray }
structure ZA (z TI TO:Addr)(ss:List Zs):Prop where
 nd:(z::TI::TO::ss.map Zs.it).Nodup
 ap:∀q∈ss,q.a ∉ z::TI::TO::ss.map Zs.it
section
variable {prog:Program}{w:World}{A:Around}{E:Value->Shared->Prop}{z TI TO:Addr}{i:Nat}
def FU (prog:Program)(w:World)(A:Around)(z TI TO:Addr)(f:Value × Nat->Option Fin × Unit->Sem (ForInStep (Option Fin × Unit))):Prop :=
 ∀(it:Addr) (k:Nat) (s:Shared) (R:ForInStep (Option Fin × Unit)->Shared->Prop) (E:Value->Shared->Prop),
  wpAny (model prog w) A (Builtin.SmallTypes.nextOf (.ref it)) (λx s1=>∃arr,s1.heap.get? TO=some (eO arr)/\arr.length<=sizeLine/\∀h',h'.get? TO=some (eO (arr.set k x))->Heap.SameBut TO s1.heap h'->R (.yield (none,())) { s1 with heap:=h' })
   (λe s1=>IsZip s1.heap z TI TO .ellipsis/\∀h',IsZip h' z TI TO .none->Heap.SameBut z s1.heap h'->E e { s1 with heap:=h' }) s ->
  wpAny (model prog w) A (f (.ref it,k) (none,())) R E s
def Ei {f:Value × Nat->Option Fin × Unit->Sem (ForInStep (Option Fin × Unit))}(hf:FU prog w A z TI TO f)(hh:A.handled=none):∀ {ss dn:List Zs}{dx arr:List Value}{s:Shared}{R:Option Fin × Unit->Shared->Prop},ZA z TI TO (dn++ss)->(dn++ss).length<=sizeLine ->
  dx.length=dn.length->arr.length=ss.length->IsZip s.heap z TI TO .ellipsis->s.heap.get? TO=some (eO (dx++arr))->(∀q∈dn,SrcAt s.heap q (i+1))->(∀q∈ss,SrcAt s.heap q i) ->
  (∀xs h',Paired (λ(q:Zs) (x:Value)=>q.xs[i]?=some x) ss xs->IsZip h' z TI TO .ellipsis->h'.get? TO=some (eO (dx++xs))->(∀q∈dn++ss,SrcAt h' q (i+1))->h'.objs.size=s.heap.objs.size->(∀c o,c ∉ TO::(dn++ss).map Zs.it->s.heap.get? c=some o->h'.get? c=some o)->R (none,()) { s with heap:=h' }) ->
  ((∃q∈ss,q.xs[i]?=none)->∀h' e,(∀c o,c ∉ z::TO::(dn++ss).map Zs.it->s.heap.get? c=some o->h'.get? c=some o)->(∃o,h'.get? e=some o/\o.cls=.type "StopIteration")->E (.ref e) { s with heap:=h' }) ->
  wpAny (model prog w) A (forIn ((ss.map λq=>Value.ref q.it).zipIdx dn.length) (none,()) f) R E s:=by
 intro ss
 induction ss with
 | nil =>intro dn dx arr s R ap hsz hl ha hz hTO h1 h2 hR _;have:arr=[]:=Rw.mp ha;subst this;exact MC (hR [] s.heap .nil hz hTO (by simpa using h1) rfl λc o _ e=>e)
 | cons q ss ih =>
  intro dn dx arr s R ap hsz hl ha hz hTO h1 h2 hR hE;cases arr with
  | nil=>simp at ha
  | cons b arr =>
  rw[M3,List.zipIdx_cons,OS];have nd:=ap.nd;have qm:q∈dn++q::ss:=by simp
  have im:q.it∈(dn++q::ss).map Zs.it:=MR.mpr ⟨q,qm,rfl⟩;have Qy:=ND.mp nd;have Qz:=ND.mp (ND.mp Qy.2).2;have zi:z≠q.it:=λe=>Qy.1 (by simp[e]);have ti:TO≠q.it:=λe=>Qz.1 (by rw[e];exact im);have zt:z≠TO:=λe=>Qy.1 (by simp[e]);have ni:=Qz.2;rw[NM,M3] at ni;have oth:∀p,p∈dn\/p∈ss->p.it≠q.it:=λp hp e=>by grind
  have TQ:∀p∈dn++q::ss,p.a≠q.it/\p.a≠TO:=λp hp=>⟨λe=>ap.ap p hp (by rw[e];simp),λe=>ap.ap p hp (by rw[e];simp)⟩;have tot:∀p∈dn++q::ss,p.it≠TO:=λp hp e=>Qz.1 (by rw[<-e];exact MR.mpr ⟨p,hp,rfl⟩);refine MA (hf q.it dn.length s _ _ ?_);cases hx:q.xs[i]? with
  | none =>
   refine E5 hh (h2 q (by simp)) hx λh' e k1 k2=>?_;have hz2:IsZip h' z TI TO .ellipsis:=k1 _ _ zi hz;obtain⟨oe,he,hc⟩:=k2;have ez:e≠z:=λz=>by subst z;rw[hz2] at he;cases he;simp at hc
   refine⟨hz2,λh'' _ k4=>hE ⟨q,by simp,hx⟩ h'' e (λc o hc e=>?_) ⟨oe,by rw[k4.2 e ez];exact he,hc⟩⟩;rw[k4.2 c (λz=>hc (by rw[z];simp))];exact k1 c o (λz=>hc (by rw[z];simp)) e
  | some x =>
   refine Bu (TQ q qm).1 (h2 q (by simp)) hx λh' k1 k2=>⟨dx++b::arr,by show h'.get? TO=_;rw[k2.2 TO ti];exact hTO,by rw[MS,hl,ha,<-MS];exact hsz,λh'' k3 k4=>?_⟩;have both:∀c o,c≠q.it->c≠TO->s.heap.get? c=some o->h''.get? c=some o:=λc o c1 c2 e=>by rw[k4.2 c c2];show h'.get? c=some o;rw[k2.2 c c1];exact e
   have e3:(dx++b::arr).set dn.length x=(dx++[x])++arr:=by rw[<-hl,P_ _ _ (MJ _),Q0];simp
   rw[e3] at k3;have ea:dn++q::ss=(dn++[q])++ss:=by simp
   show wpAny _ _ (forIn ((ss.map λq=>Value.ref q.it).zipIdx (dn.length+1)) (none,()) f) R E _;rw[show dn.length+1=(dn++[q]).length by simp];have out:∀ {c:Addr}{l:List Addr},c ∉ l++TO::(dn++q::ss).map Zs.it->c≠q.it/\c≠TO:=λh=>⟨λz=>h (by rw[z];simp),λz=>h (by rw[z];simp)⟩;refine ih (dn:=dn++[q]) (dx:=dx++[x]) (arr:=arr) (by rw[<-ea];exact ap) (by rw[<-ea];exact hsz) (by simp[hl]) (by simpa using ha) (both z _ zi zt hz) k3 (λp hp=>?_) (λp hp=>?_) (λxs h3 jp j1 j2 j3 j4 j5=>?_) λ⟨p,hp,hn⟩ h3 e j1 j2=>hE ⟨p,MD _ hp,hn⟩ h3 e (λc o hc e=>?_) j2
   ·rcases MN.mp hp with hp|hp
    ·exact(h1 p hp).keep (λo e=>both _ o (oth p (.inl hp)) (tot p (by simp[hp])) e) λo e=>both _ o (TQ p (by simp[hp])).1 (TQ p (by simp[hp])).2 e
    ·rw[MF] at hp;subst hp;exact k1.keep (λo e=>by rw[k4.2 _ (Ne.symm ti)];exact e) λo e=>by rw[k4.2 _ (TQ p qm).2];exact e
   ·exact(h2 p (by simp[hp])).keep (λo e=>both _ o (oth p (.inr hp)) (tot p (by simp[hp])) e) λo e=>both _ o (TQ p (by simp[hp])).1 (TQ p (by simp[hp])).2 e
   ·refine hR (x::xs) h3 (.cons hx jp) j1 (by rw[j2];simp) (by rw[ea];exact j3) (by rw[j4,k4.1];exact k2.1) λc o hc e=>?_;obtain⟨c1,c2⟩:=out (l:=[]) hc;rw[ea] at hc;exact j5 c o hc (both c o c1 c2 e)
   ·obtain⟨c1,c2⟩:=out (l:=[z]) hc;rw[ea] at hc;exact j1 c o hc (both c o c1 c2 e)
def ID {s:Shared}{xs:List Value}{k:Nat}{x:Value}{Q:Unit->Shared->Prop}(hT:s.heap.get? TO=some (eO xs))(hs:xs.length<=sizeLine)(h:∀h',h'.get? TO=some (eO (xs.set k x))->Heap.SameBut TO s.heap h'->Q () { s with heap:=h' }) :
  wpAny (model prog w) A (updateSeq TO λv=>v.setIfInBounds k x) Q E s:=by
 refine wpAny_updateSeq hT rfl (h _ ?_ (NW _ _ _)) (by assumption) (by simp;lia);rw[M7 _ hT rfl];simp[Obj.mapSeq]
def AM {s:Shared}{T:Addr}{Q:Unit->Shared->Prop}(hz:IsZip s.heap z TI TO .ellipsis)(h:∀h',IsZip h' z TI TO (rawInt T)->Heap.SameBut z s.heap h'->Q () { s with heap:=h' }):wpAny (model prog w) A (Builtin.SmallTypes.ownedTupleHandOut (.ref z) (.ref T)) Q E s:=by refine MA (wpAny_setField_rec hz (Tw _) λh1 k1 k2=>?_);have k1:IsZip h1 z TI TO (rawInt T):=k1;refine wpAny_setField_rec k1 (Nat.succ_lt_succ (Tw _)) λh2 k3 k4=>?_;exact h h2 k3 ⟨k4.1.trans k2.1,λc hc=>(k4.2 c hc).trans (k2.2 c hc)⟩
def Ce {s:Shared}{ss:List Zs}{arr:List Value}{Q:Fin->Shared->Prop}(hz:IsZip s.heap z TI TO .none)(hTI:s.heap.get? TI=some (eO (ss.map λq=>Value.ref q.it)))(hTO:s.heap.get? TO=some (eO arr))(hne:ss≠[])
  (h:∀f h',FU prog w A z TI TO f->IsZip h' z TI TO .ellipsis->Heap.SameBut z s.heap h'->wpAny (model prog w) A (forIn ((ss.map λq=>Value.ref q.it).zipIdx 0) (none,()) f) (λr s1=>r.1=none/\IsZip s1.heap z TI TO .ellipsis/\∃xs,s1.heap.get? TO=some (eO xs)/\xs.length<=sizeLine /\
   ∀h2,IsZip h2 z TI TO (rawInt s1.heap.objs.size)->h2.get? s1.heap.objs.size=some (eO xs)->h2.objs.size=s1.heap.objs.size+1->(∀c o,c≠z->s1.heap.get? c=some o->h2.get? c=some o)->Q (.done (.ret (.ref s1.heap.objs.size))) { s1 with heap:=h2 }) E { s with heap:=h' }) :
  wpAny (model prog w) A (Builtin.«zip.__next__» ⟨[.ref z],[]⟩) Q E s:=by
 have hemp:(ss.map λq=>Value.ref q.it).toArray.isEmpty=false:=by
  cases ss with
  | nil=>solve_by_elim
  | cons a b=>rfl
 refine MA (MC ?_);refine MA (wpAny_field (i:=2) hz rfl rfl ?_);refine MA (wpAny_field (i:=3) hz rfl rfl ?_);refine MA (wpAny_seqItems hTI rfl ?_);dsimp only;rw[hemp];simp only[Bool.false_eq_true,if_false];refine MA (MA (wpAny_field (i:=0) hz rfl rfl (MC ?_)));rw[MK rfl];refine MA (wpAny_rule ?_);refine MA (wpAny_field (i:=4) hz rfl rfl ?_);refine MA (wpAny_setField_rec hz (Tw _) λh1 k1 k2=>?_);refine MA (wpAny_mono (h _ h1 ?_ k1 k2) (λr s1 hr=>?_) λ_ _ e=>e)
 ·intro it k s2 R E2 hw;refine MA (wpAny_onRaise ?_);refine MA (m:=Builtin.SmallTypes.nextOf (.ref it)) (wpAny_mono hw (λx s3 hx=>?_) λe s3 he=>?_)
  ·obtain⟨arr,e1,e0,e2⟩:=hx;refine MC ?_;refine MA (wpAny_seqItems e1 rfl ?_);refine MA (ID e1 e0 λh' q1 q2=>?_);exact MA (wpAny_letGo (MC (e2 h' q1 q2)))
  ·exact wpAny_setField_rec he.1 (Tw _) λh' q1 q2=>he.2 h' q1 q2
 ·obtain⟨hn,z1,xs,t1,lx,q⟩:=hr;rw[hn];refine MA (wpAny_seqItems t1 rfl ?_);refine MA (wpAny_newTuple ?_ lx);have z2:IsZip (s1.heap.push (eO xs)) z TI TO .ellipsis:=MB _ z1;refine MA (AM (s:={ s1 with heap:=s1.heap.push (eO xs) }) z2 λh' q1 q2=>MC ?_);have nz:s1.heap.objs.size≠z:=λe=>absurd (MQ z1) (by simp_all);refine q h' q1 (by rw[q2.2 _ nz];exact MH _ rfl) (q2.1.trans (Ud _ _)) λc o hc e=>?_;rw[q2.2 c hc];exact MB _ e
def RG (z TI TO:Addr)(its:List Addr)(h:Heap):Prop:=IsZip h z TI TO .none/\h.get? TI=some (eO (its.map Value.ref))/\∃arr,arr.length=its.length/\h.get? TO=some (eO arr)
def HV {ss:List Zs}:(ss.map λq=>Value.ref q.it)=(ss.map Zs.it).map Value.ref:=by rw[N2];rfl
def AG {s:Shared}{ss:List Zs}{Q:Option Value->Shared->Prop}(hh:A.handled=none)(ap:ZA z TI TO ss)(hne:ss≠[])(hs:ss.length<=sizeLine)(hz:RG z TI TO (ss.map Zs.it) s.heap)(h1:∀q∈ss,SrcAt s.heap q i)
  (hQ:∀xs h' T,Paired (λ(q:Zs) (x:Value)=>q.xs[i]?=some x) ss xs->s.heap.objs.size<=T->IsZip h' z TI TO (rawInt T)->h'.get? TI=some (eO ((ss.map Zs.it).map Value.ref))->h'.get? TO=some (eO xs)->(∀q∈ss,SrcAt h' q (i+1))->h'.get? T=some (eO xs)->T ∉ z::TI::TO::ss.map Zs.it->(∀c o,c ∉ z::TI::TO::ss.map Zs.it->s.heap.get? c=some o->h'.get? c=some o)->Q (some (.ref T)) { s with heap:=h' })
  (hS:(∃q∈ss,q.xs[i]?=none)->∀h',(∀c o,c ∉ z::TI::TO::ss.map Zs.it->s.heap.get? c=some o->h'.get? c=some o)->Q none { s with heap:=h' }) :
  wpAny (model prog w) A (pyNext (.ref z)) Q E s:=by
 obtain⟨z1,t1,arr,la,t2⟩:=hz;have hT:s.TypeIs (.ref z) "zip":=⟨_,z1,rfl⟩;have nd:=ap.nd;have TIz:TI≠z:=λe=>(ND.mp nd).1 (by simp[e]);have TOz:TO≠z:=λe=>(ND.mp nd).1 (by simp[e]);have Oe:∀q∈ss,q.it≠z:=λq hq e=>(ND.mp nd).1 (by rw[<-e];simp;exact .inr (.inr ⟨q,hq,rfl⟩));have az:∀q∈ss,q.a≠z:=λq hq e=>ap.ap q hq (by rw[e];simp);have TIn:=(ND.mp (ND.mp nd).2).1;refine MA (wpAny_attempt (wpAny_callSpecial?_slot hT F.slot_zip_next (wpAny_call_entry F.slot_zip_next hT F.entry_zip_next ?_ (F.args_zip_next_1 _))));refine Ce (arr:=arr) z1 (by rw[HV];exact t1) t2 hne λf h1' hf k1 k2=>?_;have src:∀q∈ss,SrcAt h1' q i:=λq hq=>(h1 q hq).keep (λo e=>by rw[k2.2 _ (Oe q hq)];exact e) λo e=>by rw[k2.2 _ (az q hq)];exact e
 have sub:∀ {c:Addr},c∈z::TO::ss.map Zs.it->c∈z::TI::TO::ss.map Zs.it:=λh=>(MU.mp h).elim (λe=>by rw[e];simp) λh=>MD _ (MD _ h);refine Ei (A:=A.in1) (dn:=[]) (dx:=[]) (s:={ s with heap:=h1' }) hf hh ap hs rfl (by rw[la,MI]) k1 (by rw[k2.2 _ TOz];exact t2) (λq hq=>nomatch hq) src (λxs h2 hp j1 j2 j3 j4 j5=>?_) λhn h2 e j1 j2=>?_
 case refine_2 =>refine MA (wpAny_isInstance (T:="StopIteration") (b:=true) j2 isSubtype_stop (MC (hS hn h2 λc o hc e=>j1 c o (λz=>hc (sub z)) ?_)));rw[k2.2 c (λz=>hc (by rw[z];simp))];exact e
 have lp:=hp.length;refine⟨rfl,j1,xs,j2,by simp_all,λh3 m1 m2 m3 m4=>⟨_,rfl,MC ?_⟩⟩;have big:∀c o,s.heap.get? c=some o->c≠h2.objs.size:=λc o e z=>by
  have:=MQ e;rw[z,j4,k2.1] at this
  simp_all
 have all:∀c o,c ∉ z::TI::TO::ss.map Zs.it->s.heap.get? c=some o->h3.get? c=some o:=λc o hc e=>by
  refine m4 c o (λz=>hc (by rw[z];simp)) (j5 c o (λz=>hc ?_) ?_)
  ·solve_by_elim
  ·show h1'.get? c=some o;rw[k2.2 c (λz=>hc (by rw[z];simp))];exact e
 refine hQ xs h3 _ hp (by rw[j4,k2.1];simp) m1 ?_ (m4 _ _ TOz j2) (λq hq=>(j3 q hq).keep (λo e=>m4 _ o (Oe q hq) e) λo e=>m4 _ o (az q hq) e) m2 (λhm=>?_) all
 ·refine m4 _ _ TIz (j5 _ _ (λz=>TIn ?_) ?_)
  ·exact z
  ·show h1'.get? TI=_;rw[k2.2 _ TIz];exact t1
 ·simp only[List.mem_cons] at hm;rcases hm with e|e|e|e
  ·exact big z _ z1 e.symm
  ·exact big TI _ t1 e.symm
  ·exact big TO _ t2 e.symm
  ·obtain⟨q,hq,e⟩:=MR.mp e;obtain⟨o,_,eo,_⟩:=(h1 q hq).obj;exact big _ _ eo e
end
noncomputable def Rt (K:W.Frag)(cs:List Addr):L2.It :=
 ⟨λi H=>∃xss ys,Paired (ZC K H) cs xss/\Paired (λ(xs:List V) (y:V)=>xs[i]?=some y) xss ys,
  λi H v H'=>∃T,v=.ref T/\H T=none/\∀xss ys,Paired (ZC K H) cs xss->Paired (λ(xs:List V) (y:V)=>xs[i]?=some y) xss ys->H'=upd H T (.tup ys),
  λi H=>∃xss,Paired (ZC K H) cs xss/\∃xs∈xss,xs.length=i⟩
theorem mX {α β:Type}{F:α->β->Prop}:∀ {l:List α}{r:List β}{a:α},Paired F l r->a∈l->∃b∈r,F a b
 | _,_,_,.nil,h=>nomatch h
 | _,_,_,.cons f t,h=>by
  rcases MU.mp h with rfl|h
  ·solve_by_elim
  ·obtain⟨b,h1,h2⟩:=mX t h;exact⟨b,by simp[h1],h2⟩
theorem w4 {X:Cx}{pins:List (Addr × Obj)}{O:L2.St}{H:Hp}{s:Shared}{i:Nat}(I:L2.Inv X pins O H s):∀ {its:List Addr}{cs:List Addr}{xss:List (List V)},Paired (λit c=>s.heap.IsTupleIter it c i) its cs->Paired (ZC X.K H) cs xss ->
  ∃ss:List Zs,ss.map Zs.it=its/\ss.map Zs.a=cs/\(∀q∈ss,SrcAt s.heap q i)/\Paired (λ(q:Zs) (xs:List V)=>Vals xs q.xs.toList) ss xss
 | _,_,_,.nil,.nil=>⟨[],rfl,rfl,λq hq=>(nomatch hq),.nil⟩
 | _,_,_,.cons (a:=it) (b:=c) h1 t1,.cons (b:=xs) h2 t2=>by
  obtain⟨ss,e1,e2,e3,e4⟩:=w4 I t1 t2;obtain⟨S9,Oo,p1,hz1⟩:=I.tuple h2;refine⟨⟨it,c,S9.toArray⟩::ss,by simp_all,by simp_all,λq hq=>?_,.cons (by simp_all) e4⟩;rcases MU.mp hq with rfl|hq
  ·exact⟨h1,p1⟩
  ·exact e3 q hq
theorem vy {i:Nat}:∀ {ss:List Zs}{xss:List (List V)}{ys:List V},Paired (λ(q:Zs) (xs:List V)=>Vals xs q.xs.toList) ss xss->Paired (λ(xs:List V) (y:V)=>xs[i]?=some y) xss ys->∃us,Paired (λ(q:Zs) (x:Value)=>q.xs[i]?=some x) ss us/\Vals ys us
 | _,_,_,.nil,.nil=>⟨[],.nil,.nil⟩
 | _,_,_,.cons h1 t1,.cons h2 t2=>by obtain⟨us,e1,e2⟩:=vy t1 t2;obtain⟨u,e3,e4⟩:=h1.get h2;exact⟨u::us,.cons (by simpa using e3) e1,.cons e4 e2⟩
theorem Sw.inj {X:Cx}{pins:List (Addr × Obj)}{O:L2.St}{H:Hp}{s:Shared}(I:L2.Inv X pins O H s):∀ {cs:List Addr}{xss Pa:List (List V)},Paired (ZC X.K H) cs xss->Paired (ZC X.K H) cs Pa->xss=Pa
 | _,_,_,.nil,.nil=>rfl
 | _,_,_,.cons (a:=c) h1 t1,.cons h2 t2=>by rw[Sw.inj I t1 t2,I.Yc h1 h2]
theorem C7 {i:Nat}:∀ {xss:List (List V)}{ys zs:List V},Paired (λ(xs:List V) (y:V)=>xs[i]?=some y) xss ys->Paired (λ(xs:List V) (y:V)=>xs[i]?=some y) xss zs->ys=zs
 | _,_,_,.nil,.nil=>rfl
 | _,_,_,.cons h1 t1,.cons h2 t2=>by rw[C7 t1 t2];simp_all
def xk {i:Nat}{ss:List Zs}{xs:List Value}(h:Paired (λ(q:Zs) (x:Value)=>q.xs[i]?=some x) ss xs):¬ ∃q∈ss,q.xs[i]?=none:=λ⟨q,hq,e⟩=>by
 obtain⟨x,_,f⟩:=mX h hq
 simp_all
theorem vk {i:Nat}:∀ {ss:List Zs}{xs ys:List Value},Paired (λ(q:Zs) (x:Value)=>q.xs[i]?=some x) ss xs->Paired (λ(q:Zs) (x:Value)=>q.xs[i]?=some x) ss ys->xs=ys
 | _,_,_,.nil,.nil=>rfl
 | _,_,_,.cons h1 t1,.cons h2 t2=>by rw[vk t1 t2];simp_all
def zO {P:Program}{w:World}{K:W.Frag}{elts:List Expr}{kt:Nat}{pt:Pos}{z TI TO:Addr}{its:List Addr}{cs:List Addr}(nd:(z::TI::TO::its).Nodup)(ap:∀c∈cs,c ∉ z::TI::TO::its)(hne:its≠[])(hs:its.length<=100) :
  vJ P w K (.Tuple elts kt pt) (Rt K cs) (z::TI::TO::its) z (λi h=>RG z TI TO its h/\Paired (λit c=>h.IsTupleIter it c i) its cs) where
 mem:=by simp
 obj:=λi h st c hc=>by
  obtain⟨⟨h1,h2,arr,la,h3⟩,h4⟩:=st;simp only[List.mem_cons] at hc;rcases hc with rfl|rfl|rfl|hc
  ·simp_all
  ·simp_all
  ·simp_all
  ·obtain⟨d,_,e⟩:=mX h4 hc;obtain⟨o,e1,_,e2⟩:=e;exact⟨o,e1,λv z=>by simp_all⟩
 keep:=λi h h' st k=>by
  obtain⟨⟨h1,h2,arr,la,h3⟩,h4⟩:=st;refine⟨⟨k z (by simp) _ h1,k TI (by simp) _ h2,arr,la,k TO (by simp) _ h3⟩,?_⟩;have:∀ {l:List Addr}{r:List Addr},(∀x∈l,x∈its)->Paired (λit c=>h.IsTupleIter it c i) l r->Paired (λit c=>h'.IsTupleIter it c i) l r:=by
   intro l r hl hp
   induction hp with
   | nil=>exact .nil
   | cons f t ih=>exact .cons (jK (λo e=>k _ (by solve_by_elim) o e) f) (ih λx hx=>hl x (MD _ hx))
  solve_by_elim
 item:=by
  intro X hP hw hK hc i pins s O H E I hf st hg;subst hP hw hK;obtain⟨xss,ys,g1,g2⟩:=hg;obtain⟨hz,h4⟩:=st;obtain⟨ss,e1,e2,e3,e4⟩:=w4 I h4 g1;obtain⟨us,f1,f2⟩:=vy e4 g2;have za:ZA z TI TO ss:=⟨by rw[e1];exact nd,λq hq=>by rw[e1];exact ap q.a (by rw[<-e2];exact MR.mpr ⟨q,hq,rfl⟩)⟩
  have ssl:ss.length=its.length:=by rw[<-e1,MI]
  have line:(100:Nat)<=sizeLine:=by decide
  refine AG (i:=i) (ss:=ss) (I.ok.hd hc) za (λe=>hne (by rw[<-e1,e];rfl)) (by rw[ssl];exact MX hs line) (by rw[e1];exact hz) e3 (λxs h' T hp lT z1 t1 t2 s1 tT nT kk=>?_) λhn=>(xk f1 hn).elim;cases vk hp f1;rw[e1] at t1 nT kk;refine⟨_,rfl,wpAny_letOwnedTupleGo_zip (s:={ s with heap:=h' }) z1 λh'' z2 sb=>?_⟩;have nz:∀ {c:Addr},c∈TI::TO::its->c≠z:=λhc e=>(ND.mp nd).1 (by rw[<-e];exact hc);have Tz:T≠z:=λe=>nT (by rw[e];simp);have yl:ys.length<=100:=by rw[<-g2.length,<-g1.length,<-h4.length];exact hs
  have I2:L2.Inv X pins O (upd H T (.tup ys)) { s with heap:=h'' }:=En (t':=s.toks) (its:=us) (wr:=z::TI::TO::its) I (λb o hb e=>by rw[sb.2 b (λq=>hb (by rw[q];simp))];exact kk b o hb e) (λb hb=>hf b hb) lT f2 (MX yl line) ⟨_,by rw[sb.2 T Tz];exact tT,rfl,0,rfl⟩
  refine⟨.ref T,_,I2,rfl,⟨T,rfl,I.hok.fresh lT,λxss' ys' k1 k2=>?_⟩,⟨⟨z2,by rw[sb.2 TI (nz (by simp))];exact t1,us,?_,by rw[sb.2 TO (nz (by simp))];exact t2⟩,?_⟩,λb hb=>?_⟩
  ·have:=Sw.inj I k1 g1;subst this;rw[C7 k2 g2]
  ·rw[<-f1.length];exact ssl
  ·have go:∀ {l:List Zs},(∀q∈l,SrcAt h' q (i+1))->(∀q∈l,q.it≠z)->Paired (λit c=>h''.IsTupleIter it c (i+1)) (l.map Zs.it) (l.map Zs.a):=by
    intro l
    induction l with
    | nil=>intro _ _;exact .nil
    | cons q l ih =>intro k1 k2;exact .cons (jK (λo e=>by rw[sb.2 _ (k2 q MP)];exact e) (k1 q MP).1) (ih (λp hp=>k1 p (MD _ hp)) λp hp=>k2 p (MD _ hp))
   have:=go s1 λq hq=>nz (MD _ (MD _ (by rw[<-e1];exact MR.mpr ⟨q,hq,rfl⟩)));rw[e1,e2] at this;exact this
  ·have hlt:b<s.heap.objs.size:=by
    obtain⟨h1,h2,arr,la,h3⟩:=hz;simp only[List.mem_cons] at hb;rcases hb with rfl|rfl|rfl|hb
    ·exact MQ h1
    ·exact MQ h2
    ·exact MQ h3
    ·obtain⟨d,_,e⟩:=mX h4 hb;obtain⟨o,e,_⟩:=e;exact MQ e
   rw[bg (MV (ML hlt lT))];exact(hf b hb).1
 done:=by
  intro X hP hw hK hc i pins s O H E I hf st hg;subst hP hw hK;obtain⟨xss,g1,xs,gx,gl⟩:=hg;obtain⟨hz,h4⟩:=st;obtain⟨ss,e1,e2,e3,e4⟩:=w4 I h4 g1;have za:ZA z TI TO ss:=⟨by rw[e1];exact nd,λq hq=>by rw[e1];exact ap q.a (by rw[<-e2];exact MR.mpr ⟨q,hq,rfl⟩)⟩
  have ssl:ss.length=its.length:=by rw[<-e1,MI]
  have line:(100:Nat)<=sizeLine:=by decide
  have hn:∃q∈ss,q.xs[i]?=none:=by
   have:∀ {l:List Zs}{r:List (List V)},Paired (λ(q:Zs) (xs:List V)=>Vals xs q.xs.toList) l r->xs∈r->∃q∈l,q.xs[i]?=none:=by
    intro l r hp hx
    induction hp with
    | nil=>cases hx
    | @cons q ys l r f t ih =>
     rcases MU.mp hx with rfl|hx
     ·refine⟨q,MP,?_⟩;have:=f.length;exact Ry (by simp_all)
     ·obtain⟨p,h1,h2⟩:=ih hx;exact⟨p,MD _ h1,h2⟩
   exact this e4 gx
  refine AG (i:=i) (ss:=ss) (I.ok.hd hc) za (λe=>hne (by rw[<-e1,e];rfl)) (by rw[ssl];exact MX hs line) (by rw[e1];exact hz) e3 (λxs _ _ hp _ _ _ _ _ _ _ _=>(xk hp hn).elim) λ_ h' kk=>?_;rw[e1] at kk;exact⟨rfl,DC (t':=s.toks) I kk λb hb=>hf b hb⟩
 self:=λ_ _ _ _ _ st h=>wpAny_pyIter_zip st.1.1 h
section
variable {prog:Program}{w:World}{A:Around}{E:Value->Shared->Prop}
def JM {R:Array Value->Shared->Prop}:∀ {cs:List Addr}{acc:Array Value}{s:Shared},(∀c∈cs,∃xs,s.heap.IsTuple c xs) ->
  (∀h',h'.objs.size=s.heap.objs.size+cs.length->(∀b o,s.heap.get? b=some o->h'.get? b=some o)->Paired (λit c=>h'.IsTupleIter it c 0) (List.range' s.heap.objs.size cs.length) cs->R (acc++((List.range' s.heap.objs.size cs.length).map Value.ref).toArray) { s with heap:=h' }) ->
  wpAny (model prog w) A (forIn (cs.map λc=>Value.ref c) acc λx r=>do
   let v <-holding r.toList (pyIter x)
   pure (ForInStep.yield (r.push v))) R E s:=by
 intro cs
 induction cs with
 | nil =>intro acc s _ hR;exact MC (by simpa using hR s.heap rfl (λ_ _ e=>e) .nil)
 | cons c cs ih =>
  intro acc s hs hR;rw[M3,OS];obtain⟨xs,hx⟩:=hs c MP;refine MA (MA (NU (wpAny_pyIter_tuple hx (MC ?_))));generalize ho:s.heap.push _=g;refine ih (acc:=acc.push (.ref s.heap.objs.size)) (s:={ s with heap:=g }) (λd hd=>?_) λh' k1 k2 k3=>?_
  ·obtain⟨ys,hy⟩:=hs d (MD _ hd);exact⟨ys,nB (λo e=>by rw[<-ho];exact MB _ e) hy⟩
  ·have sz:g.objs.size=s.heap.objs.size+1:=by rw[<-ho];exact Ud _ _
   have k1:h'.objs.size=g.objs.size+cs.length:=k1;have k3:Paired (λit c=>h'.IsTupleIter it c 0) (List.range' g.objs.size cs.length) cs:=k3;rw[sz] at k1 k3;have:=hR h' (by rw[k1,NT];lia) (λb u e=>k2 b u (by rw[<-ho];exact MB _ e)) (by rw[NT,List.range'_succ];exact .cons ⟨_,k2 _ _ (by rw[<-ho];exact MH _ rfl),rfl,rfl⟩ k3)
   rw[NT,List.range'_succ] at this
   simp_all
def wU (cs:List Addr)(hl:cs.length<=100):Meets (Builtin.«zip.__new__» ⟨.type "zip"::cs.map (λc=>Value.ref c),[]⟩) λ_ R s=>(∀c∈cs,∃xs,s.heap.IsTuple c xs) /\
  ∀h',RG (s.heap.objs.size+cs.length+2) (s.heap.objs.size+cs.length) (s.heap.objs.size+cs.length+1) (List.range' s.heap.objs.size cs.length) h'->Paired (λit c=>h'.IsTupleIter it c 0) (List.range' s.heap.objs.size cs.length) cs->(∀b o,s.heap.get? b=some o->h'.get? b=some o)->R (.ok (.ret (.ref (s.heap.objs.size+cs.length+2)))) { s with heap:=h' }:=by
 intro prog w A R s ⟨h1,h⟩;have line:(100:Nat)<=sizeLine:=by decide
 refine MA ?_;refine MA (MC ?_);rw[sub_zip];refine MA (MC ?_);refine MC ?_;refine MA (m:=Builtin.SmallTypes.iterAll (cs.map λc=>Value.ref c)) ?_;refine MA (JM h1 λh' k1 k2 k3=>MC ?_);have e0:(#[]++((List.range' s.heap.objs.size cs.length).map Value.ref).toArray:Array Value).toList=(List.range' s.heap.objs.size cs.length).map Value.ref:=by simp
 rw[e0];have ln:((List.range' s.heap.objs.size cs.length).map Value.ref).length=cs.length:=by simp
 refine MA (wpAny_newTuple ?_ (by rw[ln];exact MX hl line));refine MA (wpAny_newTuple ?_ (by rw[MI,ln];exact MX hl line));refine MA (wpAny_newObj_type (T:="zip") (data:=.fields #[.none,.bool false,.bool false,.ref h'.objs.size,.ref (h'.push (eO ((List.range' s.heap.objs.size cs.length).map Value.ref))).objs.size]) ?_);have s1:(h'.push (eO ((List.range' s.heap.objs.size cs.length).map Value.ref))).objs.size=s.heap.objs.size+cs.length+1:=(Ud _ _).trans (by rw[k1]);have s2:((h'.push (eO ((List.range' s.heap.objs.size cs.length).map Value.ref))).push (eO (((List.range' s.heap.objs.size cs.length).map Value.ref).map λ_=>Value.none))).objs.size=s.heap.objs.size+cs.length+2:=(Ud _ _).trans (by rw[s1]);refine MC ?_;show R (.ok (.ret (.ref ((h'.push (eO ((List.range' s.heap.objs.size cs.length).map Value.ref))).push (eO (((List.range' s.heap.objs.size cs.length).map Value.ref).map λ_=>Value.none))).objs.size))) _;rw[s2];refine h _ ⟨?_,?_,((List.range' s.heap.objs.size cs.length).map Value.ref).map λ_=>Value.none,by simp,?_⟩ ?_ λb o e=>MB _ (MB _ (MB _ (k2 b o e)))
 ·rw[<-s2];have g:=MH ((h'.push (eO ((List.range' s.heap.objs.size cs.length).map Value.ref))).push (eO (((List.range' s.heap.objs.size cs.length).map Value.ref).map λ_=>Value.none))) (o:={ cls:=.type "zip",data:=.fields #[.none,.bool false,.bool false,.ref h'.objs.size,.ref (h'.push (eO ((List.range' s.heap.objs.size cs.length).map Value.ref))).objs.size] }) rfl;rw[k1,s1] at g;rw[k1,s1];exact g
 ·rw[<-k1];exact MB _ (MB _ (MH _ rfl))
 ·rw[<-s1];exact MB _ (MH _ rfl)
 ·have:∀ {l:List Addr}{r:List Addr},Paired (λit c=>h'.IsTupleIter it c 0) l r->∀ {g:Heap},(∀b o,h'.get? b=some o->g.get? b=some o)->Paired (λit c=>g.IsTupleIter it c 0) l r:=by
   intro l r hp g hg
   induction hp with
   | nil=>exact .nil
   | cons f t ih=>exact .cons (jK (λo e=>hg _ o e) f) ih
  exact this k3 λb o e=>MB _ (MB _ (MB _ e))
end
section
variable {prog:Program}{w:World}{A:Around}{E:Value->Shared->Prop}{s:Shared}
def Lh (cs:List Addr)(Q:Value->Shared->Prop)(s:Shared):Prop:=∀h',RG (s.heap.objs.size+cs.length+2) (s.heap.objs.size+cs.length) (s.heap.objs.size+cs.length+1) (List.range' s.heap.objs.size cs.length) h'->Paired (λit c=>h'.IsTupleIter it c 0) (List.range' s.heap.objs.size cs.length) cs->(∀b o,s.heap.get? b=some o->h'.get? b=some o) ->
 Q (.ref (s.heap.objs.size+cs.length+2)) { s with heap:=h' }
def zu {c1 c2:Addr}{Q:Value->Shared->Prop}(h1:∀c∈[c1,c2],∃xs,s.heap.IsTuple c xs)(h:Lh [c1,c2] Q s):wpAny (model prog w) A (call (.type "zip") [.ref c1,.ref c2]) Q E s:=by refine callType_new F.called_zip rfl (F.typeCall_zip_2 _ _) (F.newCall_zip_2 _ _) (λobj=>?_) F.entry_zip_new (wU [c1,c2] (NR rfl)) ⟨h1,λh' k1 k2 k3=>⟨⟨_,k1.1,rfl⟩,h h' k1 k2 k3⟩⟩;exact F.args_object_init_3 _ _ _
end
section
variable {X:Cx}{pins:List (Addr × Obj)}{O:L2.St}{H:Hp}{s:Shared}
def Sw.seq {c:Addr}{xs:List V}(I:L2.Inv X pins O H s)(h:ZC X.K H c xs):∃ys,s.heap.IsTuple c ys:=let ⟨_,_,p,_⟩:=I.tuple h;⟨_,p⟩
def D5 {N n b:Nat}(h:b∈(N+n+2)::(N+n)::(N+n+1)::List.range' N n):N<=b:=by grind
def Hs (N n:Nat):((N+n+2)::(N+n)::(N+n+1)::List.range' N n).Nodup:=by refine ND.mpr ⟨λh=>?_,ND.mpr ⟨λh=>?_,ND.mpr ⟨λh=>?_,List.nodup_range'⟩⟩⟩ <;> (simp only[List.mem_cons,List.mem_range'_1] at h;omega)
def EV {elts:List Expr}{kt:Nat}{pt:Pos}{cs:List Addr}{R:L2.It->Hp->Prop}(I:L2.Inv X pins O H s)(hs:∀c∈cs,∃xs,ZC X.K H c xs)(hn:cs≠[])(hl:cs.length<=100)(q:R (Rt X.K cs) H) :
  Lh cs (λv s1=>wpAny (model X.prog X.w) X.A (pyIter v) (PIE X pins O (.Tuple elts kt pt) R) X.xe s1) s:=by
 intro h' k1 k2 kk;refine wpAny_pyIter_zip k1.1 ?_;have nd:=Hs s.heap.objs.size cs.length;have big:∀b,b∈(s.heap.objs.size+cs.length+2)::(s.heap.objs.size+cs.length)::(s.heap.objs.size+cs.length+1)::List.range' s.heap.objs.size cs.length->s.heap.objs.size<=b:=λb hb=>D5 hb;refine⟨_,_,_,_,H,rfl,I.kept (t':=s.toks) kk,zO nd (λc hc hm=>?_) (λe=>hn ?_) (by simp_all),⟨k1,k2⟩,λb hb=>I.Xu (big b hb) (I.hok.fresh (big b hb)),q⟩
 ·obtain⟨xs,hx⟩:=hs c hc;obtain⟨ys,hy⟩:=Sw.seq I hx;obtain⟨_,hy,_⟩:=hy;exact absurd (ML (MQ hy) (big _ hm)) (OY _)
 simp_all
end
section
variable {X:Cx}
noncomputable def Kq (K:W.Frag)(ta:TA):TI:=λO H R=>ta O H λvs H1=>∃c d,vs=[.ref c,.ref d]/\(∀e∈[c,d],∃xs,ZC K H1 e xs)/\R (Rt K [c,d]) H1
def Jt {elts:List Expr}{kt:Nat}{pt:Pos}{a b:Expr}{ta:TA}{p pos:Pos}(hg:Gl X "zip")(hm:X.mg "zip"=none)(ha:PA X [a,b] ta)(hs:starEach [a,b] X.env=[(false,eval a X.env),(false,eval b X.env)])(hs2:starEach [b] X.env=[(false,eval b X.env)]) :
  PI X (.Tuple elts kt pt) (.Call (.Name "zip" p) [a,b] [] pos) (Kq X.K ta):=by
 intro pins s O H R I h;refine Call_ (lM I hg hm boot_zip (OF (ZP (ha pos pins s O H _ I h) λus s1 ⟨vs,H1,I1,r1,q1⟩=>?_) (by rw[hs,hs2]) (by rw[hs2];rfl)));obtain⟨c,d,e,hq,q⟩:=q1;subst e;obtain⟨u,v,rfl,ru,rv⟩:=jV r1;cases ru;cases rv;exact zu (λf hf=>let ⟨xs,hx⟩:=hq f hf;Sw.seq I1 hx) (EV I1 hq (by simp) (by simp) q)
end
def Bm {K:W.Frag}{m0:List Addr}{H0:Hp}{a b:Addr}{xs ys:List PV}{as bs:List V}(g1:ZC K H0 a as)(r1:Rs K m0 H0 xs as)(g2:ZC K H0 b bs)(r2:Rs K m0 H0 ys bs):nk K (Rt K [a,b]) (cG xs ys) (λ_=>True) m0 H0:=by
 refine⟨λm H st x r q=>?_,λi v m H st x r q ev=>?_⟩
 ·replace g1:=x.tup _ _ g1;replace g2:=x.tup _ _ g2;replace r1:=r1.mono x;replace r2:=r2.mono x;refine⟨[as,bs],.cons g1 (.cons g2 .nil),?_⟩;rw[iH,r1.len,r2.len];rcases Nat.le_total as.length bs.length with h|h
  ·exact⟨as,by simp,(QD h).symm⟩
  ·exact⟨bs,by simp,(Nat.min_eq_right h).symm⟩
 ·replace g1:=x.tup _ _ g1;replace g2:=x.tup _ _ g2;replace r1:=r1.mono x;replace r2:=r2.mono x;obtain⟨u,v',e1,e2,rfl⟩:=km ev;obtain⟨y1,f1,q1⟩:=r1.get e1;obtain⟨y2,f2,q2⟩:=r2.get e2;refine⟨⟨[as,bs],[y1,y2],.cons g1 (.cons g2 .nil),.cons f1 (.cons f2 .nil)⟩,?_⟩;rintro z H' ⟨T,rfl,hT,hh⟩;have:=hh _ _ (.cons g1 (.cons g2 .nil)) (.cons f1 (.cons f2 .nil));subst this;refine⟨Ext.ZG r hT,r.ZG hT,ZM.mpr ⟨T,[y1,y2],rfl,ZC.of bq,?_⟩⟩;rw[Z7,Z7,Z5];exact⟨q1.mono (Ext.ZG r hT),q2.mono (Ext.ZG r hT),rfl⟩
noncomputable def Pg (z:Str):L2.It:=⟨λi _=>i<z.cps.size,λi H x H'=>H'=H/\∃c,z.cps[i]?=some c/\x=.str ⟨#[c]⟩,λi _=>i=z.cps.size⟩
def nL {P:Program}{w:World}{K:W.Frag}{tg:Expr}{it:Addr}{z:Str}{t:Tok}{nm:String}(hW:∀A:Around,A.handled=none->Walks P w A it [it] [it] z.cps.size (SignAt z) (λi h=>h.IsStrIter it nm z t i))
  (hn:["enumerate","zip","dict_itemiterator","dict_reverseitemiterator","odict_iterator","itertools.zip_longest","itertools.pairwise"].contains nm=false) (hS:∀(A:Around) (i:Nat) (s:Shared) (Q:Value->Shared->Prop) (E:Value->Shared->Prop),s.heap.IsStrIter it nm z t i->Q (.ref it) s->wpAny (model P w) A (pyIter (.ref it)) Q E s):vJ P w K tg (Pg z) [it] it (λi h=>h.IsStrIter it nm z t i) where
 mem:=by simp
 obj:=λi h st b hb=>by
  have e:b=it:=by simpa using hb
  subst e;obtain⟨o,e,c,d⟩:=st;exact⟨o,e,λv z=>by simp_all⟩
 keep:=λi h h' st k=>by obtain⟨o,e,r⟩:=st;exact⟨o,k it (by simp) o e,r⟩
 item:=by intro X hP hw hK hc i pins s O H E I hf st hg;subst hP hw hK;obtain⟨f0,f1,f2,f3,f4,f5⟩:=hf it (by simp);refine(hW X.A (I.ok.hd hc)).item i s _ _ hg st λv h' tk hv st' kk=>?_;obtain⟨c,u,ec,rfl⟩:=hv;have I1:L2.Inv X pins O H { s with heap:=h',toks:=tk }:=I.turned (λb o hb e=>kk b o (by simpa using hb) e) f0 f1 f3 f4 f5;obtain⟨o,e,cc,d⟩:=id st';exact⟨_,rfl,vq (s:={ s with heap:=h',toks:=tk }) e cc d hn ⟨.str ⟨#[c]⟩,H,I1,⟨u,rfl⟩,⟨rfl,c,ec,rfl⟩,st',λb hb=>(hf b hb).1⟩⟩
 done:=by intro X hP hw hK hc i pins s O H E I hf st hg;subst hP hw hK;have hg:i=z.cps.size:=hg;subst hg;obtain⟨f0,f1,f2,f3,f4,f5⟩:=hf it (by simp);exact(hW X.A (I.ok.hd hc)).done s _ _ st λh' tk kk=>⟨rfl,I.turned (λb o hb e=>kk b o (by simpa using hb) e) f0 f1 f3 f4 f5⟩
 self:=hS
def wu {K:W.Frag}{m0:List Addr}{H0:Hp}{z:Str}:nk K (Pg z) (bB z) (λ_=>True) m0 H0:=by
 refine⟨λm H st x r q=>by show (bB z).length=z.cps.size;simp[bB],λi v m H st x r q ev=>?_⟩;unfold bB at ev;rw[M5] at ev;cases e:z.cps.toList[i]? with
 | none=>simp_all
 | some c =>
  rw[e] at ev;cases ev;have e':z.cps[i]?=some c:=by simpa using e
  refine⟨(N8.mp e').1,?_⟩;rintro y H' ⟨rfl,c',e2,rfl⟩;rw[e'] at e2;cases e2;exact⟨Ext.refl _ _ _,r,Z8.mpr rfl⟩
section
variable {X:Cx}{tg:Expr}
noncomputable def Jf (te:TE):TI:=λO H R=>te O H λx H1=>∃z,x=.str z/\R (Pg z) H1
def C_ {e:Expr}{te:TE}(he:PE X e te):PI X tg e (Jf te):=by
 intro pins s O H R I h;refine ZP (he pins s O H _ I h) λv s1 ⟨x,H1,I1,r1,q1⟩=>?_;obtain⟨z,e,q⟩:=q1;subst e;obtain⟨t,rfl⟩:=r1;have fin:∀b,b∈[s1.heap.objs.size]->ik X pins H1 b:=λb hb=>by
  have e:b=s1.heap.objs.size:=by simpa using hb
  subst e;exact I1.Xu (MJ _) (I1.hok.fresh (MJ _))
 cases ha:z.cps.all (·< 128)
 ·exact wpAny_pyIter_wide ha ⟨_,_,_,_,H1,rfl,I1.kept (t':=s1.toks) λb o e=>MB _ e,nL (nm:="str_iterator") (λA hA=>Walks.strWide hA _ z t) (by decide) (λ_ _ _ _ _ st h=>wpAny_pyIter_striter_wide st h),⟨_,MH _ rfl,rfl,rfl⟩,fin,q⟩
 ·exact wpAny_pyIter_ascii ha ⟨_,_,_,_,H1,rfl,I1.kept (t':=s1.toks) λb o e=>MB _ e,nL (nm:="str_ascii_iterator") (λA hA=>Walks.strAscii hA _ z t) (by decide) (λ_ _ _ _ _ st h=>wpAny_pyIter_striter_ascii st h),⟨_,MH _ rfl,rfl,rfl⟩,fin,q⟩
noncomputable def Ij (lo k:Int)(n:Nat):L2.It:=⟨λi _=>i<n,λi H x H'=>H'=H/\x=.int (lo+i*k),λi _=>n<=i⟩
def DW {P:Program}{w:World}{K:W.Frag}{it:Addr}{lo k:Int}{n:Nat}:vJ P w K tg (Ij lo k n) [it] it (λi h=>IsRangeIter h it (lo+(i:Nat)*k) ((n:Int)-(i:Nat)) k) where
 mem:=by simp
 obj:=λi h st b hb=>by
  simp_all
 keep:=λi h h' st k=>k it (by simp) _ st
 item:=by intro X hP hw hK hc i pins s O H E I hf st hg;subst hP hw hK;obtain⟨f0,f1,f2,f3,f4,f5⟩:=hf it (by simp);have W:=Walks.range (prog:=X.prog) (w:=X.w) (I.ok.hd hc) it lo k n;refine W.item i s _ _ hg st λv h' tk hv st' kk=>?_;obtain⟨t,rfl⟩:=hv;have I1:L2.Inv X pins O H { s with heap:=h',toks:=tk }:=I.turned (λb o hb e=>kk b o (by simpa using hb) e) f0 f1 f3 f4 f5;exact ⟨_,rfl,vq (s:={ s with heap:=h',toks:=tk }) (n:="range_iterator") st' rfl rfl (by decide) ⟨.int (lo+i*k),H,I1,⟨t,rfl⟩,⟨rfl,rfl⟩,st',λb hb=>(hf b hb).1⟩⟩
 done:=by intro X hP hw hK hc i pins s O H E I hf st hg;subst hP hw hK;obtain⟨f0,f1,f2,f3,f4,f5⟩:=hf it (by simp);exact wpAny_pyNext_range_end (I.ok.hd hc) st (by have:n<=i:=hg;lia) λh' eb=>⟨rfl,I.turned (t':=s.toks) (λb o hb e=>eb b o hb e) f0 f1 f3 f4 f5⟩
 self:=λ_ _ _ _ _ st h=>wpAny_pyIter_rangeiter st h
def DO {K:W.Frag}{m0:List Addr}{H0:Hp}{lo k:Int}{n:Nat}:nk K (Ij lo k n) (gR lo k n) (λ_=>True) m0 H0:=by
 refine⟨λm H st x r q=>by show n<=_;simp[gR],λi v m H st x r q ev=>?_⟩;unfold gR at ev;rw[M5] at ev;have hi:i<n:=by
  by_cases hi:i<n
  ·exact hi
  ·simp_all
 rw[QF hi] at ev;cases ev;refine⟨hi,λz H' ⟨e2,e3⟩=>?_⟩;subst e2 e3;exact⟨Ext.refl _ _ _,r,Z9.mpr rfl⟩
noncomputable def K' (ta:TA):TI:=λO H R=>ta O H λvs H1=>∃i j k:Int,vs=[.int i,.int j,.int k]/\(-(2 ^ 62)<=i/\i<2 ^ 62/\-(2 ^ 62)<=j/\j<2 ^ 62/\0<k/\k<2 ^ 62)/\R (Ij i k (Wz i j k)) H1
def CG {i j k:Int}(h:-(2 ^ 62)<=i/\i<2 ^ 62/\-(2 ^ 62)<=j/\j<2 ^ 62/\0<k/\k<2 ^ 62):Builtin.Range.rangeSize i j k=(Wz i j k:Nat)/\Builtin.Range.small i j k=true:=by
 have e:Builtin.Range.rangeSize i j k=(Wz i j k:Nat):=by
  unfold Builtin.Range.rangeSize Wz;rw[MK h.2.2.2.2.1];split
  ·have:0<=(j-i-1)/k:=Q3 (by lia) (by omega);grind
  ·rfl
 have b:(Wz i j k:Int)<2 ^ 63:=by
  unfold Wz;split
  ·have h0:0<=(j-i-1)/k:=Q3 (by omega) (by omega);have h1:(j-i-1)/k<=j-i-1:=Int.ediv_le_self _ (by omega)
   lia
  ·decide
 refine⟨e,?_⟩;unfold Builtin.Range.small;rw[e];simp[Builtin.Range.rangeFitsLong];rw[MK h.2.2.2.2.1];omega
def log2_lt {d:Nat}(h:d<2 ^ 63):d.log2<63:=by
 by_cases h0:d=0
 ·simp_all
 ·exact(QR h0).mpr h
def zd {a b c:Expr}{ta:TA}{p pos:Pos}(hg:Gl X "range")(hm:X.mg "range"=none)(ha:PA X [a,b,c] ta)(hs:starEach [a,b,c] X.env=[(false,eval a X.env),(false,eval b X.env),(false,eval c X.env)])(hs2:starEach [b,c] X.env=[(false,eval b X.env),(false,eval c X.env)]) :
  PI X tg (.Call (.Name "range" p) [a,b,c] [] pos) (K' ta):=by
 intro pins s O H R I h;refine Call_ (lM I hg hm boot_range (OF (ZP (ha pos pins s O H _ I h) λus s1 ⟨vs,H1,I1,r1,q1⟩=>?_) (by rw[hs,hs2]) (by rw[hs2];rfl)));obtain⟨i,j,k,e,h1,q⟩:=q1;subst e;cases r1 with
 | cons r rr =>
  cases rr with
  | cons r' rr =>
   cases rr with
   | cons r'' rr =>
   cases rr;obtain⟨t,rfl⟩:=r;obtain⟨t',rfl⟩:=r';obtain⟨t'',rfl⟩:=r'';obtain⟨e0,e1⟩:=CG h1;refine call_range_3 (by omega) ?_ (.inl (PY (U3 (log2_lt (d:=k.natAbs) (by omega)) (by decide))));refine wpAny_pyIter_range (IsRange.new ..) e1 ?_;have I2:L2.Inv X pins O H1 { s1 with heap:=s1.heap.push { cls:=.type "range",data:=.fields #[.int i t,.int j t',.int k t''] } }:=I1.kept (t':=s1.toks) λb o e=>MB _ e;refine⟨_,[_],_,_,H1,rfl,I2.kept (t':=s1.toks) λb o e=>MB _ e,DW (lo:=i) (k:=k) (n:=Wz i j k),?_,λb hb=>?_,q⟩
   ·have:=MH (s1.heap.push { cls:=.type "range",data:=.fields #[.int i t,.int j t',.int k t''] }) (o:={ cls:=.type "range_iterator",data:=.fields #[rawInt i,rawInt (Builtin.Range.rangeSize i j k),rawInt k] }) rfl;show IsRangeIter _ _ (i+((0:Nat):Int)*k) ((Wz i j k:Int)-((0:Nat):Int)) k;rw[show i+((0:Nat):Int)*k=i by simp,show (Wz i j k:Int)-((0:Nat):Int)=Builtin.Range.rangeSize i j k by solve_by_elim];exact this
   ·rw[MF] at hb;subst hb;exact I2.Xu (MJ _) (I2.hok.fresh (MJ _))
end
section
variable {X:Cx}
noncomputable def xG (z y:Str):List V :=
 match Builtin.Str.occurrences z y 0 z.length 1 with
 | i::_=>[.str (Builtin.Str.strSub z 0 i),.str y,.str (Builtin.Str.strSub z (i+y.length) z.length)]
 | []=>[.str z,.str Str.empty,.str Str.empty]
def IW {K:W.Frag}{m:List Addr}{H:Hp}{z y:Str}:Rs K m H (l_ z y) (xG z y):=by
 unfold l_ xG;cases Builtin.Str.occurrences z y 0 z.length 1 with
 | nil=>show Rs K m H [_,_,_] [_,_,_];simp only[Z7,Z5,Z8,and_self]
 | cons i r=>show Rs K m H [_,_,_] [_,_,_];simp only[Z7,Z5,Z8,and_self]
def DQ:Wk X "str.partition" (λx vs H Q=>∃z y,x=.str z/\vs=[.str y]/\(y.length == 0)=false/\z.length<=100000/\∀p,H p=none->Q (.ref p) (upd H p (.tup (xG z y)))):=by
 intro pins s O H x vs v us Q I rx rv h;obtain⟨z,y,rfl,rfl,h1,h2,q⟩:=h;obtain⟨t,rfl⟩:=rx;obtain⟨u,rfl,t',rfl⟩:=cC rv;refine call_meets F.slot_str_partition (typeIs_str _ _ _) F.entry_str_partition (F.args_str_partition_2 _ _) (meets_str_partition z y t t' h1 (eT h2)) ?_;have hf:H s.heap.objs.size=none:=I.hok.fresh (MJ _);have q:=q _ hf;unfold xG at q;revert q;cases Builtin.Str.occurrences z y 0 z.length 1 with
 | nil=>exactλq=>⟨.ref s.heap.objs.size,_,I.laid (t':=s.toks+1) (o:=.tup [.str z,.str Str.empty,.str Str.empty]) (λb u e=>MB _ e) (MJ _) ⟨by show 3<=sizeLine;decide,[_,_,_],.cons ⟨_,rfl⟩ (.cons ⟨_,rfl⟩ (.cons ⟨_,rfl⟩ .nil)),⟨_,MH _ rfl,rfl,_,rfl⟩⟩,rfl,q⟩
 | cons i r=>exactλq=>⟨.ref s.heap.objs.size,_,I.laid (t':=s.toks+1+1) (o:=.tup [.str (Builtin.Str.strSub z 0 i),.str y,.str (Builtin.Str.strSub z (i+y.length) z.length)]) (λb u e=>MB _ e) (MJ _) ⟨by show 3<=sizeLine;decide,[_,_,_],.cons ⟨_,rfl⟩ (.cons ⟨_,rfl⟩ (.cons ⟨_,rfl⟩ .nil)),⟨_,MH _ rfl,rfl,_,rfl⟩⟩,rfl,q⟩
theorem qC:∀ {ss:List Str}{us:List Value},Vals (ss.map V.str) us->∃l:List (Str × Tok),us=strValues l/\l.map (·.1)=ss
 | [],us,r=>by cases r;solve_by_elim
 | z::ss,us,r=>by
  cases r with
  | cons a b =>obtain⟨t,rfl⟩:=a;obtain⟨l,rfl,e⟩:=qC b;exact⟨(z,t)::l,rfl,by simp_all⟩
def DS:Wk X "str.join" (λx vs H Q=>∃y l ss,x=.str y/\vs=[.ref l]/\Zr X.K H l (ss.map V.str)/\JoinOk y ss=true/\Q (.str (Txt.join y ss)) H):=by intro pins s O H x vs v us Q I rx rv h;obtain⟨y,l,ss,rfl,rfl,h1,h2,q⟩:=h;obtain⟨t,rfl⟩:=rx;obtain⟨u,rfl,ru⟩:=cC rv;cases ru;obtain⟨its,ri,pl,_⟩:=I.list h1;obtain⟨ts,rfl,e⟩:=qC ri;exact SC.join pl.isList e h2 λt' k=>⟨.str _,H,I.tok k,⟨t',rfl⟩,q⟩
def A7:Wk X "str.strip" (λx vs H Q=>∃z y,x=.str z/\vs=[.str y]/\z.length<=100000/\Q (.str (Txt.stripChars z y)) H):=by intro pins s O H x vs v us Q I rx rv h;obtain⟨z,y,rfl,rfl,hz,q⟩:=h;obtain⟨t,rfl⟩:=rx;obtain⟨u,rfl,t',rfl⟩:=cC rv;exact SC.stripChars (λt' k=>⟨.str _,H,I.tok k,⟨t',rfl⟩,q⟩) (MX hz (by decide))
theorem pZ:∀(l:List (Str × Tok)),Vals ((l.map (·.1)).map V.str) (strValues l)
 | []=>.nil
 | (z,t)::l=>.cons ⟨t,rfl⟩ (pZ l)
def By:Wk X "str.split" (λx vs H Q=>∃z y,x=.str z/\vs=[.str y]/\(y.length == 0)=false/\z.length<=sizeLine/\(Txt.split z y).length<=sizeLine/\∀p,H p=none->Q (.ref p) (upd H p (.lst ((Txt.split z y).map V.str)))):=by
 intro pins s O H x vs v us Q I rx rv h;obtain⟨z,y,rfl,rfl,hy,h1,h2,q⟩:=h;obtain⟨t,rfl⟩:=rx;obtain⟨u,rfl,t',rfl⟩:=cC rv;have hf:H s.heap.objs.size=none:=I.hok.fresh (MJ _);have q:=q _ hf;unfold Txt.split at q h2;cases e1:(decide (z.length<y.length) || decide (Builtin.Str.strKind z<Builtin.Str.strKind y))
 ·rw[e1,MM ME] at q h2;cases e2:(Builtin.Str.occurrences z y 0 z.length (z.length+1)).isEmpty
  ·rw[e2,MM ME] at q h2;refine call_meets QY (typeIs_str _ _ _) QT (QN _ _) (meets_str_split_sep z y t t' e1 hy e2 h1 h2) ?_;rw[strsFrom_eq];have r:=pZ (numbered s.toks (Builtin.Str.partsBetween z (Builtin.Str.occurrences z y 0 z.length (z.length+1)) y.length));rw[numbered_texts] at r;exact⟨.ref s.heap.objs.size,_,I.laid (o:=.lst ((Builtin.Str.partsBetween z (Builtin.Str.occurrences z y 0 z.length (z.length+1)) y.length).map V.str)) (λb u e=>MB _ e) (MJ _) ⟨by simp_all,_,_,r,MH _ rfl⟩,rfl,q⟩
  ·rw[e2,MK rfl] at q;refine call_meets QY (typeIs_str _ _ _) QT (QN _ _) (meets_str_split_not_found z y t t' e1 hy e2) ?_;exact⟨.ref s.heap.objs.size,_,I.laid (t':=s.toks) (o:=.lst [V.str z]) (λb u e=>MB _ e) (MJ _) ⟨by show 1<=sizeLine;decide,[_],_,.cons ⟨t,rfl⟩ .nil,MH _ rfl⟩,rfl,q⟩
 ·rw[e1,MK rfl] at q;refine call_meets QY (typeIs_str _ _ _) QT (QN _ _) (meets_str_split_cannot_occur z y t t' e1) ?_;exact⟨.ref s.heap.objs.size,_,I.laid (t':=s.toks) (o:=.lst [V.str z]) (λb u e=>MB _ e) (MJ _) ⟨by show 1<=sizeLine;decide,[_],_,.cons ⟨t,rfl⟩ .nil,MH _ rfl⟩,rfl,q⟩
def Cg:Wk X "str.join" (λx vs H Q=>∃y l z,x=.str y/\vs=[.ref l]/\H l=some (.lst [.str z])/\z.length<=100000/\y.length=0/\Q (.str z) H):=by intro pins s O H x vs v us Q I rx rv h;obtain⟨y,l,z,rfl,rfl,h1,h2,h3,q⟩:=h;obtain⟨t,rfl⟩:=rx;obtain⟨u,rfl,ru⟩:=cC rv;cases ru;obtain⟨zz,its,n,r,hl,e⟩:=I.Xw h1;obtain⟨u1,rfl,t1,rfl⟩:=cC r;refine call_meets F.slot_str_join (typeIs_str _ _ _) F.entry_str_join (F.args_str_join_2 _ _) (meets_str_join_list y t l [(z,t1)] ?_) ⟨⟨_,e,rfl,_,rfl⟩,⟨.str z,H,I,⟨t1,rfl⟩,q⟩⟩;show Builtin.Str.tooLong (0+z.length+y.length)=false;rw[h3];unfold Builtin.Str.tooLong;exact M8 (by rw[sizeLine_eq];lia)
def AY {v:Value}:slicePick #[v] none none (some (-1))=#[v]:=by
 have e:sliceRange (sliceBounds none none (some (-1)) (#[v]:Array Value).size).1 (sliceBounds none none (some (-1)) (#[v]:Array Value).size).2.1 (sliceBounds none none (some (-1)) (#[v]:Array Value).size).2.2=[0]:=by show sliceRange (sliceBounds none none (some (-1)) 1).1 (sliceBounds none none (some (-1)) 1).2.1 (sliceBounds none none (some (-1)) 1).2.2=[0];decide
 unfold slicePick;rw[e];rfl
def DZ {e st:Expr}{te:TE}{ts:TE}{p2 pos:Pos}(he:PE X e te)(hs:PE X st ts)(h1:∀ {O H Q},Q (.int (-1)) H->ts O H Q) :
  PE X (.Subscript e (.Slice none none (some st) p2) pos) (λO H Q=>te O H λx H1=>∃a v,x=.ref a/\H1 a=some (.lst [v])/\∀p,H1 p=none->Q (.ref p) (upd H1 p (.lst [v]))):=by
 intro pins s O H Q I h;refine Subscript_ (ZP (he pins s O H _ I h) λv s1 ⟨x,H1,I1,r1,q1⟩=>?_);refine wpAny_Slice ?_;rw[evalPart_none];refine MC ?_;rw[evalPart_some];refine MC ?_;refine ZP (hs pins s1 O H1 (λy H2=>H2=H1/\y=.int (-1)) I1 (h1 ⟨rfl,rfl⟩)) λu s3 ⟨y,H3,I3,r3,e1,e2⟩=>?_;subst e1 e2;obtain⟨t3,rfl⟩:=r3;obtain⟨a,v0,rfl,ha,q⟩:=q1;cases r1;obtain⟨zz,its,n,r,hl,eo⟩:=I3.Xw ha;obtain⟨u1,rfl,ru⟩:=cC r;have I4:L2.Inv X pins O H3 { s3 with heap:=s3.heap.push { cls:=.type "slice",data:=.fields #[.none,.none,.int (-1) t3] } }:=I3.kept (t':=s3.toks) λb ob q=>MB _ q;obtain⟨_,its4,n4,r4,hl4,eo4⟩:=I4.Xw ha;obtain⟨u4,rfl,ru4⟩:=cC r4;have hL:({ s3 with heap:=s3.heap.push { cls:=.type "slice",data:=.fields #[.none,.none,.int (-1) t3] } }:Shared).heap.IsList a [u4].toArray:=⟨_,eo4,rfl,_,rfl⟩;show wpAny (model X.prog X.w) X.A (subscriptTail e (.Slice none none (some st) p2) (.ref a) (.ref s3.heap.objs.size)) (EP X pins O Q) X.xe { s3 with heap:=s3.heap.push { cls:=.type "slice",data:=.fields #[.none,.none,.int (-1) t3] } };refine tail_any (ops:=[.ref a,.ref s3.heap.objs.size]) hL.typeIs slot_list_getitem.lookup ?_ (by solve_by_elim);refine wpAny_getItem_list_slice hL (QI ..) .none .none (.int (-1) t3) (by simp) ?_ (by assumption);rw[AY];refine⟨.ref _,_,I4.laid (t':=s3.toks) (o:=.lst [v0]) (λb ob q=>MB _ q) (MJ _) ?_,rfl,q _ (I4.hok.fresh (MJ _))⟩;exact⟨by assumption,[u4],0,.cons ru4 .nil,MH _ rfl⟩
end
noncomputable def fH (env:Env):List (Str × NameKind)->List (Str × Addr)->List (Str × Addr)
 | [],cs=>cs
 | (x,k)::r,cs=>fH env r (if k == .free then (x,(env.cells.lookup x).getD 0)::cs else cs)
def wV {scope:Scope}{env:Env}(h:∀y∈scope.names,y.2=.free->∃c,env.cells.lookup y.1=some c):closureFor scope env=pure (fH env scope.names []):=by
 have key:∀(names:List (Str × NameKind)) (cs:List (Str × Addr)),(∀y∈names,y.2=.free->∃c,env.cells.lookup y.1=some c) ->
   (forIn names cs λ(x:Str × NameKind) (r:List (Str × Addr))=>(match x with
    | (name,kind)=>if (kind == NameKind.free)=true then (do let a <-cellOf env name;pure (ForInStep.yield ((name,a)::r)):Sem _) else pure (ForInStep.yield r)))=(pure (fH env names cs):Sem _):=by
  intro names
  induction names with
  | nil=>intro cs _;rfl
  | cons y r ih =>
   intro cs hy;obtain⟨x,k⟩:=y;rw[OS];by_cases hk:k=.free
   ·subst hk;obtain⟨c,e⟩:=hy _ MP rfl;have ec:cellOf env x=pure c:=by unfold cellOf;rw[e]
    simp only[beq_self_eq_true,if_true,ec];show (forIn r ((x,c)::cs) _:Sem _)=_;rw[ih _ λy h=>hy y (MD _ h)];simp[fH,e]
   ·have hb:(k == NameKind.free)=false:=by simpa using hk
    simp only[hb,Bool.false_eq_true,if_false];show (forIn r cs _:Sem _)=_;rw[ih _ λy h=>hy y (MD _ h)];simp[fH,hb]
 unfold closureFor;have:=key scope.names [] h;exact NS (λz=>z >>= λr=>pure r) this
theorem iw {env:Env}:∀ {names:List (Str × NameKind)}{cs:List (Str × Addr)}{x:Str}{c:Addr},(∀y∈names,y.2=.free->∃c,env.cells.lookup y.1=some c)->(∀x c,cs.lookup x=some c->env.cells.lookup x=some c) ->
  (fH env names cs).lookup x=some c->env.cells.lookup x=some c
 | [],cs,x,c,_,h,e=>h x c e
 | (y,k)::r,cs,x,c,hn,h,e=>by
  unfold fH at e;refine iw (λz hz=>hn z (MD _ hz)) ?_ e;intro z d ez;by_cases hk:k=.free
  ·subst hk;obtain⟨c',ec⟩:=hn _ MP rfl;simp only[beq_self_eq_true,if_true,List.lookup_cons] at ez;by_cases q:z=y
   ·simp_all
   ·have:(z == y)=false:=by simpa using q
    rw[this] at ez;exact h z d ez
  simp_all
theorem rk {env:Env}:∀ {names:List (Str × NameKind)}{cs:List (Str × Addr)}{x:Str},(∃c,cs.lookup x=some c)->∃c,(fH env names cs).lookup x=some c
 | [],cs,x,h=>h
 | (y,k)::r,cs,x,h=>by unfold fH;refine rk ?_;grind
theorem oP {env:Env}:∀ {names:List (Str × NameKind)}{cs:List (Str × Addr)}{x:Str},(x,NameKind.free)∈names->∃c,(fH env names cs).lookup x=some c
 | [],cs,x,h=>nomatch h
 | (y,k)::r,cs,x,h=>by
  unfold fH;rcases MU.mp h with e|h
  ·cases e;exact rk (by simp)
  ·exact oP h
def Sv (X:Cx)(xs:List Expr)(t:TT):Prop :=
 ∀(pins:List (Addr × Obj)) (s:Shared) (O:L2.St) (H:Hp) (Q:Bool->Hp->Prop),L2.Inv X pins O H s->t O H Q ->
  wpAny (model X.prog X.w) X.A (forIn xs true λc r=>if r=true then do let ok <-isTrue c X.env (eval c X.env);pure (ForInStep.yield ok) else pure (ForInStep.yield r)) (TP X pins O Q) X.xe s
theorem l6 {env:Env}:∀xs:List Expr,(forIn xs false λc r=>if r=true then do let ok <-isTrue c env (eval c env);pure (ForInStep.yield ok) else pure (ForInStep.yield r):Sem Bool)=pure false
 | []=>rfl
 | x::xs=>by rw[OS];simp only[Bool.false_eq_true,if_false];exact l6 xs
def Ep {X:Cx}:Sv X [] (λO H Q=>Q true H):=λpins s O H Q I h=>MC ⟨H,I,h⟩
def CD {X:Cx}{x:Expr}{xs:List Expr}{t u:TT}(h1:PT X x t)(h2:Sv X xs u):Sv X (x::xs) (LO t u):=by
 intro pins s O H Q I h;rw[OS];simp only[if_true];refine MA (MA (ZP (h1 pins s O H _ I h) λb s1 ⟨H1,I1,q1⟩=>?_));refine MC ?_;cases b with
 | true =>
  solve_by_elim
 | false =>
  rw[MM ME] at q1;show wpAny _ _ (forIn xs false _) _ _ _;rw[l6]
  solve_by_elim
def rN {prog:Program}{w:World}{A:Around}{R:Result->Shared->Prop}{s:Shared}{elt tg iter:Expr}{ifs:List Expr}{scope:Scope}{pos:Pos}{it acc:Value}{env:Env}(I:Nat->Shared->Prop)(Ex:Value->Shared->Prop)
  (turn:∀n s,I n s->wpAny (model prog w) A (pyNext it) (λr s1=>match r with
   | some v=>wpAny (model prog w) A (letOwnedTupleGo tg it v) (λ_ s2=>wpAny (model prog w) A (assign tg env v) (λ_ s3=>wpAny (model prog w) A (forIn ifs true λc r=>if r=true then do let ok <-isTrue c env (eval c env);pure (ForInStep.yield ok) else pure (ForInStep.yield r))
     (λok s4=>if ok=true then wpAny (model prog w) A (eval elt env) (λx s5=>wpAny (model prog w) A (call (.builtin "list.append") [acc,x]) (λ_ s6=>∃m,m<n/\I m s6) (λ_ _=>False) s5) Ex s4 else ∃m,m<n/\I m s4) (λ_ _=>False) s3) (λ_ _=>False) s2) (λ_ _=>False) s1
   | none=>R (.ok .next) s1) (λ_ _=>False) s)
  (thrown:∀e s',Ex e s'->notedBy (model prog w) A env (λx s''=>R (.error x) s'') e s') (n:Nat) (h:I n s):codeAny (model prog w) A (.compLoop (.ListComp elt [⟨tg,iter,ifs,0⟩] scope pos) 0 it acc env) R s:=by
 have no:∀ {E:Value->Shared->Prop} (e:Value) (t:Shared),False->E e t:=λ_ _ z=>z.elim;have one:∀k t,I k t->wpAny (model prog w) A (compTurn (.ListComp elt [⟨tg,iter,ifs,0⟩] scope pos) 0 it acc env) (λfin t'=>match fin with | .done f=>R (.ok f) t' | .again c=>c=.compLoop (.ListComp elt [⟨tg,iter,ifs,0⟩] scope pos) 0 it acc env/\∃m,m<k/\I m t') (notedBy (model prog w) A env λx t'=>R (.error x) t') t:=λk t hk=>compTurn_list .. ▸ MA (wpAny_standAt (MA (wpAny_mono (turn k t hk) (λr t1 q=>match r,q with
  | none,q=>MC q
  | some v,q=>MA (wpAny_mono q (λ_ t2 q=>MA (wpAny_mono q (λ_ t3 q=>MA (wpAny_mono q (λok t4 q=>match ok,q with
   | true,q=>MA (MA (wpAny_mono q (λx t5 q=>MA (wpAny_mono q (λ_ t6 q=>MC (MC ⟨rfl,q⟩)) no)) thrown))
   | false,q=>MC ⟨rfl,q⟩) no)) no)) no)) no)))
 exact codeAny_loop rfl I (λk t hk=>wpAny_noted (one k t hk)) n h
noncomputable def YQ (X:Cx)(N:List Str)(s2:Shared)(H2:Hp)(fp:List Addr)(scope:Scope)(C:Addr):Cx :=
 { X with N:=N,s₀:=s2,H₀:=H2,env:=compEnvC scope (fH X.env scope.names []) C X.env,outer:=X.stack,stack:=X.stack,ex:=fp,fn:=λ_=>false,pn:=[],xe:=λ_ _=>False }
structure YZ (X:Cx)(scope:Scope):Prop where
 kind:scope.kind=.function
 Yw:∀y∈scope.names,y.2≠.cell
 nms:∀y∈scope.names,y.2=.local->scope.names.lookup y.1=some .local
 free:∀y∈scope.names,y.2=.free->X.env.kindOf y.1=some .cell\/X.env.kindOf y.1=some .free
def lV {scope:Scope}{env:Env}{x:Str}{k:NameKind}(h:(relabel scope env).names.lookup x=some k)(hk:k=.cell\/k=.free)(nc:∀y∈scope.names,y.2≠.cell):(x,NameKind.free)∈scope.names:=by
 have hm:=NV h;unfold relabel at hm;obtain⟨⟨n,k0⟩,hy,e⟩:=MR.mp hm;simp only at e;split at e
 ·simp_all
 grind
theorem jr {env:Env}(x:Str):∀names:List (Str × NameKind),(names.map λ(n,k)=>if (k == NameKind.free && env.scope.kind == .function && env.kindOf n == some .cell) then (n,NameKind.cell) else (n,k)).lookup x=(names.lookup x).map λk=>if (k == NameKind.free && env.scope.kind == .function && env.kindOf x == some .cell) then .cell else k
 | []=>rfl
 | (n,k)::r=>by
  have ih:=jr (env:=env) x r;by_cases e:x=n
  ·subst e;rw[M3];dsimp only;split <;> (rename_i c;rw[PH,PH,QX];simp only[c,Option.map_some];rfl)
  ·have e:(x == n)=false:=by simpa using e
   rw[M3];dsimp only;split <;> (rw[PH,PH,e];exact ih)
def tI {env:Env}{names:List (Str × NameKind)}{x:Str}(h:names.lookup x=some .globalImplicit) :
  (names.map λ(n,k)=>if (k == NameKind.free && env.scope.kind == .function && env.kindOf n == some .cell) then (n,NameKind.cell) else (n,k)).lookup x=some .globalImplicit:=by rw[jr,h];rfl
def gz {env:Env}{names:List (Str × NameKind)}{x:Str}(h:names.lookup x=some .free) :
  (names.map λ(n,k)=>if (k == NameKind.free && env.scope.kind == .function && env.kindOf n == some .cell) then (n,NameKind.cell) else (n,k)).lookup x=some .cell \/
  (names.map λ(n,k)=>if (k == NameKind.free && env.scope.kind == .function && env.kindOf n == some .cell) then (n,NameKind.cell) else (n,k)).lookup x=some .free:=by
 rw[jr,h,Option.map_some];split
 ·exact .inl rfl
 ·exact .inr rfl
section
variable {X:Cx}{pins:List (Addr × Obj)}{O:L2.St}{H2:Hp}{s2:Shared}{fp:List Addr}{scope:Scope}{C:Addr}{N:List Str}
theorem YZ.cells (S:YZ X scope)(I:L2.Inv X pins O H2 s2):∀y∈scope.names,y.2=.free->∃c,X.env.cells.lookup y.1=some c:=λy hy hf=>I.ok.has y.1 (S.free y hy hf)
def IK (S:YZ X scope)(I:L2.Inv X pins O H2 s2)(f2:∀b∈fp,ik X pins H2 b)(fl:∀b∈fp,b<s2.heap.objs.size)(hC:s2.heap.objs.size<=C):(YQ X N s2 H2 fp scope C).Ok where
 mod:=I.ok.mod
 kind:=S.kind
 glob:=I.ok.glob
 blt:=I.ok.blt
 above:=hC
 inj:=λx y c h1 h2=>I.ok.inj x y c (iw (S.cells I) (λ_ _ z=>by simp at z) h1) (iw (S.cells I) (λ_ _ z=>by simp at z) h2)
 has:=λx hx=>by
  refine oP (x:=x) ?_;rcases hx with h|h
  ·exact lV h (.inl rfl) S.Yw
  ·exact lV h (.inr rfl) S.Yw
 cab:=λx c h=>by cases h
 hd:=I.ok.hd
 frames:=I.ok.frames
 stk:=.inl rfl
 VD:=λb hb=>⟨MV (ML (fl b hb) hC),λx c h=>(f2 b hb).2.2.2.2.1 x c (iw (S.cells I) (λ_ _ z=>by simp at z) h)⟩
 bs:=I.bs
 WW:=MX I.ok.WW I.sz
 Yo:=λb o e hb=>by
  rcases (f2 b hb).2.2.2.1 with z|z
  ·exact I.ok.Yo b o e z
  ·have:=MQ e;exact absurd (ML (ML this I.ok.WW) z) (OY _)
 Yl:=λb hb hf=>by
  rcases MU.mp (I.Xh b hf) with z|z
  ·exact(f2 b hb).2.1 z
  ·exact(f2 b hb).2.2.1 z
 Y4:=I.stack
 Wm:=I.YG
def Cw {H3:Hp}{h1:Heap}{tk:Nat}{nt:List Str}{cn:List Str}{caps:List Nat}(S:YZ X scope)(I:L2.Inv X pins O H2 s2)(f2:∀b∈fp,ik X pins H2 b)(fl:∀b∈fp,b<s2.heap.objs.size)(hC:s2.heap.objs.size<=C)
  (un:Un (frs X.stack) fp H2 H3 s2.heap h1) (hok:YX X.prog X.w H3 h1) (ns:h1.Ns C (λ_=>none)) (hn:H3 C=none) (keep:∀b o,s2.heap.get? b=some o->h1.get? b=some o) (free:∀b o,s2.heap.get? b=some o->H2 b=none->H3 b=none)
  (hcn:cn=caps.filterMap (X.N[·]?)) (hcl:∀i∈caps,i<X.N.length) (hcf:∀x∈cn,scope.names.lookup x=some .free) (hce:∀x∈cn,X.env.kindOf x=some .cell\/X.env.kindOf x=some .free) :
  L2.Inv (YQ X (nt++cn) s2 H2 fp scope C) [] (nt.map (λ_=>none)++caps.map λi=>(O[i]?).join) H3 { s2 with heap:=h1,toks:=tk }:=by
 have U5:∀x c,(fH X.env scope.names []).lookup x=some c->X.env.cells.lookup x=some c:=λx c h=>iw (S.cells I) (λ_ _ z=>by simp at z) h;have S_:cn.length=caps.length:=by
  rw[hcn];clear hcf hce hcn
  induction caps with
  | nil=>rfl
  | cons i r ih =>
   simp_all
 have Qi:∀(j i:Nat),caps[j]?=some i->∃x,cn[j]?=some x/\X.N[i]?=some x:=by
  rw[hcn];clear hcf hce hcn S_
  induction caps with
  | nil=>intro j i h;simp at h
  | cons k r ih =>
   intro j i h;have hk:X.N[k]?=some (X.N[k]'(hcl k MP)):=M4 (hcl k MP);rw[OZ,hk];cases j with
   | zero=>simp at h;subst h;exact⟨_,rfl,hk⟩
   | succ j=>exact ih (λj hj=>hcl j (MD _ hj)) j i (by simpa using h)
 refine⟨IK S I f2 fl hC,rfl,I.bare,un,⟨_,ns,λi x v e1 e2 e3=>?_⟩,λx c e=>?_,hn,λx c e=>?_,λp hp=>absurd (show p∈([]:List (Addr × Obj)) from hp) (by simp),hok,?_⟩
 ·by_cases hi:i<nt.length
  ·rw[M0 (by simp_all),M5] at e2
   simp_all
  ·rw[MY (by simp_all),MI,M5] at e2;have e1':(nt++cn)[i]?=some x:=e1;rw[MY (by simp_all)] at e1';cases q:caps[i-nt.length]? with
   | none=>simp_all
   | some j =>
    rw[q] at e2;have e2':(O[j]?).join=some v:=NC e2;obtain⟨y,g1,g2⟩:=Qi _ _ q;rw[e1'] at g1;cases g1;have e4:O[j]?=some (some v):=by
     cases z:O[j]? with
     | none=>rw[z] at e2';cases e2'
     | some w=>rw[z] at e2';solve_by_elim
    obtain⟨m,hm,hl⟩:=I.loc;have kx:=hce x (MW e1');obtain⟨u,ru,lk⟩:=hl j x v g2 e4 (.inr (by assumption));refine⟨u,ru,.inr ⟨gz (hcf x (MW e1')),?_⟩⟩;rcases lk with⟨k,_⟩|⟨_,c,ec,hc⟩
    ·simp_all
    ·obtain⟨c',Nj⟩:=oP (env:=X.env) (names:=scope.names) (cs:=[]) (x:=x) (NV (hcf x (MW e1')));have:=U5 x c' Nj;rw[ec] at this;cases this;obtain⟨o,ho,hd⟩:=hc;exact⟨c,Nj,o,keep _ _ ho,hd⟩
 ·obtain⟨v,o,ho,hd⟩:=I.cell x c (U5 x c e);exact⟨v,o,keep _ _ ho,hd⟩
 ·obtain⟨v,o,ho,hd⟩:=I.cell x c (U5 x c e);exact free c o ho (I.ZF x c (U5 x c e))
 ·show (nt.map (λ_=>(none:Option V))++caps.map λi=>(O[i]?).join).length=(nt++cn).length;simp[S_]
end
section
variable {U:Nat->ZX}
mutual
theorem qH {n:Nat}(G:bj U):∀(t:Tg) {v:PV}{Z:Fr}{st:AH}{Q:Fr->AH->Prop},t.low n=true->ee U t v Z st Q->ee U t v Z st λZ' st'=>Q Z' st'/\∀i,n<=i->Z'[i]?=Z[i]?
 | .name i,v,Z,st,Q,h,q=>by rw[Tg.low] at h;have:=NY h;exact⟨q,λj hj=>NJ (by lia)⟩
 | .tup ts,v,Z,st,Q,h,q=>by rw[Tg.low] at h;obtain⟨xs,e,hl,q⟩:=q;exact⟨xs,e,hl,o8 G ts h q⟩
 | .sub _ _,v,Z,st,Q,h,q=>by rw[Tg.low] at h;cases h
theorem o8 {n:Nat}(G:bj U):∀(t:Yd) {v:List PV}{Z:Fr}{st:AH}{Q:Fr->AH->Prop},t.low n=true->iJ U t v Z st Q->iJ U t v Z st λZ' st'=>Q Z' st'/\∀i,n<=i->Z'[i]?=Z[i]?
 | .nil,v,Z,st,Q,h,q=>by exact⟨q.1,q.2,λ_ _=>rfl⟩
 | .cons t ts,v,Z,st,Q,h,q=>by rw[Yd.low,MG] at h;obtain⟨x,r,e,q⟩:=q;refine⟨x,r,e,bG G t (λZ1 st1 k=>?_) (qH G t h.1 q)⟩;refine gM G ts (λZ2 st2 k2=>⟨k2.1,λi hi=>(k2.2 i hi).trans (k.2 i hi)⟩) (o8 G ts h.2 k.1)
end
end
def rA {K:W.Frag}{H:Hp}{D:Addr}{ys zs:List V}(hD:H D=some (.lst ys)):∀a us,ZC K H a us->ZC K (upd H D (.lst zs)) a us:=λa us q=>by
 rcases q with (q|⟨w,q⟩)|q
 ·exact .inl (.inl (by rw[bg (λz=>by simp_all)];exact q))
 ·exact .inl (.inr ⟨w,by rw[bg (λz=>by simp_all)];exact q⟩)
 ·exact .inr q
def sR {K:W.Frag}{H:Hp}{D:Addr}{ys zs:List V}(hD:H D=some (.lst ys)):∀a us,WT K H a us->WT K (upd H D (.lst zs)) a us:=λa us q=>by
 rcases q with⟨w,q⟩|q
 ·exact .inl ⟨w,by rw[bg (λz=>by simp_all)];exact q⟩
 ·exact .inr q
def Ext.away {K:W.Frag}{m m':List Addr}{H H':Hp}{D:Addr}{ys zs:List V}(x:Ext K m H m' H')(h0:H D=none)(hD:H' D=some (.lst ys)):Ext K m H m' (upd H' D (.lst zs)) :=
 ⟨x.pre,x.new,λa o ha e=>by rw[bg (dX e h0)];exact x.fr a o ha e⟩
def RH.away {K:W.Frag}{m:List Addr}{H:Hp}{st:AH}{D:Addr}{ys zs:List V}(h:RH K m H st)(hm:D ∉ m)(hD:H D=some (.lst ys)):RH K m (upd H D (.lst zs)) st:=by refine⟨h.len,h.nd,λn c a h1 h2=>?_⟩;have ha:a≠D:=λz=>hm (z ▸ MW h2);have hc:=h.at_ n c a h1 h2;cases c;obtain⟨us,g1,g2⟩:=hc;exact⟨us,by rw[bg ha];exact g1,g2.gen (OL _) (rA hD) (sR hD)⟩
def RF.away {K:W.Frag}{m:List Addr}{H:Hp}{Z:Fr}{O:L2.St}{D:Addr}{ys zs:List V}(h:RF K m H Z O)(hD:H D=some (.lst ys)):RF K m (upd H D (.lst zs)) Z O :=
 ⟨h.len,λi v e=>let ⟨y,e1,r⟩:=h.at_ i v e;⟨y,e1,r.gen (OL _) (rA hD) (sR hD)⟩⟩
def RF.less {K:W.Frag}{m:List Addr}{H:Hp}{Z Z':Fr}{O:L2.St}{n:Nat}(h:RF K m H Z' O)(hl:Z.length=Z'.length)(hn:∀i v,Z[i]?=some (some v)->n<=i)(hp:∀i,n<=i->Z'[i]?=Z[i]?):RF K m H Z O :=
 ⟨hl.trans h.len,λi v e=>h.at_ i v (by rw[hp i (hn i v e)];exact e)⟩
def qj {nt:List Str}{f:Nat->Option PV}{caps:List Nat}:∀(i:Nat) (v:PV),(nt.map (λ_=>(none:Option PV))++caps.map f)[i]?=some (some v)->nt.length<=i:=λi v e=>by
 by_cases hi:i<nt.length
 ·rw[M0 (by simp_all),M5] at e
  simp_all
 ·simp_all
def EL {K:W.Frag}{m:List Addr}{H:Hp}{Z:Fr}{O:L2.St}{nt:List Str}{caps:List Nat}(h:RF K m H Z O) :
  RF K m H (nt.map (λ_=>none)++caps.map λi=>(Z[i]?).join) (nt.map (λ_=>none)++caps.map λi=>(O[i]?).join):=by
 refine⟨by simp,λi v e=>?_⟩;have hi:=qj i v e;rw[MY (by simpa using hi),MI,M5] at e;rw[MY (by simpa using hi),MI,M5];cases q:caps[i-nt.length]? with
 | none=>simp_all
 | some j =>
  rw[q] at e;have e':(Z[j]?).join=some v:=NC e;have e4:Z[j]?=some (some v):=by
   cases z:Z[j]? with
   | none=>rw[z] at e';cases e'
   | some w=>rw[z] at e';solve_by_elim
  obtain⟨y,e5,r⟩:=h.at_ j v e4;exact⟨y,by simp_all,r⟩
section
variable {X:Cx}{U:Nat->ZX}{pins:List (Addr × Obj)}{O:L2.St}{H:Hp}{s:Shared}
noncomputable def iU (K:W.Frag)(m1:List Addr)(H1:Hp)(Fin:Addr->Hp->Prop):LK:=λvs st2=>∀m2 H2 D ys,Ext K m1 H1 m2 H2->RH K m2 H2 st2->D ∉ m2->H1 D=none->H2 D=some (.lst ys)->Rs K m2 H2 vs ys->Fin D H2
noncomputable def nY (U:Nat->ZX)(elt:E)(tg:Tg)(ifs:Ts)(Z:Fr):PV->AH->(Option PV->AH->Prop)->Prop:=λx st2 k=>ee U tg x Z st2 λZ' st3=>gK U true ifs Z' st3 λc Yr=>if c=true then Z_ U elt Z' Yr λv Yb=>k (some v) Yb else k none Yr
def yN (Y:Cx)(ps:List (Addr × Obj))(m':List Addr)(H5:Hp)(Z0:Fr)(k:Option PV->AH->Prop)(o:Option (V × PV))(s:Shared):Prop :=
 ∃O8 H8 m8 X5,L2.Inv Y ps O8 H8 s/\Ext Y.K m' H5 m8 H8/\RH Y.K m8 H8 X5/\RF Y.K m8 H8 Z0 O8/\(∀p∈o,R Y.K m8 H8 p.2 p.1)/\k (o.map (·.2)) X5
def vc (hcalm:X.calm=true){B:List Addr->Hp->Fr->PV->AH->(Option PV->AH->Prop)->Prop}{Ex:Shared->Hp->List Addr->Addr->Value->Shared->Prop}{E:Value->Shared->Prop}{nt:List Str}{caps:List Nat}{cn:List Str}{XR Wr Zx:Expr}{Wv:List Expr}{scope:Scope}{pos p0:Pos}{use:Option (Value->Sem Unit)}{Qf:Value->Shared->Prop}{Fin:Addr->Hp->Prop}
  (S:YZ X scope) (hcn:cn=caps.filterMap (X.N[·]?)) (hcl:∀i∈caps,i<X.N.length) (hcf:∀x∈cn,scope.names.lookup x=some .free) (hce:∀x∈cn,X.env.kindOf x=some .cell\/X.env.kindOf x=some .free)
  (V_:iu Zx=true) (I:L2.Inv X pins O H s)
  (hI:wpAny (model X.prog X.w) X.A (eval Zx X.env) (λv s1=>wpAny (model X.prog X.w) X.A (pyIter v) (PIE X pins O Wr λJ H1=>∃m Z st1 xs ZR,RF X.K m H1 Z O/\RH X.K m H1 st1/\nk X.K J xs ZR m H1/\xs.length<100000/\gY ZR (B m H1 (nt.map (λ_=>none)++caps.map λi=>(Z[i]?).join)) xs [] st1 (iU X.K m H1 Fin)) E s1) E s)
  (hB:∀ {s2 H2 fp C ps s5 O5 H5 x u m0 m' Z0 st' v}{k:Option PV->AH->Prop},L2.Inv (YQ X (nt++cn) s2 H2 fp scope C) ps O5 H5 s5->RelV x u->R X.K m' H5 v x->RF X.K m' H5 Z0 O5->RH X.K m' H5 st'->Ext X.K m0 H2 m' H5->(∀i v,Z0[i]?=some (some v)->nt.length<=i)->B m0 H2 Z0 v st' k ->
   wpAny (model X.prog X.w) X.A (assign Wr (compEnvC scope (fH X.env scope.names []) C X.env) u) (λ_ s6=>wpAny (model X.prog X.w) X.A (forIn Wv true λc r=>if r=true then do let ok <-isTrue c (compEnvC scope (fH X.env scope.names []) C X.env) (eval c (compEnvC scope (fH X.env scope.names []) C X.env));pure (ForInStep.yield ok) else pure (ForInStep.yield r))
    (λok s7=>if ok=true then wpAny (model X.prog X.w) X.A (eval XR (compEnvC scope (fH X.env scope.names []) C X.env)) (λuy s8=>∃y vv,RelV y uy/\yN (YQ X (nt++cn) s2 H2 fp scope C) ps m' H5 Z0 k (some (y,vv)) s8) (Ex s2 H2 fp C) s7 else yN (YQ X (nt++cn) s2 H2 fp scope C) ps m' H5 Z0 k none s7) (λ_ _=>False) s6) (λ_ _=>False) s5)
  (hX:∀ {s2 H2 fp C},L2.Inv X pins O H2 s2->(∀b∈fp,ik X pins H2 b)->s2.heap.objs.size<=C->∀e s',Ex s2 H2 fp C e s'->∀D:Value,notedBy (model X.prog X.w) X.A (compEnvC scope (fH X.env scope.names []) C X.env) (λx s''=>compPost (model X.prog X.w) X.A E use Qf D C (.error x) s'') e s')
  (fin:∀C D H' s' m',L2.Inv X pins O H' s'->s'.heap.Ns C m'->ik X pins H' C->Fin D H'->compPost (model X.prog X.w) X.A E use Qf (.ref D) C (.ok .next) s') :
  wpAny (model X.prog X.w) X.A (comprehension (.ListComp XR [⟨Wr,Zx,Wv,0⟩] scope pos) scope X.env p0 (newList []) false (eval Zx X.env) use) Qf E s:=by
 refine wpAny_comprehension_free (use:=use) rfl (t8 V_) (wV (S.cells I)) S.kind S.nms ?_;refine ZP hI λv s1 h1=>ZP h1 λitv s2 h2=>?_;obtain⟨it,fp,tn,J,H2,e,I2,T,st2,f2,m,Z,st1,xs,ZR,rf,rh,W,hxs,w⟩:=h2;subst e;have fl:∀b∈fp,b<s2.heap.objs.size:=λb hb=>by obtain⟨o,e,_⟩:=T.obj 0 _ st2 b hb;exact MQ e
 refine wpAny_newObj_type (wpAny_newFunctionEnv S.Yw (by intro y hy;simp at hy) (λh₁ hns₁ hsb₁=>?_) S.kind);dsimp only at hns₁ hsb₁ |-
 generalize hD:s2.heap.objs.size=D at *;generalize Qn:s2.heap.push { cls:=.type "list",dict:=none,data:=.seq ([]:List Value).toArray }=P3 at hns₁ hsb₁ |-
 generalize hCC:P3.objs.size=C at *;have SX:C=D+1:=by rw[<-hCC,<-Qn,Ud,hD]
 have Wf:D<C:=by rw[SX];exact OA D
 have T6:∀b,b<D->b≠C:=λb hb=>MV (U3 hb Wf);have Ui:H2 D=none:=by rw[<-hD];exact I2.hok.fresh (MJ _)
 have hCn:H2 C=none:=I2.hok.fresh (by simp[*]);have old3:∀b o,s2.heap.get? b=some o->P3.get? b=some o:=λb o e=>Qn ▸ MB _ e;have old:∀b o,s2.heap.get? b=some o->h₁.get? b=some o:=λb o e=>hsb₁.extBut b o (T6 b (hD ▸ MQ e)) (MB _ (old3 b o e));have newD:h₁.get? D=some { cls:=.type "list",data:=.seq #[] }:=hsb₁.extBut _ _ (MV Wf) (MB _ (by rw [<-Qn,<-hD];exact MH _ rfl));have un:Un (frs X.stack) fp H2 (upd H2 D (.lst [])) s2.heap h₁:=Un.laid old (by simp[*]) Ui;have hok:YX X.prog X.w (upd H2 D (.lst [])) h₁:=I2.hok.laid old (by simp[*]) ⟨OV _,[],0,.nil,newD⟩;have I4:=Cw (nt:=nt) (tk:=s2.toks+([]:List (Str × Value)).length) S I2 f2 (by rw[hD];exact fl) (C:=C) (by simp[*]) un hok (by assumption) (by rw[bg (OE Wf)];exact hCn) old
  (λb o e n=>by rw[bg (MV (hD ▸ MQ e))];exact n) hcn hcl hcf hce
 generalize Ob:(nt.map (λ_=>none)++caps.map λi=>(Z[i]?).join:Fr)=Z0 at w;have T5:∀i v,Z0[i]?=some (some v)->nt.length<=i:=by rw[<-Ob];exact qj
 have R4:RF X.K m H2 Z0 (nt.map (λ_=>none)++caps.map λi=>(O[i]?).join):=by rw[<-Ob];exact EL rf
 generalize (nt.map (λ_=>none)++caps.map λi=>(O[i]?).join:L2.St)=O0 at I4 R4;have loop:codeAny (model X.prog X.w) X.A (.compLoop (.ListComp XR [⟨Wr,Zx,Wv,0⟩] scope pos) 0 (.ref it) (.ref D) (compEnvC scope (fH X.env scope.names []) C X.env)) (compPost (model X.prog X.w) X.A E use Qf (.ref D) C)
   { s2 with heap:=h₁,toks:=s2.toks+([]:List (Str × Value)).length }:=by
  refine rN (Ex:=Ex s2 H2 fp C) (λn s'=>∃(i:Nat),∃O' H' m' st' acc ys,n+i=xs.length/\L2.Inv (YQ X (nt++cn) s2 H2 fp scope C) [] O' H' s'/\tn i s'.heap/\(∀b∈fp,H' b=none)/\Ext X.K m H2 m' H'/\RH X.K m' H' st'/\RF X.K m' H' Z0 O'/\D ∉ m'/\H' D=some (.lst ys)/\Rs X.K m' H' acc ys/\ys.length<=i /\
   gY ZR (B m H2 Z0) (xs.drop i) acc st' (iU X.K m H2 Fin)) ?_ (λe s' q=>hX I2 f2 (by rw[hD];exact OU Wf) e s' q _) xs.length
   ⟨0,O0,_,m,st1,[],[],rfl,I4,T.keep 0 _ _ st2 (λb _ o e=>old b o e),λb hb=>by rw[bg (MV (fl b hb))];exact(f2 b hb).1,Ext.ZG rh Ui,rh.ZG Ui,R4.mono (Ext.ZG rh Ui),rh.fresh Ui,bq,Z5.mpr rfl,MJ _,by simpa using w⟩
  rintro n s' ⟨i,O',H',m',st',acc,ys,hn,I',Ov,Np,x',Wg,rf',Dm,Qm,Rk,Qp,k⟩;have stat:∀ {WR:Hp},(∀b∈fp,WR b=none)->∀b∈fp,ik (YQ X (nt++cn) s2 H2 fp scope C) [] WR b:=λhz b hb=>⟨hz b hb,(I'.ok.VD b hb).1,I'.ok.Yl b hb,.inl hb,(I'.ok.VD b hb).2,λp hp=>absurd (show p∈([]:List (Addr × Obj)) from hp) (by simp)⟩;cases q:xs.drop i with
  | nil =>
   rw[q] at k;have hi:i=xs.length:=by have:=NS List.length q;simp at this;omega
   subst hi;refine ZP (T.done (YQ X (nt++cn) s2 H2 fp scope C) rfl rfl rfl hcalm _ [] s' O' H' (λ_ _=>False) I' (stat Np) Ov (W.stop m' H' st' x' Wg k.1)) λr s1 ⟨hr,I1⟩=>?_;subst hr;have IX:L2.Inv X pins O H' s1:=I2.call' I1.os I1.base I1.hok I1.bare λb hb=>⟨(f2 b hb).2.2.2.1,(f2 b hb).2.1,(f2 b hb).2.2.2.2.1,(f2 b hb).2.2.2.2.2⟩;obtain⟨mm,hns,_⟩:=I1.loc;exact fin C D H' s1 mm IX hns (I2.Xu (by rw[hD];exact OU Wf) I1.free) (k.2 m' H' D ys x' Wg Dm Ui Qm Rk)
  | cons v rest =>
   rw[q] at k;have hi:i<xs.length:=by have:=NS List.length q;simp at this;omega
   have ev:xs[i]?=some v:=by have:=NS List.head? q;rw[List.head?_drop] at this;exact this
   have er:rest=xs.drop (i+1):=by have:=NS List.tail q;rw[List.tail_drop] at this;exact this.symm
   subst er;obtain⟨kc,k⟩:=k;obtain⟨go,yl⟩:=W.item i v m' H' st' x' Wg kc ev;refine ZP (T.item (YQ X (nt++cn) s2 H2 fp scope C) rfl rfl rfl hcalm i [] s' O' H' (λ_ _=>False) I' (stat Np) Ov go) λr s4 ⟨u,hr,h4⟩=>?_;subst hr;refine ZP h4 λ_ s5 ⟨x,H5,I5,r5,y5,Rn,Pu⟩=>?_;obtain⟨x5,rh5,rv5⟩:=yl x H5 y5;have Pb:=I5.pinned (stat Pu) (T.obj _ _ Rn);have again:∀ {O7:L2.St}{H7:Hp}{s7:Shared}{m7:List Addr}{WK:AH}{Vo:List PV}{Tv:List V},L2.Inv (YQ X (nt++cn) s2 H2 fp scope C) ([]++nP fp s5.heap) O7 H7 s7->Ext X.K m H2 m7 H7->RH X.K m7 H7 WK->RF X.K m7 H7 Z0 O7->D ∉ m7->H7 D=some (.lst Tv) ->
     Rs X.K m7 H7 Vo Tv->Tv.length<=i+1->gY ZR (B m H2 Z0) (xs.drop (i+1)) Vo WK (iU X.K m H2 Fin) ->
     ∃n',n'<n/\∃(i:Nat),∃O' H' m' st' acc ys,n'+i=xs.length/\L2.Inv (YQ X (nt++cn) s2 H2 fp scope C) [] O' H' s7/\tn i s7.heap/\(∀b∈fp,H' b=none)/\Ext X.K m H2 m' H'/\RH X.K m' H' st'/\RF X.K m' H' Z0 O'/\D ∉ m'/\H' D=some (.lst ys)/\Rs X.K m' H' acc ys/\ys.length<=i /\
      gY ZR (B m H2 Z0) (xs.drop i) acc st' (iU X.K m H2 Fin):=λ{O7 H7 s7 m7 WK Vo Tv} I7 g1 g2 g3 g4 g5 g6 g7 g8=>by
    refine⟨n-1,by omega,i+1,O7,H7,m7,WK,Vo,Tv,by omega,I7.YJ,T.keep _ _ _ Rn λb hb o e=>(I7.pin (b,o) (NF _ (NF _ (gE hb e)))).1,λb hb=>?_,g1,g2,g3,g4,g5,g6,g7,g8⟩;obtain⟨o,e,d⟩:=T.obj _ _ Rn b hb;exact(I7.pin (b,o) (NF _ (NF _ (gE hb e)))).2.1
   refine wpAny_mono (hB Pb r5 rv5 (rf'.mono x5) rh5 (x'.trans x5) T5 k) (λ_ s6 q6=>wpAny_mono q6 (λok s7 q7=>?_) λ_ _ z=>z) λ_ _ z=>z;have SQ:∀ {m8 H8},Ext X.K m' H' m8 H8->H8 D=some (.lst ys)/\D ∉ m8:=λ{m8 H8} xx=>⟨xx.fr D _ (.inl Dm) Qm,λz=>by
    rcases xx.new D z with z|z
    ·exact Dm z
    ·rw[Qm] at z;cases z⟩
   cases ok with
   | false =>obtain⟨O8,H8,m8,X5,I8,x8,WD,Rj,_,w8⟩:=q7;have VR:Ext X.K m' H' m8 H8:=x5.trans x8;exact again I8 (x'.trans VR) WD Rj (SQ VR).2 (SQ VR).1 (Rk.mono VR) (by omega) (by simpa using w8)
   | true =>refine ZP q7 λuy s8 ⟨y,vv,ry,O8,H8,m8,X5,I8,x8,WD,Rj,r8,w8⟩=>?_;have VR:Ext X.K m' H' m8 H8:=x5.trans x8;have T4:=(SQ VR).1;refine ZP (q9 (X:=YQ X (nt++cn) s2 H2 fp scope C) _ s8 O8 H8 (.ref D) [y] (.ref D) [uy] (λ_ H9=>H9=upd H8 D (.lst (ys++[y]))) I8 rfl (.cons ry .nil) ⟨D,ys,y,rfl,rfl,T4,rR (by omega),rfl⟩) λ_ s9 ⟨_,H9,I9,_,e9⟩=>?_;subst e9;exact again I9 ((x'.trans VR).away Ui T4) (WD.away (SQ VR).2 T4) (Rj.away T4) (SQ VR).2 bq (((Rk.mono VR).app (.one (r8 _ rfl))).gen (OL _) (rA T4) (sR T4)) (by simp;omega) w8
 exact codeAny_compStart_list loop (T.self X.A 0 _ _ _ (T.keep 0 _ _ st2 λb _ o e=>old b o e) loop)
def qP (G:bj U)(hcalm:X.calm=true){elt:E}{tg:Tg}{ifs:Ts}{nt:List Str}{caps:List Nat}{cn:List Str}{XR Wr Zx:Expr}{Wv:List Expr}{scope:Scope}{pos p0:Pos}{use:Option (Value->Sem Unit)}{Qf:Value->Shared->Prop}{Fin:Addr->Hp->Prop}{wi:TI}
  (S:YZ X scope) (hcn:cn=caps.filterMap (X.N[·]?)) (hcl:∀i∈caps,i<X.N.length) (hcf:∀x∈cn,scope.names.lookup x=some .free) (hce:∀x∈cn,X.env.kindOf x=some .cell\/X.env.kindOf x=some .free)
  (V_:iu Zx=true) (hlow:tg.low nt.length=true) (hI:PI X Wr Zx wi)
  (hG:∀s2 H2 fp C,PG (YQ X (nt++cn) s2 H2 fp scope C) Wr (Sx X.K (ee U tg)))
  (hT:∀s2 H2 fp C,Sv (YQ X (nt++cn) s2 H2 fp scope C) Wv (Ue X.K (gK U true ifs)))
  (hE:∀s2 H2 fp C,PE (YQ X (nt++cn) s2 H2 fp scope C) XR (Zv X.K (Z_ U elt)))
  (I:L2.Inv X pins O H s)
  (h:wi O H λJ H1=>∃m Z st1 xs ZR,RF X.K m H1 Z O/\RH X.K m H1 st1/\nk X.K J xs ZR m H1/\xs.length<100000/\gY ZR (nY U elt tg ifs (nt.map (λ_=>none)++caps.map λi=>(Z[i]?).join)) xs [] st1 (iU X.K m H1 Fin))
  (fin:∀C D H' s' m',L2.Inv X pins O H' s'->s'.heap.Ns C m'->ik X pins H' C->Fin D H'->compPost (model X.prog X.w) X.A X.xe use Qf (.ref D) C (.ok .next) s') :
  wpAny (model X.prog X.w) X.A (comprehension (.ListComp XR [⟨Wr,Zx,Wv,0⟩] scope pos) scope X.env p0 (newList []) false (eval Zx X.env) use) Qf X.xe s:=by
 refine vc hcalm (B:=λ_ _ Z0=>nY U elt tg ifs Z0) (Ex:=λ_ _ _ _ _ _=>False) S hcn hcl hcf hce V_ I (hI pins s O H _ I h) (λ{s2 H2 fp C ps s5 O5 H5 x u m0 m' Z0 st' v k} I5 r5 rv rf rh _ T5 w=>?_) (λ_ _ _ _ _ z=>z.elim) fin;refine ZP (hG s2 H2 fp C ps s5 O5 H5 x u (λO6 H6=>∃m6 Z1 T9,Ext X.K m' H5 m6 H6/\RH X.K m6 H6 T9/\RF X.K m6 H6 Z1 O6/\(∀j,nt.length<=j->Z1[j]?=Z0[j]?)/\gK U true ifs Z1 T9 λc Yr=>if c=true then Z_ U elt Z1 Yr λvv Yb=>k (some vv) Yb else k none Yr) I5 r5
  ⟨m',Z0,st',v,rf,rh,rv,bG G tg (λZ1 T9 z m6 H6 O6 x6 Uy Wq=>⟨m6,Z1,T9,x6,Uy,Wq,z.2,z.1⟩) (qH (n:=nt.length) G tg hlow w)⟩) λ_ s6 ⟨O6,H6,I6,m6,Z1,T9,x6,Uy,Wq,pr,w6⟩=>?_
 have hlen:Z0.length=Z1.length:=by rw[Wq.len,I6.len,rf.len,I5.len]
 refine ZP (hT s2 H2 fp C ps s6 O6 H6 (λb H7=>∃m7 WK,Ext X.K m6 H6 m7 H7/\RH X.K m7 H7 WK/\if b=true then Z_ U elt Z1 WK λvv Yb=>k (some vv) Yb else k none WK) I6 ⟨m6,Z1,T9,Wq,Uy,dq G true ifs (λb WK z m7 H7 x7 R5=>⟨m7,WK,x7,R5,z⟩) w6⟩) λb s7 ⟨H7,I7,m7,WK,x7,R5,w7⟩=>?_;cases b with
 | false =>
  rw[MM ME] at w7 |-
  exact⟨O6,H7,m7,WK,I7,x6.trans x7,R5,(Wq.mono x7).less hlen T5 pr,λ_ z=>(nomatch z),w7⟩
 | true =>
  rw[MK rfl] at w7 |-
  refine ZP (hE s2 H2 fp C ps s7 O6 H7 (λy H8=>∃m8 X5 vv,Ext X.K m7 H7 m8 H8/\RH X.K m8 H8 X5/\R X.K m8 H8 vv y/\k (some vv) X5) I7 ⟨m7,Z1,WK,Wq.mono x7,R5,ae G elt (λvv X5 z m8 H8 y x8 WD r8=>⟨m8,X5,vv,x8,WD,r8,z⟩) w7⟩) ?_;exactλuy s8 ⟨y,H8,I8,ry,m8,X5,vv,x8,WD,r8,w8⟩=>⟨y,vv,ry,O6,H8,m8,X5,I8,(x6.trans x7).trans x8,WD,((Wq.mono x7).mono x8).less hlen T5 pr,λ_ z=>by cases z;exact r8,w8⟩
end
section
variable {U:Nat->ZX}{X:Cx}{c:Cfg}
def x9 {k:Option NameKind}(h:ES k=true):k=some .cell\/k=some .free:=by unfold ES at h;simpa using h
end
def Ext.Xq {K:W.Frag}{m m2:List Addr}{H H2:Hp}{D:Addr}(x:Ext K m H m2 H2)(h0:H D=none):Ext K m H (m2++[D]) H2:=by
 refine⟨x.pre.trans (QL _ _),λa ha=>?_,x.fr⟩;rcases MN.mp ha with z|z
 ·exact x.new a z
 simp_all
section
variable {X:Cx}{c:Cfg}{U:Nat->ZX}
end
section
variable {prog:Program}{w:World}{A:Around}{E:Value->Shared->Prop}{s:Shared}
def Ca (xs:Array Value):((List.range xs.size).filterMap λ(k:Nat)=>xs[(((xs.size:Int)-1)+(k:Int)*(-1)).toNat]?).toArray=xs.toList.reverse.toArray:=by
 congr 1;have e:∀k∈List.range xs.size,xs[(((xs.size:Int)-1)+(k:Int)*(-1)).toNat]?=some (xs.toList.reverse.getD k .none):=λk hk=>by
  have hk:k<xs.size:=Q4.mp hk;have e1:(((xs.size:Int)-1)+(k:Int)*(-1)).toNat=xs.size-1-k:=by omega
  simp_all
 have all:∀(l:List Nat) (f:Nat->Option Value) (g:Nat->Value),(∀k∈l,f k=some (g k))->l.filterMap f=l.map g:=λl f g=>by
  induction l with
  | nil=>intro _;rfl
  | cons a r ih =>
   simp_all
 rw[all _ _ _ e];refine PF (by simp) λi h1 h2=>?_;rw[List.getElem_map,List.getElem_range,List.getD_eq_getElem?_getD,M4 h2,Option.getD_some]
end
section
variable {X:Cx}{c:Cfg}{U:Nat->ZX}
theorem Rs.rev {K:W.Frag}{m:List Addr}{H:Hp}:∀ {xs:List PV}{ys:List V},Rs K m H xs ys->Rs K m H xs.reverse ys.reverse
 | [],ys,h=>by rw[Z5] at h;subst h;solve_by_elim
 | x::xs,ys,h=>by rw[a8] at h;obtain⟨y,r,rfl,h1,h⟩:=h;rw[P8,P8];exact(Rs.rev h).app (Rs.one h1)
theorem Vals.rev:∀ {vs:List V}{us:List Value},Vals vs us->Vals vs.reverse us.reverse
 | _,_,.nil=>.nil
 | _,_,.cons r t=>by rw[P8,P8];exact(Vals.rev t).snoc r
def A2 (hu:X.A.units+64<cLine):Y9 X (compareOp .Eq) (λx y H Q=>∃a ys b,x=.ref a/\Zr X.K H a ys/\y=.ref b/\H b=some (.lst [])/\Q (.bl ys.isEmpty) H):=by
 rintro pins s O H x y v u Q I rx ry ⟨a,ys,b,rfl,g,rfl,g2,q⟩;cases rx;cases ry;obtain⟨its,ri,pl,_⟩:=I.list g;obtain⟨its2,ri2,Oj,_⟩:=I.list (Zr.of g2);cases ri2;have l1:=ri.length;cases ys with
 | nil =>cases ri;exact SeqAt.eq_listAt (e:=λ_=>true) pl.isList Oj.isList rfl (by lia) (λj h1 _=>absurd h1 (QB _)) ⟨.bl true,H,I,rfl,q⟩
 | cons z zs =>
  refine SeqAt.eq_list_lengthsAt pl.isList Oj.isList ?_ (by lia) ⟨.bl false,H,I,rfl,q⟩;rw[NT] at l1;simp;intro e
  simp_all
end
section
variable {X:Cx}{c:Cfg}{U:Nat->ZX}
def Dj:Wk X "str.upper" (λx vs H Q=>∃z,x=.str z/\vs=[]/\z.length<=100000/\Q (.str (Txt.upper z)) H):=by intro pins s O H x vs v us Q I rx rv h;obtain⟨z,rfl,rfl,hz,q⟩:=h;obtain⟨t,rfl⟩:=rx;cases rv;exact SC.upper (PyProof.Rows.fit_upper (by lia)) ⟨.str _,H,I.tok _,⟨_,rfl⟩,q⟩
def Jw (C:ZD X c U){n:Str}{y:Expr}{ap cp:Pos}{a:E}(hn:n="upper")(hl:(ap.endLine == cp.line)=true)(hy:fP y=true)(ho:PE X y (Zv X.K (Z_ U a))):PE X (.Call (.Attribute y n ap) [] [] cp) (Zv X.K (Z_ U (.un .VP a))):=by subst hn;intro pins s O H Q I h;obtain⟨mm,Z,st,rf,rh,w⟩:=h;refine II N3 PySem.F.slot_str_upper PySem.F.type_str_upper Dj ho (lg hy) hl pins s O H Q I ?_;refine⟨mm,Z,st,rf,rh,ae C.mono a (λv st1 k m1 H1 x1 e1 r1 r2=>?_) w⟩;obtain⟨z,rfl,h1,k⟩:=cj k;rw[Z8] at r2;subst r2;exact⟨rfl,z,rfl,rfl,h1,k m1 _ _ e1 r1 (Z8.mpr rfl)⟩
theorem vP {z:Str}:∀ {kvs:List (Str × Int)},nH (kvs.map λp=>((Sum.inr p.1:Key),V.int p.2)) (.inr z)=(kvs.lookup z).map V.int
 | []=>rfl
 | p::kvs=>by
  have ih:=@vP z kvs;unfold nH at ih |-
  grind
def GD.at {P:Program}{w:World}{K:W.Frag}{mg:Str->Option Value}{x z:Str}{kvs:List (Str × Int)}{h:Heap}(g:GD P w K mg x kvs)(Wd:K.In h):∃a f,mg x=some (.ref a)/\(a == sysModules)=false/\h.MapOf (cA P w) a f/\∀z,XJ ((kvs.lookup z).map V.int) (f (.inr z)):=by obtain⟨a,o,vs,e1,e2,e3,e4,e5⟩:=g.ex;exact⟨a,_,e1,e2,(Heap.dictOf_iff.mpr ⟨o,Wd _ _ e3,e4⟩).mapOf,λz=>by rw[<-vP];exact e5.val _⟩
theorem Inv.Wd {pins:List (Addr × Obj)}{O:L2.St}{H:Hp}{s:Shared}(I:L2.Inv X pins O H s):X.K.In s.heap:=λa o e=>I.bk _ _ (I.mod.Wd a o e)
def A8 {kvs:List (Str × Int)}{n:Str}(g:GD X.prog X.w X.K X.mg n kvs)(ne:Bool):Y9 X (compareOp (if ne then .NotIn else .In)) (λx y H Q=>∃z a,x=.str z/\y=.ref a/\X.mg n=some (.ref a)/\Q (.bl ((kvs.lookup z).isSome != ne)) H):=by
 intro pins s O H x y v u Q I rx ry h;obtain⟨z,a,rfl,rfl,em,q⟩:=h;obtain⟨a',f,e1,e2,e3,e4⟩:=g.at (z:=z) (Inv.Wd I);rw[em] at e1;cases e1;cases ry;have r:=(e4 z).Ww;rw[Option.isSome_map] at r;cases ne with
 | false =>
  refine wpAny_in_of (uc (k:=.inr z) rx) e2 e3 ⟨.bl _,H,I.tok _,rfl,?_⟩
  simp_all
 | true =>
  refine wpAny_notIn_of (uc (k:=.inr z) rx) e2 e3 ⟨.bl _,H,I.tok _,rfl,?_⟩
  simp_all
def tw {y:Str}{p:Pos}{kvs:List (Str × Int)}(C:ZD X c U)(hg:c.X7 y=true)(g:GD X.prog X.w X.K X.mg y kvs):∃a,X.mg y=some (.ref a)/\PE X (.Name y p) (tC (.ref a)):=by obtain⟨a,o,vs,e1,_⟩:=g.ex;obtain⟨g1,g2,_⟩:=C.Xd hg;exact⟨a,e1,sD g1 e1 rfl g2⟩
def Hw (C:ZD X c U){l:Expr}{y:Str}{p pos:Pos}{kvs:List (Str × Int)}{v:PV}{a:E}{ne:Bool}(hb:behindInMarks (if ne then .NotIn else .In) (.Name y p)=false)(hg:c.X7 y=true)(hv:c.gl.lookup y=some v)(hd:mj v=some kvs)(ha:PE X l (Zv X.K (Z_ U a))) :
  PE X (.Compare l [if ne then .NotIn else .In] [.Name y p] pos) (Zv X.K (Z_ U (.un (.V9 ne y kvs) a))):=by
 have g:=(C.gl _ _ hv).dict hd;obtain⟨A,e1,hp⟩:=tw (p:=p) C hg g;rintro pins s O H Q I ⟨m,Z,st,rf,rh,w⟩;refine mV (A8 g ne) ha hp hb pins s O H Q I ⟨m,Z,st,rf,rh,ae C.mono a (λv st1 k m1 H1 x1 e2 r1 r2=>?_) w⟩;obtain⟨z,rfl,k⟩:=cj k;rw[Z8] at r2;subst r2;exact⟨z,A,rfl,rfl,e1,k m1 _ _ e2 r1 (ZW.mpr rfl)⟩
def HI (C:ZD X c U){l:Expr}{y:Str}{p pos:Pos}{kvs:List (Str × Int)}{v:PV}{a:E}{ne:Bool}(hb:behindInMarks (if ne then .NotIn else .In) (.Name y p)=false)(hg:c.X7 y=true)(hv:c.gl.lookup y=some v)(hd:mj v=some kvs)(ha:PE X l (Zv X.K (Z_ U a))) :
  PT X (.Compare l [if ne then .NotIn else .In] [.Name y p] pos) (Ue X.K (YW U (.un (.V9 ne y kvs) a))):=by
 have g:=(C.gl _ _ hv).dict hd;obtain⟨A,e1,hp⟩:=tw (p:=p) C hg g;rintro pins s O H Q I ⟨m,Z,st,rf,rh,w⟩;refine mT (A8 g ne) ha hp hb pins s O H Q I ⟨m,Z,st,rf,rh,ae C.mono a (λv st1 k m1 H1 x1 e2 r1 r2=>?_) w⟩;obtain⟨z,rfl,k⟩:=cj k;rw[Z8] at r2;subst r2;obtain⟨b,eb,k⟩:=k;cases eb;exact⟨z,A,rfl,rfl,e1,_,rfl,k m1 _ e2 r1⟩
def HC {kvs:List (Str × Int)}{n:Str}(g:GD X.prog X.w X.K X.mg n kvs):Uc X (λx y H Q=>∃z a i,y=.str z/\x=.ref a/\X.mg n=some (.ref a)/\kvs.lookup z=some i/\Q (.int i) H):=by intro value slice pins s O H x y v u Q I rx ry h hs;obtain⟨z,a,i,rfl,rfl,em,el,q⟩:=h;obtain⟨a',f,e1,e2,e3,e4⟩:=g.at (z:=z) (Inv.Wd I);rw[em] at e1;cases e1;cases rx;have r:=e4 z;rw[el] at r;obtain⟨w',hw,rw'⟩:=XJ.some_of (v:=.int i) r;refine tail_any (ops:=[.ref a,u]) (e3.typeIs) PySem.F.slot_dict_getitem.lookup ?_ hs;exact wpAny_getItem_of (uc (k:=.inr z) ry) e3 hw ⟨.int i,H,I.tok _,rw',q⟩
def Hz (C:ZD X c U){r:Expr}{y:Str}{p pos:Pos}{kvs:List (Str × Int)}{v:PV}{a:E}(hn:iM r=true)(hg:c.X7 y=true)(hv:c.gl.lookup y=some v)(hd:mj v=some kvs)(ha:PE X r (Zv X.K (Z_ U a))) :
  PE X (.Subscript (.Name y p) r pos) (Zv X.K (Z_ U (.un (.VG y kvs) a))):=by
 have g:=(C.gl _ _ hv).dict hd;obtain⟨A,e1,hp⟩:=tw (p:=p) C hg g;rintro pins s O H Q I ⟨m,Z,st,rf,rh,w⟩;refine AQ (HC g) hp ha hn pins s O H Q I ⟨m,Z,st,rf,rh,ae C.mono a (λv st1 k m1 H1 x1 e2 r1 r2=>?_) w⟩;obtain⟨z,rfl,i,h1,k⟩:=cj k;rw[Z8] at r2;subst r2;exact⟨z,A,i,rfl,rfl,e1,h1,k m1 _ _ e2 r1 (Z9.mpr rfl)⟩
noncomputable def Vt:Value->Bool
 | .none=>true
 | _=>false
theorem JL {pins:List (Addr × Obj)}{O:L2.St}{H:Hp}{s:Shared}{m:List Addr}(I:L2.Inv X pins O H s):∀ {xs:List PV}{ys:List V}{us:List Value},Rs X.K m H xs ys->Vals ys us->xs.all (λv=>(eR v || xm v))=true ->
  (∀u∈us,u=.none\/∃t its,u=.ref t/\s.heap.IsTuple t its)/\us.any Vt=xs.any eR
 | [],ys,us,r,v,h=>by rw[Z5] at r;subst r;cases v;exact⟨λu hu=>absurd hu List.not_mem_nil,rfl⟩
 | x::xs,ys,us,r,v,h=>by
  rw[a8] at r;obtain⟨y,ys,rfl,r1,r2⟩:=r;cases v with
  | cons v1 v2 =>
   rename_i u us;rw[OB,MG,QE] at h;obtain⟨a,b⟩:=JL I r2 v2 h.2;rw[O9,O9,b];rcases h.1 with h1|h1
   ·cases x with
    | non =>
     rw[Zo] at r1;subst r1;cases (show u=Value.none from v1);exact⟨λz hz=>by
      rcases MU.mp hz with e|e
      ·exact .inl e
      ·exact a z e,rfl⟩
    | _=>cases h1
   ·cases x with
    | tup zs =>
     rw[ZM] at r1;obtain⟨t,qs,rfl,g,_⟩:=r1;cases (show u=Value.ref t from v1);obtain⟨its,_,it,_⟩:=I.tuple g;exact⟨λz hz=>by
      rcases MU.mp hz with e|e
      ·exact .inr ⟨t,_,e,it⟩
      ·exact a z e,rfl⟩
    | _=>cases h1
def yH (hu:X.A.units+64<cLine):Y9 X (compareOp .In) (λx y H Q=>∃m a ys xs,x=.non/\y=.ref a/\Zr X.K H a ys/\Rs X.K m H xs ys/\xs.all (λv=>(eR v || xm v))=true/\Q (.bl (xs.any eR)) H):=by
 intro pins s O H x y v u Q I rx ry h;obtain⟨m,a,ys,xs,rfl,rfl,g,r,ha,q⟩:=h;cases ry;cases (show v=Value.none from rx);obtain⟨its,ri,pl,_⟩:=I.list g;obtain⟨h1,h2⟩:=JL I r ri ha;refine SeqAt.in_listAt Vt pl.isList (λz hz=>?_) ?_
 ·rcases h1 z (by simp_all) with e|⟨t,ts,e,it⟩
  ·subst e;exact .same _
  ·subst e;exact .tuple_none it (P1 (PJ _ 63) hu)
 ·rw[List.any_toArray,h2];exact⟨.bl _,H,I,rfl,q⟩
def Ea (C:ZD X c U){r:Expr}{k0:Nat}{p0 pos:Pos}{a:E}(hb:behindInMarks .In r=false)(ha:PE X r (Zv X.K (Z_ U a))) :
  PE X (.Compare (.Constant .none k0 p0) [.In] [r] pos) (Zv X.K (Z_ U (.un .Yh a))):=by
 rintro pins s O H Q I ⟨m,Z,st,rf,rh,w⟩;refine mV (yH C.room.units) vE ha hb pins s O H Q I ⟨m,Z,st,rf,rh,ae C.mono a (λv st1 k m1 H1 x1 e2 r1 r2=>?_) w⟩;obtain⟨xs,h1,h2,k⟩:=k;obtain⟨b,ys,rfl,g,ry⟩:=bF r1 r2 h1;exact⟨m1,b,ys,xs,rfl,rfl,g,ry,h2,k m1 _ _ e2 r1 (ZW.mpr rfl)⟩
def D3 (C:ZD X c U){r:Expr}{k0:Nat}{p0 pos:Pos}{a:E}(hb:behindInMarks .In r=false)(ha:PE X r (Zv X.K (Z_ U a))) :
  PT X (.Compare (.Constant .none k0 p0) [.In] [r] pos) (Ue X.K (YW U (.un .Yh a))):=by
 rintro pins s O H Q I ⟨m,Z,st,rf,rh,w⟩;refine mT (yH C.room.units) vE ha hb pins s O H Q I ⟨m,Z,st,rf,rh,ae C.mono a (λv st1 k m1 H1 x1 e2 r1 r2=>?_) w⟩;obtain⟨xs,h1,h2,d,ed,k⟩:=k;obtain⟨b,ys,rfl,g,ry⟩:=bF r1 r2 h1;exact⟨m1,b,ys,xs,rfl,rfl,g,ry,h2,_,rfl,by cases ed;solve_by_elim⟩
def zA (its:Array Value):slicePick its none none (some (-1))=its.toList.reverse.toArray:=by
 rw[<-Ca];have e:sliceBounds none none (some (-1)) its.size=((its.size:Int)-1,-1,-1):=rfl;unfold slicePick;rw[e];unfold sliceRange;have c1:(if (its.size:Int)-1 > -1 then ((its.size:Int)-1 - -1 - -1-1)/(- -1) else 0)=(its.size:Int):=by
  by_cases z:(its.size:Int)-1 > -1
  ·simp[*]
  ·rw[MM z];lia
 rw[MM (show ¬((-1:Int) > 0) by simp)];dsimp only;rw[c1,NO,List.filterMap_map];congr 2;funext k;simp
def D7 {e st:Expr}{te:TE}{ts:TE}{p2 pos:Pos}(he:PE X e te)(hs:PE X st ts)(h1:∀ {O H Q},Q (.int (-1)) H->ts O H Q) :
  PE X (.Subscript e (.Slice none none (some st) p2) pos) (λO H Q=>te O H λx H1=>∃a ys,x=.ref a/\Zr X.K H1 a ys/\∀p,H1 p=none->Q (.ref p) (upd H1 p (.lst ys.reverse))):=by
 intro pins s O H Q I h;refine Subscript_ (ZP (he pins s O H _ I h) λv s1 ⟨x,H1,I1,r1,q1⟩=>?_);refine wpAny_Slice ?_;rw[evalPart_none];refine MC ?_;rw[evalPart_some];refine MC ?_;refine ZP (hs pins s1 O H1 (λy H2=>H2=H1/\y=.int (-1)) I1 (h1 ⟨rfl,rfl⟩)) λu s3 ⟨y,H3,I3,r3,e1,e2⟩=>?_;subst e1 e2;obtain⟨t3,rfl⟩:=r3;obtain⟨a,ys,rfl,ha,q⟩:=q1;cases r1;have I4:=I3.kept (t':=s3.toks) λb ob q=>MB { cls:=.type "slice",data:=.fields #[.none,.none,.int (-1) t3] } q;obtain⟨its,ri,pl,lz⟩:=I4.list ha;have hsz:its.toArray.size<=sizeLine:=by rw[NL,<-ri.length];exact lz
 refine tail_any (ops:=[.ref a,.ref s3.heap.objs.size]) pl.isList.typeIs slot_list_getitem.lookup ?_ (by solve_by_elim);refine wpAny_getItem_list_slice pl.isList (QI ..) .none .none (.int (-1) t3) (by simp) ?_ hsz;rw[zA];refine⟨.ref _,_,I4.laid (t':=s3.toks) (o:=.lst ys.reverse) (λb ob q=>MB _ q) (MJ _) ?_,rfl,q _ (I4.hok.fresh (MJ _))⟩;exact⟨by simp_all,its.reverse,0,Vals.rev ri,MH _ rfl⟩
def DN (C:ZD X c U){a:E}{u:Expr}{p4 p5 p6 p7:Pos}{k7:Nat}(ha:PE X u (Zv X.K (Z_ U a))) :
  PE X (.Subscript u (.Slice none none (some (.UnaryOp .USub (.Constant (.int 1) k7 p7) p6)) p5) p4) (Zv X.K (Z_ U (.un .X3 a))):=by
 intro pins s O H Q I h;obtain⟨m,Z,st,rf,rh,w⟩:=h;refine D7 (X:=X) (p2:=p5) (pos:=p4) ha (Cc (pos:=p6) vD (sP (X:=X) (i:=1) (j:=k7) (pos:=p7))) (λ{O H Q} q=>⟨1,rfl,q⟩) pins s O H Q I ?_;refine⟨m,Z,st,rf,rh,ae C.mono a (λv st1 k m1 H1 x1 e1 r1 r2=>?_) w⟩;obtain⟨xs,hx,k⟩:=k;obtain⟨b,ys,rfl,g,ry⟩:=bF r1 r2 hx;exact⟨b,ys,rfl,g,λp hp=>(k.ext e1).newL r1 ry.rev hp⟩
def Bk:Wk X "dict.get" (λx xs H Q=>∃a z kvs,x=.ref a/\xs=[.str z]/\H a=some (.dK kvs)/\Q ((nH kvs (.inr z)).getD .non) H):=by rintro pins s O H x xs v us Q I rx rv ⟨a,z,kvs,rfl,rfl,g,q⟩;cases rx;obtain⟨u,rfl,ru⟩:=cC rv;obtain⟨y,hd,vs,rel,dd⟩:=GT I.hok (.inl g);refine call_meetsIn O_ dd.typeIs PySem.F.entry_dict_get (PySem.F.args_dict_get_2 _ _) (meets_dict_get (cA X.prog X.w) a (uc (k:=.inr z) ru) hd) ⟨_,dd.mapOf,_,H,I.tok _,?_,q⟩;exact(rel.val (.inr z)).getD rfl
def Ao:Wk X "dict.get" (λx xs H Q=>∃a z i kvs,x=.ref a/\xs=[.str z,.int i]/\H a=some (.dK kvs)/\Q ((nH kvs (.inr z)).getD (.int i)) H):=by rintro pins s O H x xs v us Q I rx rv ⟨a,z,i,kvs,rfl,rfl,g,q⟩;cases rx;obtain⟨u,u2,rfl,ru,ru2⟩:=jV rv;obtain⟨y,hd,vs,rel,dd⟩:=GT I.hok (.inl g);refine call_meetsIn O_ dd.typeIs PySem.F.entry_dict_get (PySem.F.args_dict_get_3 _ _ _) (meets_dict_get_default (cA X.prog X.w) a (uc (k:=.inr z) ru) hd u2) ⟨_,dd.mapOf,_,H,I.tok _,?_,q⟩;exact(rel.val (.inr z)).getD ru2
theorem vA {pos:Pos}:∀ {ks:List (Option Expr)}{vs:List Expr}{kvs:List (Str × Int)}{s:Shared}{Q:List (Value × Value)->Shared->Prop},u_ ks vs kvs=true ->
  (∀n us ws,Carries (cA X.prog X.w) us ws->KV (kvs.map λp=>((Sum.inr p.1:Key),V.int p.2)) ws->Q us { s with toks:=n })->wpAny (model X.prog X.w) X.A (evalPairs (pairTrees ks vs X.env pos)) Q X.xe s
 | [],[],[],s,Q,h,q=>pairTrees_nil_walk (q s.toks [] [] trivial .nil)
 | k::ks,v::vs,p::kvs,s,Q,h,q=>by replace h:(eU k (λk=>iB k λz=>z == p.1) && jc v (λi=>i == p.2) && u_ ks vs kvs)=true:=h;simp only[bi] at h;obtain⟨⟨h1,h2⟩,h3⟩:=h;replace h1:=bM h1;obtain⟨k,rfl,h1⟩:=h1;replace h1:=dk h1;obtain⟨z,j1,p1,rfl,h1⟩:=h1;replace h2:=fh h2;obtain⟨i,j2,p2,rfl,h2⟩:=h2;rw[OO] at h1 h2;subst h1 h2;refine pairTrees_cons_walk (Calls.Constant_str (wpAny_Constant_int ?_));exact vA (s:={ s with toks:=s.toks+1+1 }) h3 λn us ws c kv=>q n _ ((.inr p.1,.int p.2 (s.toks+1))::ws) ⟨fM _ _ _ _,rfl,c⟩ (.cons ⟨rfl,⟨_,rfl⟩⟩ kv)
 | [],[],_::_,_,_,h,_=>bd (show false=true from h)
 | [],_::_,_,_,_,h,_=>bd (show false=true from h)
 | _::_,[],_,_,_,h,_=>bd (show false=true from h)
 | _::_,_::_,[],_,_,h,_=>bd (show false=true from h)
theorem qf:∀ {ks:List (Option Expr)}{vs:List Expr}{kvs:List (Str × Int)},u_ ks vs kvs=true->ks.all (·.isSome)=true/\ks.length=vs.length/\ks.length=kvs.length
 | [],[],[],_=>⟨rfl,rfl,rfl⟩
 | k::ks,v::vs,p::kvs,h=>by replace h:(eU k (λk=>iB k λz=>z == p.1) && jc v (λi=>i == p.2) && u_ ks vs kvs)=true:=h;simp only[bi] at h;obtain⟨⟨h1,_⟩,h3⟩:=h;replace h1:=bM h1;obtain⟨k,rfl,h1⟩:=h1;obtain⟨a,b,c⟩:=qf h3;exact⟨a,NS (·+ 1) b,NS (·+ 1) c⟩
 | [],[],_::_,h=>bd (show false=true from h)
 | [],_::_,_,h=>bd (show false=true from h)
 | _::_,[],_,h=>bd (show false=true from h)
 | _::_,_::_,[],h=>bd (show false=true from h)
theorem yP:∀ {ks:List (Key × V)}{ws:List (Key × Value)},KV ks ws->ws.map (·.1)=ks.map (·.1)/\ws.length=ks.length
 | _,_,.nil=>⟨rfl,rfl⟩
 | _,_,.cons h t=>by
  obtain⟨a,b⟩:=yP t
  simp_all
def DK {ks:List (Option Expr)}{vs:List Expr}{kvs:List (Str × Int)}{pos:Pos}(h:u_ ks vs kvs=true)(nd:(kvs.map (·.1)).Nodup)(h0:kvs≠[])(h1:kvs.length<=15) :
  PE X (.Dict ks vs pos) (λO H Q=>∀p,H p=none->Q (.ref p) (upd H p (.dK (kvs.map λp=>(.inr p.1,.int p.2))))):=by
 intro pins s O H Q I q;obtain⟨a1,a2,a3⟩:=qf h;have hn:=I.hok.fresh (MJ s.heap.objs.size);have hb:(s.heap.objs.size == sysModules)=false:=beq_eq_false_iff_ne.mpr (Ne.symm (MV (DD I)));refine wpAny_Dict_walk (knd:=cA X.prog X.w) a1 a2 (λz=>by rw[z] at a3;grind) (by simp_all) ?_;refine vA h λn us ws c kv=>?_;obtain⟨e1,e2⟩:=yP kv;have nw:(ws.map (·.1)).Nodup:=by
  rw[e1,N2];have:(kvs.map ((λp:Key × V=>p.1) ∘ λp=>((Sum.inr p.1:Key),V.int p.2)))=(kvs.map (·.1)).map Sum.inr:=by rw[N2];rfl
  rw[this];exact List.Pairwise.map Sum.inr (λa b hne z=>hne (Sum.inr.inj z)) nd
 refine⟨ws,c,Heap.DictOf.new _,λh' dd hs=>?_⟩;rw[PySem.merged_nil_of_nodup _ nw] at dd;refine⟨.ref _,_,I.laid (a:=s.heap.objs.size) (o:=.dK (kvs.map λp=>(.inr p.1,.int p.2))) (λb o e=>?_) (MJ _) ⟨by rw[MI,sizeLine_eq];lia,hb,ws,kv,dd⟩,rfl,q _ hn⟩;exact(hs.2 b (MV (MQ e))).trans (MB _ e)
def uT {kvs:List (Str × Int)}{z:Str}{d:Option Int}{K:W.Frag}{m:List Addr}{H:Hp}:R K m H (match kvs.lookup z with|some i=>.int i|none=>RM d) ((nH (kvs.map λp=>((Sum.inr p.1:Key),V.int p.2)) (.inr z)).getD (match d with|some i=>.int i|none=>.non)):=by
 rw[vP];cases kvs.lookup z with
 | some i=>solve_by_elim
 | none=>cases d with|some i=>solve_by_elim|none=>solve_by_elim
def DA (C:ZD X c U){ks:List (Option Expr)}{vs:List Expr}{kvs:List (Str × Int)}{d:Option Int}{n:Str}{u:Expr}{r:List Expr}{dp ap cp:Pos}{a:E}(h:u_ ks vs kvs=true)(nd:(kvs.map (·.1)).Nodup)(h0:kvs≠[])(h1:kvs.length<=15)(hd:LB d r=true)
  (hn:n="get") (hl:(ap.endLine == cp.line)=true) (hs:ao u=true) (hb:PE X u (Zv X.K (Z_ U a))):PE X (.Call (.Attribute (.Dict ks vs dp) n ap) (u::r) [] cp) (Zv X.K (Z_ U (.un (.Yn kvs d) a))):=by
 subst hn;intro pins s O H Q I hh;obtain⟨m,Z,st,rf,rh,w⟩:=hh;have hu:X.A.units+64<cLine:=C.room.units;have step:∀p,H p=none->Zv X.K (Z_ U a) O (upd H p (.dK (kvs.map λp=>(.inr p.1,.int p.2)))) (λy H2=>∃z,y=.str z/\H2 p=some (.dK (kvs.map λp=>(.inr p.1,.int p.2)))/\∀v,(∀m,R X.K m H2 (match kvs.lookup z with|some i=>.int i|none=>RM d) v)->Q v H2):=λp hp=>by have x0:=Ext.ZG (o:=.dK (kvs.map λp=>((Sum.inr p.1:Key),V.int p.2))) rh hp;refine⟨m,Z,st,rf.mono x0,rh.ZG hp,ae C.mono a (λv st1 k m1 H1 x1 e1 r1 r2=>?_) w⟩;obtain⟨z,rfl,k⟩:=cj k;rw[Z8] at r2;subst r2;exact⟨z,rfl,e1.fr p _ (.inl (rh.fresh hp)) bq,λv hv=>k m1 _ _ (x0.trans e1) r1 (hv m1)⟩
 have hO:=DK (X:=X) (pos:=dp) h nd h0 h1;cases d with
 | none =>
  cases r with
  | cons _ _=>exact bd (show false=true from hd)
  | nil =>refine l' PySem.F.plainAttrs_dict O_ PySem.F.type_dict_get Bk hO (Yy hb bD hs) rfl (by rw[ay hs];rfl) hl (ay hs) rfl pins s O H Q I λp hp=>⟨.inr ⟨rfl,_,bq⟩,?_⟩;obtain⟨m0,Z0,st0,q1,q2,q3⟩:=step p hp;refine⟨m0,Z0,st0,q1,q2,ae C.mono a (λv st1 k m1 H1 x1 e1 r1 r2=>?_) q3⟩;obtain⟨z,rfl,g,k⟩:=k m1 H1 x1 e1 r1 r2;exact⟨p,z,_,rfl,rfl,g,k _ λm=>uT (d:=none)⟩
 | some i =>replace hd:=br (show X_ r (λw=>jc w λj=>j == i)=true from hd);obtain⟨w1,rfl,hd⟩:=hd;replace hd:=fh hd;obtain⟨j,j2,p2,rfl,hd⟩:=hd;rw[OO] at hd;subst hd;refine l' PySem.F.plainAttrs_dict O_ PySem.F.type_dict_get Ao hO (Yy hb (Yy sP bD rfl) hs) rfl (by rw[ay hs];rfl) hl (ay hs) rfl pins s O H Q I λp hp=>⟨.inr ⟨rfl,_,bq⟩,?_⟩;obtain⟨m0,Z0,st0,q1,q2,q3⟩:=step p hp;refine⟨m0,Z0,st0,q1,q2,ae C.mono a (λv st1 k m1 H1 x1 e1 r1 r2=>?_) q3⟩;obtain⟨z,rfl,g,k⟩:=k m1 H1 x1 e1 r1 r2;exact⟨p,z,j,_,rfl,rfl,g,k _ λm=>uT (d:=some j)⟩
end
open Builtin Builtin.Str in
def wF (x:Str)(t u v k:Tok)(hu:u≠0)(hv:v≠0)(huv:u≠v)(hl:x.length<=200000) :
  Gives (Builtin.«str.replace» ⟨[.str x t,.str " " u,.str "  " v,.int 1 k],[]⟩) (if (occurrences x (" ":Str) 0 x.length 1).isEmpty=true then .val (.str x t) else .str (glued "  " (partsBetween x (occurrences x (" ":Str) 0 x.length 1) 1))):=by
 show Gives (if ((occurrences x (" ":Str) 0 x.length 1).isEmpty || ((" ":Str).length == 0 && ("  ":Str).length == 0))=true then (do rule "str.replace.nothing";ret (.str x t)) else
     (do
      let same <-isSame (.str " " u) (.str "  " v)
      if same=true then (do rule "str.replace.old-is-new";ret (.str x t)) else
      if tooLong (x.length+(occurrences x (" ":Str) 0 x.length 1).length*("  ":Str).length)=true then unsupported "str.replace:memory" else
      retStr (glued "  " (partsBetween x (occurrences x (" ":Str) 0 x.length 1) (" ":Str).length)))) _
 have h1:(occurrences x (" ":Str) 0 x.length 1).length<=1:=StrLaws.occ_length_le _ _ _ _ _;have hf:tooLong (x.length+(occurrences x (" ":Str) 0 x.length 1).length*("  ":Str).length)=false:=by have h2:(occurrences x (" ":Str) 0 x.length 1).length*("  ":Str).length<=1*2:=Nat.mul_le_mul h1 (by decide);unfold tooLong;rw[sizeLine_eq];exact M8 (by omega)
 rw [show ((" ":Str).length == 0 && ("  ":Str).length == 0)=false by decide,Bool.or_false];cases hc:(occurrences x (" ":Str) 0 x.length 1).isEmpty
 ·rw[isSame_str_other _ _ u v (by simp[hu,hv]) (by simp[huv]) (by decide),hf];exact .of_eq rfl
 ·exact .rule (.of_eq rfl)
def xM (x:Str):(if (Builtin.Str.occurrences x (" ":Str) 0 x.length 1).isEmpty=true then x else Builtin.Str.glued "  " (Builtin.Str.partsBetween x (Builtin.Str.occurrences x (" ":Str) 0 x.length 1) 1))=ox x:=by
 have h1:(Builtin.Str.occurrences x (" ":Str) 0 x.length 1).length<=1:=StrLaws.occ_length_le _ _ _ _ _;unfold ox
 match h:Builtin.Str.occurrences x (" ":Str) 0 x.length 1,h1 with
 | [],_=>rfl
 | [i],_ =>refine NS Str.mk ?_;show (Builtin.Str.strSub x 0 i).cps++("  ":Str).cps++(Builtin.Str.strSub x (i+1) x.length).cps=_;rw[Array.append_assoc];rfl
def Ab (x:Str):(ox x).length<=x.length+2:=by
 unfold ox;split
 ·rename_i i r h;have e1:(Builtin.Str.strSub x 0 i).length<=i:=by show (x.cps.extract 0 i).size<=i;rw[QO];omega
  have e2:(Builtin.Str.strSub x (i+1) x.length).length<=x.length-(i+1):=by show (x.cps.extract (i+1) x.length).size<=_;rw[QO];omega
  have e3:(Builtin.Str.strSub x 0 i).length<=x.length:=by show (x.cps.extract 0 i).size<=x.cps.size;rw[QO];omega
  rw [strLen_append,strLen_append,show ("  ":Str).length=2 by decide];omega
 ·omega
section
variable {X:Cx}{c:Cfg}{U:Nat->ZX}{prog:Program}{w:World}{A:Around}{E:Value->Shared->Prop}{s:Shared}
def zj {x:Str}{t u v k:Tok}{Q:Value->Shared->Prop}(hu:u≠0)(hv:v≠0)(huv:u≠v)(hl:x.length<=200000)(hq:∀t' k,Q (.str (ox x) t') { s with toks:=k }):wpAny (model prog w) A (call (.builtin "str.replace") [.str x t,.str " " u,.str "  " v,.int 1 k]) Q E s:=by
 refine call_gives PySem.F.slot_str_replace (typeIs_str _ _ _) PySem.F.entry_str_replace (PySem.F.args_str_replace_4 _ _ _ _) (wF x t u v k hu hv huv hl) ?_;rw[<-xM] at hq;cases hc:(Builtin.Str.occurrences x (" ":Str) 0 x.length 1).isEmpty
 ·rw[hc] at hq;simp only[Bool.false_eq_true,if_false] at hq |-
  exact⟨MX (le_of_eq_of_le (by rw[<-xM,hc];simp) (Ab x)) (by rw[sizeLine_eq];omega),hq _ _⟩
 ·rw[hc] at hq;simp only[if_true] at hq |-
  exact hq t s.toks
def Dr {x y:Str}{t u:Tok}{Q:Value->Shared->Prop}(hl:x.length+y.length<=sizeLine)(h:∀t' k,s.toks<=k->Q (.str (x++y) t') { s with toks:=k }):wpAny (model prog w) A (binaryOp .Add (.str x t) (.str y u)) Q E s:=by
 refine PySem.P.add_str ?_;cases hx:x.length == 0
 ·cases hy:y.length == 0
  ·exact⟨by rw[strLen_append];exact hl,h _ _ (RD _)⟩
  ·rw[Str.append_right_empty hy] at h;exact h t s.toks (MJ _)
 ·rw[Str.append_left_empty hx] at h;exact h u s.toks (MJ _)
def xy {pins:List (Addr × Obj)}{O:L2.St}{H:Hp}{s:Shared}{i:Nat}{x:Str}{v:V}{pos:Pos}(I:L2.Inv X pins O H s)(C:ZD X c U)(h:(c.N[i]? == some x && c.XH x)=true)(e:O[i]?=some (some v)) :
  ∃u,RelV v u/\∀Q:Value->Shared->Prop,Q u s->wpAny (model X.prog X.w) X.A (eval (.Name x pos) X.env) Q X.xe s:=by
 simp only[bi,beq_iff_eq] at h;obtain⟨h1,h2,h3⟩:=C.WN h.2;obtain⟨ml,hn,hl⟩:=I.loc;obtain⟨u,r,⟨hk,hm⟩|⟨hk|hk,cc,hc,hcell⟩⟩:=hl i x v (by rw[C.N];exact h.1) e h1
 ·exact⟨u,r,λQ q=>wpAny_Name (wpAny_loadName_local I.ok.kind hk hn hm q) h2⟩
 ·exact⟨u,r,λQ q=>wpAny_Name (wpAny_loadName_cell I.ok.kind hk hc hcell q) h2⟩
 ·exact⟨u,r,λQ q=>wpAny_Name (wpAny_loadName_free I.ok.kind hk hc hcell q h3) h2⟩
def Jg (C:ZD X c U){i j k1 k2 k3 k4:Nat}{z x1 x2 n:Str}{q1 q2 q3 q4 q5 q6 q7 ap cp:Pos}{ys:List Expr}{es:Es}(h1:(c.N[i]? == some x1 && c.XH x1)=true)(h2:(c.N[j]? == some x2 && c.XH x2)=true)(hl:(ap.endLine == cp.line)=true)(hn:n="replace")(hr:PA X ys (V3 X.K (bT U es))) :
  PA X (.BinOp (.Name x1 q1) .Add (.Constant (.str z) k1 q2) q3::.Call (.Attribute (.Name x2 q4) n ap) [.Constant (.str " ") k2 q5,.Constant (.str "  ") k3 q6,.Constant (.int 1) k4 q7] [] cp::ys) (V3 X.K (bT U (.VL i z j es))):=by
 subst hn;intro pos pins s O H Q I ⟨m,Z,st,rf,rh,w⟩;rw[wO] at w;obtain⟨v,e1,w⟩:=gu w;obtain⟨a,rfl,w⟩:=cj w;obtain⟨u,e2,w⟩:=gu w;obtain⟨b,rfl,g1,g2,g3,g4,w⟩:=cj w;obtain⟨y1,f1,r1⟩:=rf.at_ i _ e1;obtain⟨y2,f2,r2⟩:=rf.at_ j _ e2;rw[Z8] at r1 r2;subst r1 r2;rw[ay rfl,ay rfl];show wpAny _ _ (spliced ((false,_)::(false,_)::backTo pos (starEach ys X.env))) _ _ s;obtain⟨ua,⟨ta,rfl⟩,ka⟩:=xy (pos:=q1) I C h1 f1;refine Calls.spliced_cons (wpAny_BinOp (ka _ (Calls.Constant_str (Dr (by rw[sizeLine_eq];omega) λt1 n1 hn1=>?_))));have I1:=I.tok n1;obtain⟨ub,⟨tb,rfl⟩,kb⟩:=xy (pos:=q4) I1 C h2 f2;have hp:0<n1:=ML (Nat.succ_pos _) hn1;refine Calls.spliced_cons (wpAny_Call_method_late rfl rfl hl rfl (kb _ ⟨"str","str.replace",N3,PySem.F.slot_str_replace,PySem.F.type_str_replace,typeIs_str _ _ _,(λ_ e=>nomatch e),?_⟩));refine Calls.callWith_builtin rfl (Calls.evalArgs_plain (Calls.spliced_cons (Calls.Constant_str (k:=k2) (pos:=q5) (Calls.spliced_cons (Calls.Constant_str (k:=k3) (pos:=q6) (Calls.spliced_cons (wpAny_Constant_int (k:=k4) (pos:=q7) (Calls.spliced_nil ?_))))))));refine zj (OE hp) (Nat.succ_ne_zero _) (MV (OA _)) (by omega) λt2 n2=>?_;refine ZP (hr pos pins _ O H (λvs H1=>Q (V.str (a++z)::V.str (ox b)::vs) H1) (I.tok n2) ⟨m,Z,st,rf,rh,aD C.mono es (λvs st1 k m1 H1 Vy x1 p1 p2=>?_) w⟩) λus s2 ⟨vs,H2,I2,r3,q⟩=>⟨V.str (a++z)::V.str (ox b)::vs,H2,I2,.cons ⟨t1,rfl⟩ (.cons ⟨t2,rfl⟩ r3),q⟩;exact k m1 H1 _ x1 p1 (by rw[Z7,Z7,Z8,Z8];exact⟨rfl,rfl,p2⟩)
end
section
variable {X:Cx}{c:Cfg}{U:Nat->ZX}
def wQ:cH X (.builtin "sorted") (λxs H Q=>∃(a:Addr) (L:List Addr),xs=[V.ref a]/\Zr X.K H a (L.map V.ref)/\L.length<=2/\(∀T∈L,∃i j,ZC X.K H T [V.int i,V.int j])/\∀L':List Addr,L'.Perm L->∀l,H l=none->Q (.ref l) (upd H l (.lst (L'.map V.ref)))):=by
 rintro pins s O H xs us Q I r ⟨a,L,rfl,g,h2,hT,q⟩;obtain⟨u,rfl,ru⟩:=cC r;cases ru;obtain⟨its,ri,pl,lz⟩:=I.list g;have eL:its=Y6 L:=by
  clear g h2 hT q pl lz
  induction L generalizing its with
  | nil=>cases ri;rfl
  | cons T L ih =>
   cases ri with
   | cons r1 r2=>rw[show Y6 (T::L)=Value.ref T::Y6 L from rfl,<-ih _ r2];solve_by_elim
 subst eL;have tq:∀T∈L,Tq s.heap T:=λT h=>by obtain⟨i,j,gt⟩:=hT T h;obtain⟨ts,rt,⟨o,e1,e2,n,e3⟩,_⟩:=I.tuple gt;obtain⟨u1,u2,rfl,⟨t1,rfl⟩,t2,rfl⟩:=jV rt;exact⟨o,i,t1,j,t2,n,e1,e2,e3⟩
 have lt:∀T∈L,T<s.heap.objs.size:=λT h=>by obtain⟨o,_,_,_,_,_,e,_⟩:=tq T h;exact MQ e
 refine Calls.call_function_entry kind_sorted plain_sorted entry_sorted (args_sorted1 _) ?_;unfold Builtin.«sorted»;refine MA (m:=checkCount "sorted" 1 1 _) (MC ?_);refine MA (collect_list pl.isList ?_);refine MA (wpAny_newList ?_);have hsz:((s.heap.push (seqObj "list" #[] 0)).update s.heap.objs.size (Obj.mapSeq (·++ (Y6 L).toArray))).objs.size=s.heap.objs.size+1:=by rw[Heap.size_update,size_push']
 have old:∀ {b o},s.heap.get? b=some o->(((s.heap.push (seqObj "list" #[] 0)).update s.heap.objs.size (Obj.mapSeq (·++ (Y6 L).toArray))).push (seqObj "list" (Y6 L).toArray 0)).get? b=some o:=λ{b o} e =>
  MB _ ((NA _ _ (OE (MQ e))).trans (MB _ e))
 have hoL:(((s.heap.push (seqObj "list" #[] 0)).update s.heap.objs.size (Obj.mapSeq (·++ (Y6 L).toArray))).push (seqObj "list" (Y6 L).toArray 0)).get? (s.heap.objs.size+1)=some (seqObj "list" (Y6 L).toArray 0):=by rw[<-hsz];exact MH _ rfl
 show wpAny _ _ _ _ _ { s with heap:=((s.heap.push (seqObj "list" #[] 0)).update s.heap.objs.size (Obj.mapSeq (·++ (Y6 L).toArray))).push (seqObj "list" (Y6 L).toArray 0) };rw[hsz];refine MA (NU (wpAny_call_entry slot_list_sort ⟨_,hoL,rfl⟩ entry_list_sort (z8 hoL (λT h=>(tq T h).kept λo e=>old e) (λT h=>MV (OW (lt T h))) h2 λL' p=>⟨_,rfl,MC ⟨_,rfl,?_⟩⟩) (args_list_sort _)));obtain⟨e,he⟩:=sortedAll_at s.heap (Y6 L) (Y6 L').toArray;refine⟨.ref (s.heap.objs.size+1),_,I.laid (t':=s.toks) (λb o=>sortedAll_old) (RD _) (show ZL X.prog X.w _ _ _ (.lst (L'.map V.ref)) from ⟨by rw[MI,p.length_eq,sizeLine_eq];lia,Y6 L',e,?_,he⟩),rfl,q L' p _ (I.hok.fresh (RD _))⟩;clear he p
 induction L' with
 | nil=>exact .nil
 | cons T L' ih=>solve_by_elim
theorem F4 {K:W.Frag}{m:List Addr}{H:Hp}:∀ {ps:List (Int × Int)}{ys:List V},Rs K m H (ps.map λp=>.tup [.int p.1,.int p.2]) ys->∃Zq:List ((Int × Int) × Addr),Zq.map (·.1)=ps/\ys=(Zq.map (·.2)).map V.ref/\∀z∈Zq,ZC K H z.2 [V.int z.1.1,V.int z.1.2]
 | [],ys,r=>by rw[Q8,Z5] at r;subst r;exact⟨[],rfl,rfl,λz h=>nomatch h⟩
 | p::ps,ys,r=>by
  rw[M3,a8] at r;obtain⟨y,ys,rfl,r1,r2⟩:=r;obtain⟨Zq,rfl,rfl,h⟩:=F4 r2;rw[ZM] at r1;obtain⟨T,qs,rfl,g,r3⟩:=r1;obtain⟨u1,u2,rfl,e1,e2⟩:=r3.two';rw[Z9] at e1 e2;subst e1 e2;exact⟨(p,T)::Zq,rfl,rfl,λz hz=>by
   rcases MU.mp hz with e|e
   ·subst e;exact g
   ·exact h z e⟩
theorem Ll {K:W.Frag}{m:List Addr}{H:Hp}:∀ {Zq:List ((Int × Int) × Addr)},(∀z∈Zq,ZC K H z.2 [V.int z.1.1,V.int z.1.2])->Rs K m H ((Zq.map (·.1)).map λp=>.tup [.int p.1,.int p.2]) ((Zq.map (·.2)).map V.ref)
 | [],_=>Z5.mpr rfl
 | z::Zq,h=>by simp only[List.map_cons,Z7];exact⟨ZM.mpr ⟨z.2,_,rfl,h z MP,by rw[Z7,Z7,Z9,Z9,Z5];solve_by_elim⟩,Ll λy hy=>h y (MD _ hy)⟩
def Ey (C:ZD X c U){y:Str}{u:Expr}{p p2:Pos}{a:E}(h1:y="sorted")(h2:c.blt y=true)(h6:ao u=true)(ha:PE X u (Zv X.K (Z_ U a))) :
  PE X (.Call (.Name y p2) [u] [] p) (Zv X.K (Z_ U (.un .X4 a))):=by
 obtain⟨a1,a2,a3,a4⟩:=C.Ys h2;have v1:bootBuiltins y=some (.builtin "sorted"):=by rw [h1];decide +kernel
 intro pins s O H Q I h;refine ff (pos:=p) (p:=p2) wQ a1 a4 v1 (Yy ha bD h6) a3 a2 h6 rfl pins s O H Q I ?_;obtain⟨m,Z,st,rf,rh,w⟩:=h;refine⟨m,Z,st,rf,rh,ae C.mono a (λv st1 k m1 H1 x1 e1 r1 r2=>?_) w⟩;obtain⟨ps,h3,h4,k⟩:=k;obtain⟨b,ys,rfl,g,ry⟩:=bF r1 r2 h3;obtain⟨Zq,rfl,rfl,hz⟩:=F4 ry;refine⟨b,Zq.map (·.2),rfl,g,by simp_all,λT hT=>?_,λL' pm l hl=>?_⟩
 ·obtain⟨z,hz',rfl⟩:=MR.mp hT;exact⟨_,_,hz z hz'⟩
 ·obtain⟨Zq',p',rfl⟩:=lU pm rfl;exact((k _ (p'.map (·.1))).ext e1).newL r1 (Ll λz hz'=>hz z (p'.mem_iff.mp hz')) hl
end
section
variable {U:Nat->ZX}
def oM (G:bj U){elt:E}{tg:Tg}{ifs:Ts}{Z:Fr}{x:PV}{st:AH}{k k':Option PV->AH->Prop}(hk:∀o st,k o st->k' o st)(q:nY U elt tg ifs Z x st k):nY U elt tg ifs Z x st k' :=
 bG G tg (λZ' st3 w=>dq G true ifs (λc Yr w=>by
  cases c with
  | true=>rw[MK rfl] at w |-;exact ae G elt (λv Yb w=>hk _ _ w) w
  | false=>solve_by_elim) w) q
def RH.Xq {K:W.Frag}{m:List Addr}{H:Hp}{st:AH}{D:Addr}{vs:List PV}{ys:List V}(h:RH K m H st)(Dm:D ∉ m)(hD:H D=some (.lst ys))(r:Rs K m H vs ys):RH K (m++[D]) H (st++[.lst vs]):=by
 have hp:m <+: m++[D]:=QL _ _;refine⟨by simp[h.len],QS.mpr ⟨h.nd,ND.mpr ⟨by simp,Q5⟩,λa ha b hb z=>?_⟩,λn c' a h1 h2=>?_⟩
 ·simp_all
 ·by_cases hn:n<st.length
  ·rw[M0 hn] at h1;rw[M0 (by rw[h.len];exact hn)] at h2;have hc:=h.at_ n c' a h1 h2;cases c';obtain⟨us,g1,g2⟩:=hc;exact⟨us,g1,g2.gen hp (λ_ _ q=>q) λ_ _ q=>q⟩
  ·rw[MY (by simp_all)] at h1;rw[MY (by rw[h.len];omega)] at h2;have hl:=h.len;by_cases hz:n-st.length=0
   ·rw[hz] at h1;rw[show n-m.length=0 by simp_all] at h2;simp at h1 h2;subst h1 h2;exact⟨ys,hD,r.gen hp (λ_ _ q=>q) λ_ _ q=>q⟩
   simp_all
def jW {X:Cx}{c:Cfg}(C:ZD X c U){nt:List Str}{caps:List Nat}{sc:Scope}(h:c.block nt caps sc=true) :
  YZ X sc/\(∀i∈caps,i<X.N.length)/\(∀x∈caps.filterMap (X.N[·]?),sc.names.lookup x=some .free)/\(∀x∈caps.filterMap (X.N[·]?),X.env.kindOf x=some .cell\/X.env.kindOf x=some .free)/\(nt++caps.filterMap (X.N[·]?)).Nodup:=by
 unfold Cfg.block at h;simp only[bi,List.all_eq_true,beq_iff_eq,decide_eq_true_eq,Bool.or_eq_true,Bool.not_eq_true',beq_eq_false_iff_ne] at h;obtain⟨⟨⟨⟨⟨⟨h1,h2⟩,h3⟩,h4⟩,h5⟩,h6⟩,h7⟩:=h;rw[C.N];refine⟨⟨h1,λy hy=>h2 y hy,λy hy e=>?_,λy hy e=>?_⟩,h5,λx hx=>(h6 x hx).1,λx hx=>C.U5 x (x9 (h6 x hx).2),h7⟩
 ·rcases h3 y hy with z|z
  ·solve_by_elim
  ·exact z
 ·rcases h4 y hy with z|z
  ·solve_by_elim
  ·exact C.U5 _ (x9 z)
def wa {X:Cx}{c:Cfg}(C:ZD X c U){nt:List Str}{caps:List Nat}{sc:Scope}(h:c.block nt caps sc=true){s2:Shared}{H2:Hp}{fp:List Addr}{A:Addr} :
  ZD (YQ X (nt++caps.filterMap (X.N[·]?)) s2 H2 fp sc A) (c.inner nt caps sc) U:=by
 obtain⟨S,k1,k2,k3,k4⟩:=jW C h;have Yw:∀x,sc.names.lookup x≠some .cell:=λx e=>S.Yw _ (NV e) rfl;refine⟨C.calm,PassesOwn.never,?_,?_,λx hx=>?_,λx hx=>?_,λx hx=>lookup_relabel_local hx,λx hx=>tI hx,?_,λx hx=>?_,C.room,C.fn,C.blt,C.gl,C.mono⟩
 ·show nt++caps.filterMap (X.N[·]?)=nt++caps.filterMap (c.N[·]?);rw[C.N]
 ·show (nt++caps.filterMap (c.N[·]?)).Nodup;rw[<-C.N];exact k4
 ·rcases hx with hx|hx|hx
  ·exact .inl (lookup_relabel_local hx)
  ·solve_by_elim
  ·rcases gz (env:=X.env) hx with z|z
   ·exact .inr (.inl z)
   ·exact .inr (.inr z)
 ·rcases hx with hx|hx
  ·exact⟨.inl (lookup_relabel_local hx),.inr (lookup_relabel_local hx)⟩
  solve_by_elim
 ·show Env.blockKind (compEnvC sc (fH X.env sc.names []) A X.env)=_;unfold Env.blockKind;show (if sc.kind.isAnnotationScope=true then _ else sc.kind)=_;rw[S.kind];rfl
 ·rcases hx with hx|hx
  ·solve_by_elim
  ·exact gz hx
def uY {X:Cx}{m1:List Addr}{H1:Hp}{st1:AH}{v:PV}{x1:V}{Q:EK}{P:V->Hp->Prop}{O:L2.St}(r1:RH X.K m1 H1 st1)(r2:R X.K m1 H1 v x1)(k:Xn .Vs v st1 Q)(h:∀ {b:Bool} p,H1 p=none->Q (.bl b) st1->P (.bl b) (upd H1 p (.lst []))) :
  K2 (kH) O H1 (λy H2=>∃a ys b,x1=.ref a/\Zr X.K H2 a ys/\y=.ref b/\H2 b=some (.lst [])/\P (.bl ys.isEmpty) H2):=by
 obtain⟨xs,h1,q⟩:=k;obtain⟨a,ys,rfl,g,ry⟩:=bF r1 r2 h1;refine⟨by simp,λp hp=>⟨a,ys,p,rfl,?_,rfl,bq,?_⟩⟩
 ·rcases g with (g|⟨w,g⟩)|g
  ·exact .inl (.inl (by rw[bg (dX g hp)];exact g))
  ·exact .inl (.inr ⟨w,by rw[bg (dX g hp)];exact g⟩)
  ·exact .inr g
 ·have e:ys.isEmpty=xs.isEmpty:=by have:=ry.len;cases xs <;> cases ys <;> first|rfl|(simp at this)
  rw[e];exact h p hp q
def E9 {X:Cx}{c:Cfg}(C:ZD X c U){a:E}{u:Expr}{ap cp p3 p4 p5 p6 p7:Pos}{k3 k7:Nat}(hl:(ap.endLine == cp.line)=true)(ha:PE X u (Zv X.K (Z_ U a))) :
  PE X (.Call (.Attribute (.Constant (.str "") k3 p3) "join" ap) [.Subscript u (.Slice none none (some (.UnaryOp .USub (.Constant (.int 1) k7 p7) p6)) p5) p4] [] cp) (Zv X.K (Z_ U (.Xg a))):=by
 intro pins s O H Q I h;obtain⟨m,Z,st,rf,rh,w⟩:=h;have hr:=DZ (X:=X) (p2:=p5) (pos:=p4) ha (Cc (pos:=p6) vD (sP (X:=X) (i:=1) (j:=k7) (pos:=p7))) (λ{O H Q} q=>⟨1,rfl,q⟩);refine l' N3 PySem.F.slot_str_join PySem.F.type_str_join Cg rO (Yy hr bD rfl) rfl rfl hl rfl rfl pins s O H Q I ?_;refine⟨rfl,m,Z,st,rf,rh,ae C.mono a (λv st1 k m1 H1 x1 e1 r1 r2=>?_) w⟩;obtain⟨n,z,rfl,h1,h2,k⟩:=k;obtain⟨b,ys,rfl,eb,g,ry⟩:=r1.lst h1 r2;obtain⟨y,rfl,hy⟩:=ry.one';rw[Z8] at hy;subst hy;refine ⟨b,_,rfl,g,λp hp=>⟨"",p,z,rfl,rfl,bq,h2,rfl,?_⟩⟩;exact k m1 _ _ (e1.trans (Ext.ZG r1 hp)) (r1.ZG hp) (Z8.mpr rfl)
def jt {y:Expr}(h:(fP y || vW y)=true){n:Str}{env:Env}{w:Sem Value}:attributeBase y n env w=w:=by cases y <;> first|rfl|cases h
def IV {X:Cx}{c:Cfg}(C:ZD X c U){k:SM}{a b:E}{u l:Expr}{ap cp:Pos}(hl:(ap.endLine == cp.line)=true)(hy:(fP u || vW u)=true)(hs:ao l=true)(ha:PE X u (Zv X.K (Z_ U a)))(hb:PE X l (Zv X.K (Z_ U b))) :
  PE X (.Call (.Attribute u (A5 k) ap) [l] [] cp) (Zv X.K (Z_ U (.XF k a b))):=by
 intro pins s O H Q I h;obtain⟨m,Z,st,rf,rh,w⟩:=h;have hB:PA X [l] (eQ (Zv X.K (Z_ U b)) kH):=Yy hb bD hs;cases k with
 | WL =>
  refine l' N3 PySem.F.slot_str_strip PySem.F.type_str_strip A7 ha hB (jt hy) (by rw[ay hs];rfl) hl (ay hs) rfl pins s O H Q I ?_;refine⟨m,Z,st,rf,rh,ae C.mono a (λv st1 k m1 H1 x1 e1 r1 r2=>?_) w⟩;obtain⟨⟨z,rfl⟩,k⟩:=k;rw[Z8] at r2;subst r2;refine⟨rfl,m1,Z,st1,rf.mono e1,r1,ae C.mono b (λv st2 k m2 H2 x2 e2 r3 r4=>?_) k⟩;cases v with
  | str w =>rw[Z8] at r4;subst r4;exact⟨z,w,rfl,rfl,k.1,k.2 m2 H2 _ (e1.trans e2) r3 (Z8.mpr rfl)⟩
  | _=>solve_by_elim
 | split =>
  refine l' N3 PySem.F.slot_str_split PySem.F.type_str_split By ha hB (jt hy) (by rw[ay hs];rfl) hl (ay hs) rfl pins s O H Q I ?_;refine⟨m,Z,st,rf,rh,ae C.mono a (λv st1 k m1 H1 x1 e1 r1 r2=>?_) w⟩;obtain⟨⟨z,rfl⟩,k⟩:=k;rw[Z8] at r2;subst r2;refine⟨rfl,m1,Z,st1,rf.mono e1,r1,ae C.mono b (λv st2 k m2 H2 x2 e2 r3 r4=>?_) k⟩;cases v with
  | str w =>obtain⟨h1,h2,h3,k⟩:=k;rw[Z8] at r4;subst r4;exact⟨z,w,rfl,rfl,by lia,eT h2,eT h3,λp hp=>((k.ext e1).ext e2).newL r3 wY hp⟩
  | _=>solve_by_elim
 | join =>refine l' N3 PySem.F.slot_str_join PySem.F.type_str_join DS ha hB (jt hy) (by rw[ay hs];rfl) hl (ay hs) rfl pins s O H Q I ?_;refine⟨m,Z,st,rf,rh,ae C.mono a (λv st1 k m1 H1 x1 e1 r1 r2=>?_) w⟩;obtain⟨⟨z,rfl⟩,k⟩:=k;rw[Z8] at r2;subst r2;refine⟨rfl,m1,Z,st1,rf.mono e1,r1,ae C.mono b (λv st2 k m2 H2 x2 e2 r3 r4=>?_) k⟩;obtain⟨ss,h2,h3,k⟩:=k;obtain⟨a,zs,rfl,g,rz⟩:=bF r3 r4 h2;obtain rfl:=mW rz;exact⟨z,a,ss,rfl,rfl,g,h3,k m2 H2 _ (e1.trans e2) r3 (Z8.mpr rfl)⟩
def Er {X:Cx}{c:Cfg}(C:ZD X c U){a:E}{u:Expr}{y:Str}{ap cp p3:Pos}{k3:Nat}(hl:(ap.endLine == cp.line)=true)(h0:(y.length == 0)=false)(hy:fP u=true)(ha:PE X u (Zv X.K (Z_ U a))) :
  PE X (.Call (.Attribute u "partition" ap) [.Constant (.str y) k3 p3] [] cp) (Zv X.K (Z_ U (.part a y))):=by
 intro pins s O H Q I h;obtain⟨m,Z,st,rf,rh,w⟩:=h;refine l' N3 PySem.F.slot_str_partition PySem.F.type_str_partition DQ ha (Yy rO bD rfl) (lg hy) rfl hl rfl rfl pins s O H Q I ?_;refine⟨m,Z,st,rf,rh,ae C.mono a (λv st1 k m1 H1 x1 e1 r1 r2=>?_) w⟩;obtain⟨z,rfl,h1,k⟩:=k;rw[Z8] at r2;subst r2;exact⟨rfl,z,y,rfl,rfl,h0,h1,λp hp=>(k.ext e1).ZG r1 IW hp⟩
def DE {X:Cx}{k:Bool}{a b:Expr}{rest:List Expr}{pos:Pos}{ta tb:TE}(ha:PE X a ta)(hb:PE X (.BoolOp (if k then .And else .Or) (b::rest) pos) tb):PE X (.BoolOp (if k then .And else .Or) (a::b::rest) pos) (λO H Q=>ta O H λx H1=>∃c,x=.bl c/\vT k c (tb O H1 Q) (Q (.bl (!k)) H1)):=by
 intro pins s O H Q I h;have g:=ha pins s O H _ I h;cases k
 ·refine BoolOp_or (ZP g λv s1 ⟨x,H1,I1,r1,c,e,q1⟩=>?_);subst e;cases r1;refine wpAny_truthy_bool ?_;cases c with|false=>exact hb pins s1 O H1 Q I1 q1|true=>exact⟨.bl true,H1,I1,rfl,q1⟩
 ·refine BoolOp_and (ZP g λv s1 ⟨x,H1,I1,r1,c,e,q1⟩=>?_);subst e;cases r1;refine wpAny_truthy_bool ?_;cases c with|false=>exact⟨.bl false,H1,I1,rfl,q1⟩|true=>exact hb pins s1 O H1 Q I1 q1
def EA {X:Cx}{k:Bool}{a b:Expr}{rest:List Expr}{pos:Pos}{ta tb:TT}(ha:PT X a ta)(hb:PW X (.BoolOp (if k then .And else .Or) (b::rest) pos) tb):PW X (.BoolOp (if k then .And else .Or) (a::b::rest) pos) (λO H Q=>ta O H λc H1=>vT k c (tb O H1 Q) (Q (!k) H1)):=by
 intro wh pins s O H Q I h;have g:=ha pins s O H _ I h;cases k
 ·refine isTrue_or (ZP g λc s1 ⟨H1,I1,q1⟩=>?_);cases c with|false=>exact hb _ pins s1 O H1 Q I1 q1|true=>exact⟨H1,I1,q1⟩
 ·refine isTrue_and (ZP g λc s1 ⟨H1,I1,q1⟩=>?_);cases c with|false=>exact⟨H1,I1,q1⟩|true=>exact hb _ pins s1 O H1 Q I1 q1
mutual
theorem aZ:∀(e:E) {X:Cx}{c:Cfg} (C:ZD X c U) (x:Expr),aV c e x=true->PE X x (Zv X.K (Z_ U e))
 | .var i,X,c,C,x,h=>by
  replace h:=ak h;obtain⟨y,p,rfl,h⟩:=h
  ·exact IJ C h
 | .int i,X,c,C,x,h=>by
  replace h:=fh h;obtain⟨j,k,p,rfl,h⟩:=h
  ·rw[OO] at h;subst h;rintro pins s O H Q I ⟨m,Z,st,rf,rh,w⟩;exact sP pins s O H Q I (w.here rh (Z9.mpr rfl))
 | .bl i,X,c,C,x,h=>by
  replace h:=Bs h;obtain⟨j,k,p,rfl,h⟩:=h
  ·rw[OO] at h;subst h;rintro pins s O H Q I ⟨m,Z,st,rf,rh,w⟩;exact Ly pins s O H Q I (w.here rh (ZW.mpr rfl))
 | .non,X,c,C,x,h=>by
  replace h:=k8 h;obtain⟨k,p,rfl⟩:=h
  ·rintro pins s O H Q I ⟨m,Z,st,rf,rh,w⟩;exact vE pins s O H Q I (w.here rh (Zo.mpr rfl))
 | .str i,X,c,C,x,h=>by
  replace h:=dk h;obtain⟨j,k,p,rfl,h⟩:=h
  ·rw[OO] at h;subst h;rintro pins s O H Q I ⟨m,Z,st,rf,rh,w⟩;exact rO pins s O H Q I (w.here rh (Z8.mpr rfl))
 | .gv y v,X,c,C,x,h=>by
  replace h:=ak h;obtain⟨z,p,rfl,h⟩:=h
  ·simp only[bi,beq_iff_eq] at h;obtain⟨⟨h1,h2⟩,h3⟩:=h;subst h1;obtain⟨g1,g2,_⟩:=C.Xd h2;replace h3:=bM h3;obtain⟨w,hw,h3⟩:=h3
   ·have:=PV.Vv h3;subst this;obtain⟨u,z,e1,e2,e3⟩:=(C.gl _ _ hw).val (ED h3);rintro pins s O H Q I ⟨m,Z,st,rf,rh,w⟩;exact sD g1 e1 e2 g2 pins s O H Q I (w.here rh (e3 m H))
 | .tup es,X,c,C,x,h=>by
  replace h:=dj h;obtain⟨xs,k,p,rfl,h⟩:=h
  ·rintro pins s O H Q I ⟨m,Z,st,rf,rh,w⟩;refine Bd (i_ es C _ h) pins s O H Q I ⟨m,Z,st,rf,rh,aD C.mono es (λvs st1 k m1 H1 Vy e1 r1 r2=>⟨by rw[<-r2.len];exact eT k.1,λp hp=>?_⟩) w⟩;exact(k.2.ext e1).ZG r1 r2 hp
 | .lst es,X,c,C,x,h=>by
  replace h:=fE h;obtain⟨xs,p,rfl,h⟩:=h
  ·rintro pins s O H Q I ⟨m,Z,st,rf,rh,w⟩;refine oU (i_ es C _ h) pins s O H Q I ⟨m,Z,st,rf,rh,aD C.mono es (λvs st1 k m1 H1 Vy e1 r1 r2=>⟨by rw[<-r2.len];exact eT k.1,λp hp=>?_⟩) w⟩;exact(k.2.ext e1).newL r1 r2 hp
 | .bad,X,c,C,x,h=>by rintro pins s O H Q I ⟨m,Z,st,rf,rh,w⟩;solve_by_elim
 | .bin op a b,X,c,C,x,h=>by
  replace h:=iW h;obtain⟨l,o,r,p,rfl,h⟩:=h
  ·simp only[bi,beq_iff_eq] at h;obtain⟨⟨h1,h2⟩,h3⟩:=h;subst h1;rintro pins s O H Q I ⟨m,Z,st,rf,rh,w⟩;exact Bq (wb _) (aZ a C _ h2) (aZ b C _ h3) pins s O H Q I ⟨m,Z,st,rf,rh,ae C.mono a (λv st1 k m1 H1 x1 e1 r1 r2=>⟨m1,Z,st1,rf.mono e1,r1,
    ae C.mono b (λu st2 k2 m2 H2 y2 e2 r3 r4=>⟨m2,st2,v,u,r3,r2.mono e2,r4,rg (λ_ _ q=>q.ext (e1.trans e2)) k2⟩) k⟩) w⟩
 | .neg a,X,c,C,x,h=>by
  replace h:=k9 h;obtain⟨y,p,rfl,h⟩:=h
  ·rintro pins s O H Q I ⟨m,Z,st,rf,rh,w⟩;refine Cc vD (aZ a C _ h) pins s O H Q I ⟨m,Z,st,rf,rh,ae C.mono a (λv st1 k m1 H1 x1 e1 r1 r2=>?_) w⟩;obtain⟨i,rfl,k⟩:=k;rw[Z9] at r2;subst r2;exact⟨i,rfl,(k.ext e1).here r1 (Z9.mpr rfl)⟩
 | .not a,X,c,C,x,h=>by
  replace h:=qD h;obtain⟨y,p,rfl,h⟩:=h
  ·rintro pins s O H Q I ⟨m,Z,st,rf,rh,w⟩;refine IH (aZ a C _ h) pins s O H Q I ⟨m,Z,st,rf,rh,ae C.mono a (λv st1 k m1 H1 x1 e1 r1 r2=>?_) w⟩;obtain⟨i,rfl,k⟩:=k;rw[ZW] at r2;subst r2;exact⟨i,rfl,(k.ext e1).here r1 (ZW.mpr rfl)⟩
 | .cmp op a b,X,c,C,x,h=>by
  replace h:=dw h;obtain⟨l,o,r,p,rfl,h⟩:=h
  ·simp only[bi,beq_iff_eq,Bool.not_eq_true',beq_eq_false_iff_ne] at h;obtain⟨⟨⟨h1,n1⟩,h2⟩,h3⟩:=h;subst h1;rintro pins s O H Q I ⟨m,Z,st,rf,rh,w⟩;exact mV (Co C.room.units _) (aZ a C _ h2) (aZ b C _ h3) n1 pins s O H Q I ⟨m,Z,st,rf,rh,ae C.mono a (λv st1 k m1 H1 x1 e1 r1 r2=>⟨m1,Z,st1,rf.mono e1,r1,
    ae C.mono b (λu st2 k2 m2 H2 y2 e2 r3 r4=>⟨m2,st2,v,u,r3,r2.mono e2,r4,iO (λ_ _ q=>q.ext (e1.trans e2)) k2⟩) k⟩) w⟩
 | .Zt k es,X,c,C,x,h=>by replace h:=rj h;obtain⟨o,xs,p,rfl,h⟩:=h;simp only[bi,beq_iff_eq,Bool.not_eq_true'] at h;obtain⟨⟨h1,h2⟩,h3⟩:=h;subst h1;exact F9 k es C _ _ h2 h3
 | .ite t a b,X,c,C,x,h=>by
  replace h:=yZ h;obtain⟨y,l,r,p,rfl,h⟩:=h
  ·simp only[bi] at h;obtain⟨⟨h1,h2⟩,h3⟩:=h;rintro pins s O H Q I ⟨m,Z,st,rf,rh,w⟩;refine CY (sk t C _ h1) (aZ a C _ h2) (aZ b C _ h3) pins s O H Q I ⟨m,Z,st,rf,rh,bJ C.mono t (λk st1 z m1 H1 e1 r1=>?_) w⟩;cases k with
   | true=>rw[MK rfl] at z |-;exact⟨m1,Z,st1,rf.mono e1,r1,ae C.mono a (λ_ _ q=>q.ext e1) z⟩
   | false=>rw[MM ME] at z |-;exact⟨m1,Z,st1,rf.mono e1,r1,ae C.mono b (λ_ _ q=>q.ext e1) z⟩
 | .ix a b,X,c,C,x,h=>by
  replace h:=dU h;obtain⟨l,r,p,rfl,h⟩:=h
  ·simp only[bi] at h;obtain⟨⟨h1,h2⟩,h3⟩:=h;rintro pins s O H Q I ⟨m,Z,st,rf,rh,w⟩;exact AQ (Ki C.room.units) (aZ a C _ h2) (aZ b C _ h3) h1 pins s O H Q I ⟨m,Z,st,rf,rh,ae C.mono a (λv st1 k m1 H1 x1 e1 r1 r2=>⟨m1,Z,st1,rf.mono e1,r1,
    ae C.mono b (λu st2 k2 m2 H2 y2 e2 r3 r4=>⟨m2,st2,v,u,r3,r2.mono e2,r4,uW (λ_ _ q=>q.ext (e1.trans e2)) k2⟩) k⟩) w⟩
 | .sl a lo hi,X,c,C,x,h=>by
  replace h:=dU h;obtain⟨l,r,p,rfl,h⟩:=h;replace h:=uO h;obtain⟨u,v,p2,rfl,h⟩:=h
  ·simp only[bi] at h;obtain⟨⟨h1,h2⟩,h3⟩:=h;rintro pins s O H Q I ⟨m,Z,st,rf,rh,w⟩;exact AJ JU (aZ a C _ h1) (J8 lo C _ h2) (J8 hi C _ h3) pins s O H Q I ⟨m,Z,st,rf,rh,ae C.mono a (λv st1 k m1 H1 x1 e1 r1 r2=>⟨m1,Z,st1,rf.mono e1,r1,
    j6 C.mono lo (λl st2 k2 m2 H2 e2 r3=>⟨m2,Z,st2,(rf.mono e1).mono e2,r3,j6 C.mono hi (λu st3 k3 m3 H3 e3 r4=>⟨m3,st3,v,r4,(r2.mono e2).mono e3,uV (λ_ _ q=>q.ext ((e1.trans e2).trans e3)) k3⟩) k2⟩) k⟩) w⟩
 | .call f es,X,c,C,x,h=>by
  replace h:=aH h;obtain⟨g,xs,p,rfl,h⟩:=h;replace h:=ak h;obtain⟨y,p2,rfl,h⟩:=h
  ·simp only[bi] at h;obtain⟨⟨h1,h2⟩,h3⟩:=h;rintro pins s O H Q I ⟨m,Z,st,rf,rh,w⟩;exact Cf C h1 h2 h3 (i_ es C _ h3) pins s O H Q I ⟨m,Z,st,rf,rh,w⟩
 | .blt b es,X,c,C,x,h=>by
  replace h:=aH h;obtain⟨g,xs,p,rfl,h⟩:=h;replace h:=ak h;obtain⟨y,p2,rfl,h⟩:=h
  ·simp only[bi,beq_iff_eq,Bool.not_eq_true'] at h;obtain⟨⟨⟨⟨h1,h2⟩,h3⟩,h4⟩,h5⟩:=h;rintro pins s O H Q I ⟨m,Z,st,rf,rh,w⟩;exact CM C h1 h2 h3 h4 (i_ es C _ h5) pins s O H Q I ⟨m,Z,st,rf,rh,w⟩
 | .inst a t,X,c,C,x,h=>by
  replace h:=aH h;obtain⟨g,xs,p,rfl,h⟩:=h;replace h:=ak h;obtain⟨y,p2,rfl,h⟩:=h;replace h:=iV h;obtain⟨l,r,rfl,h⟩:=h;replace h:=ak h;obtain⟨z,p3,rfl,h⟩:=h
  ·rw[MG] at h;exact EO C h.1 (aZ a C _ h.2)
 | .met mm o es,X,c,C,x,h=>by
  replace h:=aH h;obtain⟨g,xs,p,rfl,h⟩:=h;replace h:=c9 h;obtain⟨y,n,p2,rfl,h⟩:=h
  ·simp only[bi,beq_iff_eq,decide_eq_true_eq] at h;obtain⟨⟨⟨⟨⟨⟨h1,h2⟩,h3⟩,h4⟩,h0⟩,h5⟩,h6⟩:=h;exact AO C h1 (by simp_all) h3 h4 h0 (aZ o C _ h5) (i_ es C _ h6) h6
 | .comp elt tg it ifs nt caps,X,c,C,x,h=>by
  replace h:=ir h;obtain⟨ex,gs,sc,pos,rfl,h⟩:=h;replace h:=br h;obtain⟨g,rfl,h⟩:=h;obtain⟨tx,ix,fx,ia⟩:=g;dsimp only at h
  ·simp only[bi,beq_iff_eq] at h;obtain⟨⟨⟨⟨⟨⟨⟨⟨h1,h0⟩,h2⟩,h3⟩,h4⟩,h5⟩,h6⟩,h7⟩,h8⟩:=h;subst h1;obtain⟨S,k1,k2,k3,k4⟩:=jW C h4;have hC:∀s2 H2 fp A,ZD (YQ X (nt++caps.filterMap (X.N[·]?)) s2 H2 fp sc A) (c.inner nt caps sc) U:=λs2 H2 fp A=>wa C h4;rintro pins s O H Q I ⟨m,Z,st,rf,rh,w⟩;rw[eval_ListComp];refine qP (elt:=elt) (tg:=tg) (ifs:=ifs) (nt:=nt) (caps:=caps) (use:=none) (Fin:=λD H'=>Q (.ref D) H') (wi:=Sy X.K (gP U it)) C.mono C.calm S rfl k1 k2 k3 h2 h3 (yB it C ix h0 h5) (λs2 H2 fp A=>qY tg (hC s2 H2 fp A) _ h6) (λs2 H2 fp A=>vV ifs (hC s2 H2 fp A) _ h7) (λs2 H2 fp A=>aZ elt (hC s2 H2 fp A) _ h8) I ?_ ?_
   ·refine⟨m,Z,st,rf,rh,dm C.mono it (λxs ZR st1 z m1 H1 J e1 r1 W=>⟨m1,Z,st1,xs,ZR,rf.mono e1,r1,W,z.1,?_⟩) w⟩;refine gF (body:=nY U elt tg ifs (nt.map (λ_=>none)++caps.map λi=>(Z[i]?).join)) (λ_ _ _ _ hk q=>oM C.mono hk q) (λvs st2 k m2 H2 D ys e2 r2 Dm T3 hD ry=>?_) z.2;exact k _ _ _ (e1.trans (e2.Xq T3)) (r2.Xq Dm hD ry) (R.last r2.len)
   ·intro C' D H' s' m' I' ns fp F;refine⟨m',ns,λh' hs'=>?_⟩;exact⟨.ref D,H',I'.turned (t':=s'.toks) (λb o hb e=>hs'.extBut b o hb e) fp.1 fp.2.1 fp.2.2.2.1 fp.2.2.2.2.1 fp.2.2.2.2.2,rfl,F⟩
 | .un .X3 a,X,c,C,x,h=>by replace h:=dU h;obtain⟨u,r,p4,rfl,h⟩:=h;replace h:=nN h;obtain⟨z,p5,rfl,h⟩:=h;replace h:=k9 h;obtain⟨z1,p6,rfl,h⟩:=h;replace h:=fh h;obtain⟨i,k7,p7,rfl,h⟩:=h;simp only[bi,beq_iff_eq] at h;obtain⟨h4,h5⟩:=h;subst h4;exact DN C (aZ a C _ h5)
 | .un .X4 a,X,c,C,x,h=>by replace h:=aH h;obtain⟨g,xs,p,rfl,h⟩:=h;replace h:=ak h;obtain⟨y,p2,rfl,h⟩:=h;replace h:=br h;obtain⟨l,rfl,h⟩:=h;simp only[bi,beq_iff_eq] at h;obtain⟨⟨⟨h1,h2⟩,h3⟩,h4⟩:=h;exact Ey C h1 h2 h3 (aZ a C _ h4)
 | .un .VP a,X,c,C,x,h=>by replace h:=aH h;obtain⟨g,xs,p,rfl,h⟩:=h;replace h:=c9 h;obtain⟨y,n,ap,rfl,h⟩:=h;simp only[bi,beq_iff_eq,List.isEmpty_iff] at h;obtain⟨⟨⟨⟨h1,h2⟩,h3⟩,h4⟩,h5⟩:=h;subst h3;exact Jw C h1 (by simp_all) h4 (aZ a C _ h5)
 | .un .Yh a,X,c,C,x,h=>by replace h:=dw h;obtain⟨l,o,r,p,rfl,h⟩:=h;simp only[bi,beq_iff_eq,Bool.not_eq_true'] at h;obtain⟨⟨⟨h1,h2⟩,h3⟩,h4⟩:=h;replace h1:=k8 h1;obtain⟨k0,p0,rfl⟩:=h1;subst h2;exact Ea C h3 (aZ a C _ h4)
 | .un (.V9 ne n kvs) a,X,c,C,x,h=>by replace h:=dw h;obtain⟨l,o,r,p,rfl,h⟩:=h;replace h:=ak h;obtain⟨y,p2,rfl,h⟩:=h;simp only[bi,beq_iff_eq,Bool.not_eq_true'] at h;obtain⟨⟨⟨⟨⟨h1,h2⟩,h3⟩,h4⟩,h5⟩,h6⟩:=h;subst h1 h3;replace h5:=bM h5;obtain⟨v,hv,h5⟩:=h5;exact Hw C h2 h4 hv (beq_iff_eq.mp h5) (aZ a C _ h6)
 | .un (.VG n kvs) a,X,c,C,x,h=>by replace h:=dU h;obtain⟨l,r,p,rfl,h⟩:=h;replace h:=ak h;obtain⟨y,p2,rfl,h⟩:=h;simp only[bi,beq_iff_eq] at h;obtain⟨⟨⟨⟨h1,h2⟩,h3⟩,h4⟩,h5⟩:=h;subst h2;replace h4:=bM h4;obtain⟨v,hv,h4⟩:=h4;exact Hz C h1 h3 hv (beq_iff_eq.mp h4) (aZ a C _ h5)
 | .un (.Yn kvs d) a,X,c,C,x,h=>by replace h:=aH h;obtain⟨g,xs,p,rfl,h⟩:=h;replace h:=c9 h;obtain⟨y,n,ap,rfl,h⟩:=h;replace h:=wk h;obtain⟨ks,vs,p2,rfl,h⟩:=h;replace h:=aG h;obtain⟨u,r,rfl,h⟩:=h;simp only[bi,beq_iff_eq,decide_eq_true_eq,Bool.not_eq_true'] at h;obtain⟨⟨⟨⟨⟨⟨⟨⟨h1,h2⟩,h3⟩,h4⟩,h5⟩,h6⟩,h7⟩,h8⟩,h9⟩:=h;exact DA C h1 h2 (λz=>by simp_all) h3 h5 h6 (by simp_all) h8 (aZ a C _ h9)
 | .un .VM a,X,c,C,x,h=>by replace h:=aH h;obtain⟨g,xs,p,rfl,h⟩:=h;replace h:=ak h;obtain⟨y,p2,rfl,h⟩:=h;replace h:=br h;obtain⟨l,rfl,h⟩:=h;replace h:=aH h;obtain⟨g2,ys,p3,rfl,h⟩:=h;replace h:=ak h;obtain⟨z,p4,rfl,h⟩:=h;replace h:=br h;obtain⟨u,rfl,h⟩:=h;simp only[bi,beq_iff_eq] at h;obtain⟨⟨⟨⟨⟨⟨h1,h2⟩,h3⟩,h4⟩,h5⟩,h6⟩,h7⟩:=h;exact HZ C h1 h2 h3 h4 h5 h6 (aZ a C _ h7)
 | .un .Vs a,X,c,C,x,h=>by replace h:=dw h;obtain⟨l,o,r,p,rfl,h⟩:=h;replace h:=fE h;obtain⟨xs,p2,rfl,h⟩:=h;simp only[bi,beq_iff_eq,List.isEmpty_iff] at h;obtain⟨⟨h1,h2⟩,h3⟩:=h;subst h1 h2;rintro pins s O H Q I ⟨m,Z,st,rf,rh,w⟩;exact mV (A2 C.room.units) (aZ a C _ h3) (oU bD) rfl pins s O H Q I ⟨m,Z,st,rf,rh,ae C.mono a (λv st1 k m1 H1 x1 e1 r1 r2=>uY r1 r2 k λp hp q=>q m1 _ _ (e1.trans (Ext.ZG r1 hp)) (r1.ZG hp) (ZW.mpr rfl)) w⟩
 | .tmp a,X,c,C,x,h=>by
  have h:aV c a x=true:=h;rintro pins s O H Q I ⟨m,Z,st,rf,rh,w⟩;refine aZ a C x h pins s O H Q I ⟨m,Z,st,rf,rh,ae C.mono a (λv st1 k m1 H1 x1 e1 r1 r2=>?_) w⟩;obtain⟨st2,q,e2,r3,r4⟩:=sW rh e1 r1 r2 k
  solve_by_elim
 | .Xg a,X,c,C,x,h=>by
  replace h:=aH h;obtain⟨g,xs,p,rfl,h⟩:=h;replace h:=c9 h;obtain⟨y,n,p2,rfl,h⟩:=h;replace h:=dk h;obtain⟨j,kk,p3,rfl,h⟩:=h;replace h:=br h;obtain⟨l,rfl,h⟩:=h;replace h:=dU h;obtain⟨u,r,p4,rfl,h⟩:=h;replace h:=nN h;obtain⟨z,p5,rfl,h⟩:=h;replace h:=k9 h;obtain⟨z1,p6,rfl,h⟩:=h;replace h:=fh h;obtain⟨i,k7,p7,rfl,h⟩:=h
  ·simp only[bi,beq_iff_eq] at h;obtain⟨⟨⟨⟨h1,h2⟩,h3⟩,h4⟩,h5⟩:=h;subst h1 h3 h4;exact E9 C (by simp_all) (aZ a C _ h5)
 | .XF k a b,X,c,C,x,h=>by replace h:=aH h;obtain⟨g,xs,p,rfl,h⟩:=h;replace h:=c9 h;obtain⟨u,n,p2,rfl,h⟩:=h;replace h:=br h;obtain⟨l,rfl,h⟩:=h;rw[MG,MG,MG,MG,MG] at h;obtain⟨⟨⟨⟨⟨h1,h2⟩,h3⟩,h4⟩,h5⟩,h6⟩:=h;obtain rfl:=beq_iff_eq.mp h1;exact IV C h2 h3 h4 (aZ a C _ h5) (aZ b C _ h6)
 | .part a y,X,c,C,x,h=>by
  replace h:=aH h;obtain⟨g,xs,p,rfl,h⟩:=h;replace h:=c9 h;obtain⟨u,n,p2,rfl,h⟩:=h;replace h:=br h;obtain⟨l,rfl,h⟩:=h;replace h:=dk h;obtain⟨j,kk,p3,rfl,h⟩:=h
  ·simp only[bi,beq_iff_eq,Bool.not_eq_true'] at h;obtain⟨⟨⟨⟨⟨h1,h2⟩,h3⟩,h4⟩,h5⟩,h6⟩:=h;subst h1 h3;exact Er C (by rw[h2];simp) h4 h5 (aZ a C _ h6)
theorem i_:∀(es:Es) {X:Cx}{c:Cfg} (C:ZD X c U) (xs:List Expr),dO c es xs=true->PA X xs (V3 X.K (bT U es))
 | .nil,X,c,C,xs,h=>by
  have h:xs.isEmpty=true:=h;cases xs with
  | nil =>rintro pos pins s O H Q I ⟨m,Z,st,rf,rh,w⟩;exact bD pos pins s O H Q I (w m H [] (Ext.refl _ _ _) rh (Z5.mpr rfl))
  | cons x xs=>cases h
 | .cons e es,X,c,C,xs,h=>by
  replace h:=aG h;obtain⟨y,ys,rfl,h⟩:=h
  ·simp only[bi] at h;obtain⟨⟨h1,h2⟩,h3⟩:=h;rintro pos pins s O H Q I ⟨m,Z,st,rf,rh,w⟩;exact Yy (aZ e C _ h2) (i_ es C _ h3) h1 pos pins s O H Q I ⟨m,Z,st,rf,rh,ae C.mono e (λv st1 k m1 H1 x1 e1 r1 r2=>⟨m1,Z,st1,rf.mono e1,r1,
    aD C.mono es (λus st2 k2 m2 H2 ys e2 r3 r4=>k2 m2 H2 _ (e1.trans e2) r3 (Z7.mpr ⟨r2.mono e2,r4⟩)) k⟩) w⟩
 | .VL i z j es,X,c,C,xs,h=>by replace h:=aG h;obtain⟨y,r,rfl,h⟩:=h;replace h:=aG h;obtain⟨u,ys,rfl,h⟩:=h;simp only[bi] at h;obtain⟨⟨⟨⟨g1,g2⟩,g3⟩,g4⟩,g5⟩:=h;replace g3:=iW g3;obtain⟨l,o,q,p1,rfl,g3⟩:=g3;replace g3:=ak g3;obtain⟨x,p2,rfl,g3⟩:=g3;simp only[bi,beq_iff_eq] at g3;obtain⟨⟨g6,g7⟩,g8⟩:=g3;subst g7;replace g8:=dk g8;obtain⟨z',k1,p3,rfl,g8⟩:=g8;rw[OO] at g8;subst g8;replace g4:=aH g4;obtain⟨g,as,cp,rfl,g4⟩:=g4;replace g4:=c9 g4;obtain⟨l,n,ap,rfl,g4⟩:=g4;replace g4:=ak g4;obtain⟨x2,p4,rfl,g4⟩:=g4;simp only[bi,beq_iff_eq] at g4;obtain⟨⟨⟨g9,g10⟩,g11⟩,TY⟩:=g4;replace TY:=yh TY;obtain⟨a1,a2,a3,rfl,TY⟩:=TY;simp only[bi] at TY;obtain⟨⟨b1,b2⟩,b3⟩:=TY;replace b1:=dk b1;obtain⟨z1,k2,p5,rfl,b1⟩:=b1;replace b2:=dk b2;obtain⟨z2,k3,p6,rfl,b2⟩:=b2;replace b3:=fh b3;obtain⟨z3,k4,p7,rfl,b3⟩:=b3;rw[OO] at b1 b2 b3;subst b1 b2 b3;exact Jg C (by rw[MG,OO];exact g6) (by rw[MG,OO];exact g9) (by rw[g11];exact QX _) g10 (i_ es C _ g5)
theorem J8:∀(o:Oq) {X:Cx}{c:Cfg} (C:ZD X c U) (x:Option Expr),Ji c o x=true->PO X x (λO H Q=>∃m Z st,RF X.K m H Z O/\RH X.K m H st/\Vx U o Z st λv st'=>∀m' H',Ext X.K m H m' H'->RH X.K m' H' st'->Q v H')
 | .no,X,c,C,x,h=>by
  have h:x.isNone=true:=h;cases x with
  | none =>rintro pins s O H Q I ⟨m,Z,st,rf,rh,w⟩;exact DP pins s O H Q I (w m H (Ext.refl _ _ _) rh)
  | some y=>cases h
 | .yes e,X,c,C,x,h=>by
  replace h:=bM h;obtain⟨y,rfl,h⟩:=h
  ·rintro pins s O H Q I ⟨m,Z,st,rf,rh,w⟩;refine EC (aZ e C _ h) pins s O H Q I ⟨m,Z,st,rf,rh,ae C.mono e (λv st1 k m1 H1 x1 e1 r1 r2=>?_) w⟩;obtain⟨i,rfl,k⟩:=k;rw[Z9] at r2;exact⟨i,r2,k m1 H1 e1 r1⟩
theorem sk:∀(e:T) {X:Cx}{c:Cfg} (C:ZD X c U) (x:Expr),wH c e x=true->PT X x (Ue X.K (YW U e))
 | .not a,X,c,C,x,h=>by replace h:=qD h;obtain⟨y,p,rfl,h⟩:=h;rintro pins s O H Q I ⟨m,Z,st,rf,rh,w⟩;exact Ie (sk a C _ h) pins s O H Q I ⟨m,Z,st,rf,rh,bJ C.mono a (λk st1 z m1 H1 e1 r1=>z m1 H1 e1 r1) w⟩
 | .Zt k es,X,c,C,x,h=>by replace h:=rj h;obtain⟨o,xs,p,rfl,h⟩:=h;simp only[bi,beq_iff_eq,Bool.not_eq_true'] at h;obtain⟨⟨h1,h2⟩,h3⟩:=h;subst h1;exact(F5 k es C _ _ h3 h2).pt
 | .Y_ a,X,c,C,x,h=>by have h:(wo x && aV c a x)=true:=h;rw[MG] at h;rintro pins s O H Q I ⟨m,Z,st,rf,rh,w⟩;exact CB (aZ a C x h.2) (vU h.1 X.env) pins s O H Q I ⟨m,Z,st,rf,rh,ae C.mono a (λv st1 k m1 H1 x1 e1 r1 r2=>KF ⟨m1,st1,v,r1,r2,p_ (λ_ _ q=>q.ext e1) k⟩) w⟩
 | .cmp op a b,X,c,C,x,h=>by
  replace h:=dw h;obtain⟨l,o,r,p,rfl,h⟩:=h
  ·simp only[bi,beq_iff_eq,Bool.not_eq_true',beq_eq_false_iff_ne] at h;obtain⟨⟨⟨h1,n1⟩,h2⟩,h3⟩:=h;subst h1;rintro pins s O H Q I ⟨m,Z,st,rf,rh,w⟩;refine mT (Co C.room.units _) (aZ a C _ h2) (aZ b C _ h3) n1 pins s O H Q I ⟨m,Z,st,rf,rh,ae C.mono a (λv st1 k m1 H1 x1 e1 r1 r2=>⟨m1,Z,st1,rf.mono e1,r1,
    ae C.mono b (λu st2 k2 m2 H2 y2 e2 r3 r4=>⟨m2,st2,v,u,r3,r2.mono e2,r4,iO (λ_ _ q=>?_) k2⟩) k⟩) w⟩
   obtain⟨k,rfl,q⟩:=q;intro m' H' y e3 r5 r6;rw[ZW] at r6;exact⟨k,r6,q m' H' ((e1.trans e2).trans e3) r5⟩
 | .un .Vs a,X,c,C,x,h=>by replace h:=dw h;obtain⟨l,o,r,p,rfl,h⟩:=h;replace h:=fE h;obtain⟨xs,p2,rfl,h⟩:=h;simp only[bi,beq_iff_eq,List.isEmpty_iff] at h;obtain⟨⟨h1,h2⟩,h3⟩:=h;subst h1 h2;rintro pins s O H Q I ⟨m,Z,st,rf,rh,w⟩;exact mT (A2 C.room.units) (aZ a C _ h3) (oU bD) rfl pins s O H Q I ⟨m,Z,st,rf,rh,ae C.mono a (λv st1 k m1 H1 x1 e1 r1 r2=>uY (P:=λx H'=>∃k,x=.bl k/\Q k H') r1 r2 k λp hp q=>let ⟨c,ec,q⟩:=q;⟨c,by cases ec;rfl,q m1 _ (e1.trans (Ext.ZG r1 hp)) (r1.ZG hp)⟩) w⟩
 | .un .Yh a,X,c,C,x,h=>by replace h:=dw h;obtain⟨l,o,r,p,rfl,h⟩:=h;simp only[bi,beq_iff_eq,Bool.not_eq_true'] at h;obtain⟨⟨⟨h1,h2⟩,h3⟩,h4⟩:=h;replace h1:=k8 h1;obtain⟨k0,p0,rfl⟩:=h1;subst h2;exact D3 C h3 (aZ a C _ h4)
 | .un (.V9 ne n kvs) a,X,c,C,x,h=>by replace h:=dw h;obtain⟨l,o,r,p,rfl,h⟩:=h;replace h:=ak h;obtain⟨y,p2,rfl,h⟩:=h;simp only[bi,beq_iff_eq,Bool.not_eq_true'] at h;obtain⟨⟨⟨⟨⟨h1,h2⟩,h3⟩,h4⟩,h5⟩,h6⟩:=h;subst h1 h3;replace h5:=bM h5;obtain⟨v,hv,h5⟩:=h5;exact HI C h2 h4 hv (beq_iff_eq.mp h5) (aZ a C _ h6)
 | .un .X3 _,X,c,C,x,h | .un .X4 _,X,c,C,x,h | .un .VP _,X,c,C,x,h | .un (.VG _ _) _,X,c,C,x,h | .un (.Yn _ _) _,X,c,C,x,h | .un .VM _,X,c,C,x,h=>by cases (show false=true from h)
theorem F9 (k:Bool):∀(es:Es) {X:Cx}{c:Cfg} (C:ZD X c U) (xs:List Expr) (pos:Pos),dO c es xs=true->xs.isEmpty=false->PE X (.BoolOp (if k then .And else .Or) xs pos) (Zv X.K (ng U k es))
 | .nil,X,c,C,xs,pos,h,hn=>by have h:xs.isEmpty=true:=h;rw[h] at hn;cases hn
 | .VL _ _ _ _,X,c,C,xs,pos,h,hn=>by rintro pins s O H Q I ⟨m,Z,st,rf,rh,w⟩;exact ac w
 | .cons e es,X,c,C,xs,pos,h,hn=>by
  replace h:=aG h;obtain⟨y,ys,rfl,h⟩:=h;simp only[bi] at h;obtain⟨⟨h1,h2⟩,h3⟩:=h;rintro pins s O H Q I ⟨m,Z,st,rf,rh,w⟩;cases ys with
  | nil =>
   cases es with
   | nil=>cases k <;> exact Hx (aZ e C _ h2) pins s O H Q I ⟨m,Z,st,rf,rh,w⟩
   | _=>exact bd (show false=true from h3)
  | cons y2 ys =>
   have n:es.Vt=false:=by cases es <;> first|rfl|exact bd (show false=true from h3)
   exact DE (aZ e C _ h2) (F9 k es C (y2::ys) pos h3 rfl) pins s O H Q I ⟨m,Z,st,rf,rh,ae C.mono e (λv st1 z m1 H1 x1 e1 r1 r2=>by rw[n] at z;obtain⟨b,rfl,z⟩:=z;rw[ZW] at r2;exact⟨b,r2,iY (λz=>⟨m1,Z,st1,rf.mono e1,r1,lF C.mono k _ (λ_ _ q=>q.ext e1) z⟩) (λz=>(z.ext e1).here r1 (ZW.mpr rfl)) z⟩) w⟩
theorem F5 (k:Bool):∀(es:Ts) {X:Cx}{c:Cfg} (C:ZD X c U) (xs:List Expr) (pos:Pos),tK c es xs=true->xs.isEmpty=false->PW X (.BoolOp (if k then .And else .Or) xs pos) (Ue X.K (gK U k es))
 | .nil,X,c,C,xs,pos,h,hn=>by have h:xs.isEmpty=true:=h;rw[h] at hn;cases hn
 | .cons e es,X,c,C,xs,pos,h,hn=>by
  replace h:=aG h;obtain⟨y,ys,rfl,h⟩:=h;rw[MG] at h;obtain⟨h2,h3⟩:=h;rintro wh pins s O H Q I ⟨m,Z,st,rf,rh,w⟩;cases ys with
  | nil =>
   cases es with
   | nil=>cases k with|false=>exact Je (sk e C _ h2) wh pins s O H Q I ⟨m,Z,st,rf,rh,w⟩|true=>exact DR (sk e C _ h2) wh pins s O H Q I ⟨m,Z,st,rf,rh,w⟩
   | _=>exact bd (show false=true from h3)
  | cons y2 ys =>
   have n:es.Vt=false:=by cases es <;> first|rfl|exact bd (show false=true from h3)
   exact EA (sk e C _ h2) (F5 k es C (y2::ys) pos h3 rfl) wh pins s O H Q I ⟨m,Z,st,rf,rh,bJ C.mono e (λb st1 z m1 H1 e1 r1=>by rw[n] at z;exact iY (λz=>⟨m1,Z,st1,rf.mono e1,r1,dq C.mono k _ (λ_ _ q=>q.ext e1) z⟩) (λz=>z m1 H1 e1 r1) z) w⟩
theorem qY:∀(t:Tg) {X:Cx}{c:Cfg} (C:ZD X c U) (x:Expr),ot c t x=true->PG X x (Sx X.K (ee U t))
 | .name i,X,c,C,x,h=>by
  replace h:=ak h;obtain⟨y,p,rfl,h⟩:=h
  ·simp only[bi,beq_iff_eq] at h;obtain⟨h1,h2⟩:=C.Xv h.2;rintro pins s O H v u Q I r ⟨m,Z,st,p,rf,rh,hr,w⟩;exact D0 C.VJ (by rw[C.N];exact h.1) h1 h2 pins s O H v u Q I r (w.here rh (rf.set i hr))
 | .tup ts,X,c,C,x,h=>by
  replace h:=dj h;obtain⟨xs,k,p,rfl,h⟩:=h
  ·rintro pins s O H v u Q I r ⟨m,Z,st,p,rf,rh,hr,w⟩;obtain⟨vs,rfl,hl,w⟩:=w;rw[ZM] at hr;obtain⟨a,ys,rfl,g,r2⟩:=hr;obtain⟨l1,l2⟩:=oA (env:=X.env) h;refine Jx C.calm (Ci ts C _ h) l1 l2 pins s O H _ u Q I r ⟨a,ys,rfl,g,?_,m,Z,st,vs,rf,rh,r2,w⟩;rw[<-r2.len];exact hl
 | .sub o i,X,c,C,x,h=>by
  replace h:=dU h;obtain⟨l,rr,pos,rfl,h⟩:=h
  ·simp only[bi] at h;obtain⟨⟨h1,h2⟩,h3⟩:=h;rintro pins s O H v u Q I r ⟨m,Z,st,p,rf,rh,hr,w⟩;refine Im (aZ o C _ h2) (aZ i C _ h3) (Ir C.room.units) (by cases rr <;> first|(intro _;rfl)|cases h1) pins s O H v u Q I r ⟨m,Z,st,rf,rh,ae C.mono o (λa st1 k m1 H1 x1 e1 r1 r2=>⟨m1,Z,st1,rf.mono e1,r1,
    ae C.mono i (λb st2 k2 m2 H2 y2 e2 r3 r4=>⟨m2,st2,a,b,p,r3,r2.mono e2,r4,(hr.mono e1).mono e2,qX (λst3 q H3 e3 r5=>?_) k2⟩) k⟩) w⟩
   exact q m2 H3 O ((e1.trans e2).trans e3) r5 (((rf.mono e1).mono e2).mono e3)
theorem Ci:∀(ts:Yd) {X:Cx}{c:Cfg} (C:ZD X c U) (xs:List Expr),rG c ts xs=true->Su X xs (LP X.K (iJ U ts))
 | .nil,X,c,C,xs,h=>by
  have h:xs.isEmpty=true:=h;cases xs with
  | nil =>rintro pins s O H v u Q I r ⟨m,Z,st,p,rf,rh,hr,w⟩;obtain⟨rfl,w⟩:=w;rw[Z5] at hr;exact E7 pins s O H v u Q I r ⟨hr,w.here rh rf⟩
  | cons _ _=>cases h
 | .cons t ts,X,c,C,xs,h=>by
  replace h:=aG h;obtain⟨y,ys,rfl,h⟩:=h
  ·simp only[bi] at h;obtain⟨⟨h1,h2⟩,h3⟩:=h;rintro pins s O H v u Q I r ⟨m,Z,st,p,rf,rh,hr,w⟩;obtain⟨x,q,rfl,w⟩:=w;rw[a8] at hr;obtain⟨y,ys,rfl,g1,g2⟩:=hr;refine CJ (qY t C _ h2) (Ci ts C _ h3) (by rw[jj h1];rfl) pins s O H _ u Q I r ⟨y,ys,rfl,m,Z,st,x,rf,rh,g1,bG C.mono t (λZ1 st1 k m1 H1 O1 e1 r1 r2=>?_) w⟩;exact⟨m1,Z1,st1,q,r2,r1,g2.mono e1,gM C.mono ts (λ_ _ q=>q.ext e1) k⟩
theorem yB:∀(it:It) {X:Cx}{c:Cfg} (C:ZD X c U) {tg:Expr} (x:Expr),xg it tg=true->yt c it x=true->PI X tg x (Sy X.K (gP U it))
 | .seq e,X,c,C,tg,x,_,h=>by
  have h:(iu x && aV c e x)=true:=h;rw[MG] at h;rintro pins s O H Rr I ⟨m,Z,st,rf,rh,w⟩;refine Jj (aZ e C x h.2) pins s O H Rr I ⟨m,Z,st,rf,rh,ae C.mono e (λv st1 k m1 H1 x1 e1 r1 r2=>?_) w⟩;obtain⟨xs,es,k⟩:=k;cases v with
  | tup ys =>cases es;rw[ZM] at r2;obtain⟨a,zs,rfl,g,r3⟩:=r2;exact⟨a,rfl,.inr ⟨⟨zs,g⟩,k m1 H1 _ e1 r1 (Ds g r3)⟩⟩
  | YM ys =>cases es;rw[Za] at r2;obtain⟨a,zs,rfl,g,r3⟩:=r2;exact⟨a,rfl,.inl ⟨⟨zs,g.sq⟩,k m1 H1 _ e1 r1 (Cq g r3)⟩⟩
  | ref n =>
   unfold df aS at es;simp only at es;split at es
   ·cases es;rename_i q;obtain⟨a,zs,rfl,ea,g,r3⟩:=r1.lst q r2;exact⟨a,rfl,.inl ⟨⟨zs,Zr.of g⟩,k m1 H1 _ e1 r1 (zK r1 q ea)⟩⟩
   ·cases es
  | _=>cases es
 | .Zy a,X,c,C,tg,x,_,h=>by
  replace h:=aH h;obtain⟨g,xs,p,rfl,h⟩:=h;replace h:=ak h;obtain⟨y,p2,rfl,h⟩:=h;replace h:=br h;obtain⟨l,rfl,h⟩:=h
  ·simp only[bi,beq_iff_eq] at h;obtain⟨⟨⟨h1,h2⟩,h3⟩,h4⟩:=h;subst h1;obtain⟨g1,g2,g3,g4⟩:=C.Ys h2;rintro pins s O H Rr I ⟨m,Z,st,rf,rh,w⟩;have hA:PA X [_] (eQ (Zv X.K (Z_ U a)) kH):=Yy (aZ a C _ h4) bD h3;refine zQ g1 g4 hA (ay h3) pins s O H Rr I ⟨m,Z,st,rf,rh,ae C.mono a (λv st1 k m1 H1 x1 e1 r1 r2=>?_) w⟩;obtain⟨j,rfl,k1,k2,k⟩:=k;rw[Z9] at r2;subst r2;exact⟨j,rfl,k1,k2,k m1 H1 _ e1 r1 vQ⟩
 | .zip a b,X,c,C,tg,x,ht,h=>by
  replace h:=aH h;obtain⟨g,xs,p,rfl,h⟩:=h;replace h:=ak h;obtain⟨y,p2,rfl,h⟩:=h;replace h:=iV h;obtain⟨l,r,rfl,h⟩:=h
  ·simp only[bi,beq_iff_eq] at h;obtain⟨⟨⟨⟨⟨h1,h2⟩,h3⟩,h3'⟩,h4⟩,h5⟩:=h;subst h1;obtain⟨g1,g2,g3,g4⟩:=C.Ys h2;cases tg with
   | Tuple elts kt pt =>
    rintro pins s O H Rr I ⟨m,Z,st,rf,rh,w⟩;have hA:PA X [_,_] (eQ (Zv X.K (Z_ U a)) (eQ (Zv X.K (Z_ U b)) kH)):=Yy (aZ a C _ h4) (Yy (aZ b C _ h5) bD h3') h3;refine Jt g1 g4 hA (by rw[ay h3,ay h3'];rfl) (ay h3') pins s O H Rr I ⟨m,Z,st,rf,rh,ae C.mono a (λv st1 k m1 H1 x1 e1 r1 r2=>⟨m1,Z,st1,rf.mono e1,r1,
     ae C.mono b (λu st2 k2 m2 H2 y2 e2 r3 r4=>?_) k⟩) w⟩
    obtain⟨xs,rfl,k3⟩:=m9 k2;obtain⟨ys,rfl,k⟩:=m9 k3;obtain⟨a1,as,rfl,w1,s1⟩:=ZM.mp (r2.mono e2);obtain⟨a2,bs,rfl,w2,s2⟩:=ZM.mp r4;refine⟨a1,a2,rfl,λe he=>?_,k m2 H2 _ (e1.trans e2) r3 (Bm w1 s1 w2 s2)⟩;simp only[List.mem_cons,List.not_mem_nil,or_false] at he;rcases he with rfl|rfl
    ·exact⟨_,w1⟩
    ·exact⟨_,w2⟩
   | _=>cases ht
 | .chars e,X,c,C,tg,x,_,h=>by have h:(iu x && aV c e x)=true:=h;rw[MG] at h;rintro pins s O H Rr I ⟨m,Z,st,rf,rh,w⟩;refine C_ (aZ e C x h.2) pins s O H Rr I ⟨m,Z,st,rf,rh,ae C.mono e (λv st1 k m1 H1 x1 e1 r1 r2=>?_) w⟩;obtain⟨z,rfl,k⟩:=k;rw[Z8] at r2;exact⟨z,r2,k m1 H1 _ e1 r1 wu⟩
 | .YS a b d,X,c,C,tg,x,_,h=>by
  replace h:=aH h;obtain⟨g,xs,p,rfl,h⟩:=h;replace h:=ak h;obtain⟨y,p2,rfl,h⟩:=h;replace h:=yh h;obtain⟨l,r,u,rfl,h⟩:=h
  ·simp only[bi,beq_iff_eq] at h;obtain⟨⟨⟨⟨⟨⟨⟨h1,h2⟩,h3⟩,h3'⟩,h3''⟩,h4⟩,h5⟩,h6⟩:=h;subst h1;obtain⟨g1,g2,g3,g4⟩:=C.Ys h2;rintro pins s O H Rr I ⟨m,Z,st,rf,rh,w⟩;have hA:PA X [_,_,_] (eQ (Zv X.K (Z_ U a)) (eQ (Zv X.K (Z_ U b)) (eQ (Zv X.K (Z_ U d)) kH))):=Yy (aZ a C _ h4) (Yy (aZ b C _ h5) (Yy (aZ d C _ h6) bD h3'') h3') h3;refine zd g1 g4 hA (by rw[ay h3,ay h3',ay h3''];rfl) (by rw[ay h3',ay h3''];rfl) pins s O H Rr I ⟨m,Z,st,rf,rh,ae C.mono a (λv st1 k m1 H1 x1 e1 r1 r2=>⟨m1,Z,st1,rf.mono e1,r1,
    ae C.mono b (λu st2 k2 m2 H2 y2 e2 r3 r4=>⟨m2,Z,st2,(rf.mono e1).mono e2,r3,ae C.mono d (λw st3 k3 m3 H3 y3 e3 r5 r6=>?_) k2⟩) k⟩) w⟩
   obtain⟨i,j,q,rfl,rfl,rfl,k1,k⟩:=k3;rw[Z9] at r2 r4 r6;subst r2 r4 r6;exact⟨i,j,q,rfl,k1,k m3 H3 _ ((e1.trans e2).trans e3) r5 DO⟩
theorem vV:∀(es:Ts) {X:Cx}{c:Cfg} (C:ZD X c U) (xs:List Expr),tK c es xs=true->Sv X xs (Ue X.K (gK U true es))
 | .nil,X,c,C,xs,h=>by
  have h:xs.isEmpty=true:=h;cases xs with
  | nil =>rintro pins s O H Q I ⟨m,Z,st,rf,rh,w⟩;exact Ep pins s O H Q I (w m H (Ext.refl _ _ _) rh)
  | cons _ _=>cases h
 | .cons e es,X,c,C,xs,h=>by
  replace h:=aG h;obtain⟨y,ys,rfl,h⟩:=h;rw[MG] at h;obtain⟨h2,h3⟩:=h;rintro pins s O H Q I ⟨m,Z,st,rf,rh,w⟩;refine CD (sk e C _ h2) (vV es C _ h3) pins s O H Q I ⟨m,Z,st,rf,rh,bJ C.mono e (λb st1 k m1 H1 e1 r1=>?_) w⟩;cases es with
  | nil=>cases b with|false=>rw[MM ME];exact k m1 H1 e1 r1|true=>rw[MK rfl];exact⟨m1,Z,st1,rf.mono e1,r1,λm2 H2 e2 r2=>k m2 H2 (e1.trans e2) r2⟩
  | cons e2 es=>cases b with|false=>rw[MM ME];exact k m1 H1 e1 r1|true=>rw[MK rfl];exact⟨m1,Z,st1,rf.mono e1,r1,dq C.mono true (.cons e2 es) (λ_ _ q=>q.ext e1) k⟩
end
end
section
variable {X:Cx}{c:Cfg}{U:Nat->ZX}{tg:Expr}
noncomputable def AE (K:W.Frag)(m:List Addr)(H:Hp)(D:L2.Ends):aQ:={ nx:=Zb K m H D.nx,rt:=post K m H D.rt }
noncomputable def V4 (K:W.Frag)(w:Fr->AH->aQ->Prop):TS:=λD O H=>∃m Z st,RF K m H Z O/\RH K m H st/\w Z st (AE K m H D)
theorem AE.ext {K:W.Frag}{m m1:List Addr}{H H1:Hp}{D:L2.Ends}(x:Ext K m H m1 H1):gS (AE K m H D) (AE K m1 H1 D) :=
 ⟨λ_ _ q=>q.ext x,λ_ _ q=>q.ext x⟩
def EE (G:bj U){t:Tg}{it:It}{b:Ss}{D:L2.Ends}{O:L2.St}{H:Hp}(h:V4 X.K (wpS U (.Yg t it b)) D O H):Lo (Sy X.K (gP U it)) (Sx X.K (ee U t)) (V4 X.K (aO U b)) D O H:=by
 obtain⟨m,Z,st,rf,rh,w⟩:=h;refine⟨m,Z,st,rf,rh,dm G it (λxs ZR st1 k m1 H1 J e1 r1 W=>?_) w⟩;refine⟨λi n O' H'=>n+i=xs.length/\∃m' Z' st',Ext X.K m1 H1 m' H'/\RH X.K m' H' st'/\RF X.K m' H' Z' O'/\uX ZR (λx Z' st' D'=>ee U t x Z' st' λZ2 st2=>aO U b Z2 st2 D') (AE X.K m H D) (xs.drop i) Z' st',
  ⟨xs.length,rfl,m1,Z,st1,Ext.refl _ _ _,r1,rf.mono e1,by assumption⟩,?_⟩
 rintro i n O' H' ⟨hn,m',Z',st',x',Wg,rf',k'⟩;cases q:xs.drop i with
 | nil =>
  rw[q] at k';have hi:i=xs.length:=by have:=NS List.length q;simp at this;omega
  subst hi;exact .inl ⟨W.stop m' H' st' x' Wg k'.1,k'.2 m' H' O' (e1.trans x') Wg rf'⟩
 | cons v rest =>
  rw[q] at k';have hi:i<xs.length:=by have:=NS List.length q;simp at this;omega
  have ev:xs[i]?=some v:=by have:=NS List.head? q;rw[List.head?_drop] at this;exact this
  have er:rest=xs.drop (i+1):=by have:=NS List.tail q;rw[List.tail_drop] at this;exact this.symm
  subst er;obtain⟨kc,k'⟩:=k';obtain⟨go,yl⟩:=W.item i v m' H' st' x' Wg kc ev;refine .inr ⟨go,λSg WR=>(n-1+(i+1)=xs.length/\∃m' Z' st',Ext X.K m1 H1 m' WR/\RH X.K m' WR st'/\RF X.K m' WR Z' Sg/\uX ZR (λx Z' st' D'=>ee U t x Z' st' λZ2 st2=>aO U b Z2 st2 D') (AE X.K m H D) (xs.drop (i+1)) Z' st'),λSg WR z=>⟨n-1,by lia,z⟩,λy H2 hy=>?_⟩;obtain⟨x2,r2,rv⟩:=yl y H2 hy;refine⟨m',Z',st',v,rf'.mono x2,r2,rv,bG G t (λZ3 st3 k3 m3 H3 O3 x3 r3 f3=>?_) k'⟩;refine⟨m3,Z3,st3,f3,r3,bf G b ?_ k3⟩;have xx:Ext X.K m H m3 H3:=((e1.trans x').trans x2).trans x3;refine⟨λZ4 Yr k4 m4 H4 O4 x4 r4 f4=>⟨by lia,m4,Z4,Yr,((x'.trans x2).trans x3).trans x4,r4,f4,k4⟩,λv4 Yr k4=>k4.ext xx⟩
def yY (G:bj U){cd:T}{b:Ss}{D:L2.Ends}{O:L2.St}{H:Hp}(h:V4 X.K (wpS U (.Zh cd b)) D O H):AA (Ue X.K (YW U cd)) (V4 X.K (aO U b)) D O H:=by
 obtain⟨m,Z,st,rf,rh,w⟩:=h;obtain⟨n0,w⟩:=w;refine⟨λn O' H'=>∃m' Z' st',Ext X.K m H m' H'/\RH X.K m' H' st'/\RF X.K m' H' Z' O'/\fR (YW U cd) (aO U b) (AE X.K m H D) n Z' st',⟨n0,m,Z,st,Ext.refl _ _ _,rh,rf,w⟩,?_⟩;rintro n O' H' ⟨m',Z',st',x',Wg,rf',k'⟩;cases n with
 | zero=>exact k'.elim
 | succ n =>
  refine⟨m',Z',st',rf',Wg,bJ G cd (λb st1 k m1 H1 x1 r1=>?_) k'⟩;cases b with
  | false=>rw[MM ME] at k |-;exact k m1 H1 O' (x'.trans x1) r1 (rf'.mono x1)
  | true =>
   rw[MK rfl] at k |-
   refine⟨λSg WR=>∃m' Z' st',Ext X.K m H m' WR/\RH X.K m' WR st'/\RF X.K m' WR Z' Sg/\fR (YW U cd) (aO U b) (AE X.K m H D) n Z' st',λSg WR z=>⟨n,OA _,z⟩,m1,Z',st1,rf'.mono x1,r1,bf G _ ?_ k⟩;have xx:=x'.trans x1;exact⟨λZ4 Yr k4 m4 H4 O4 x4 r4 f4=>⟨m4,Z4,Yr,xx.trans x4,r4,f4,k4⟩,λv4 Yr k4=>k4.ext xx⟩
end
noncomputable def IF:Expr->Bool
 | .Name ..=>true
 | _=>false
noncomputable def BI:Expr->Expr->Bool
 | .Tuple ..,.Tuple ..=>false
 | .Tuple ..,_=>true
 | .Subscript ..,_=>true
 | _,_=>false
noncomputable def nZ (y:Str)(sc:Scope):Bool:=sc.names.any λx=>match x with|(n,k)=>n == y && (k == .local || k == .cell)
noncomputable def Bo (x:Stmt)(f:List Expr->Expr->Bool):Bool:=match x with | .Assign ts v _=>f ts v|_=>false
def wR {x:Stmt}{f:List Expr->Expr->Bool}(h:Bo x f=true):∃ts v p,x=.Assign ts v p/\f ts v=true:=by cases x with|Assign ts v p=>exact⟨ts,v,p,rfl,h⟩|_=>exact bd h
noncomputable def nW (x:Stmt)(f:Expr->Expr->Bool):Bool:=Bo x λts v=>X_ ts λt=>f t v
def fg {x:Stmt}{f:Expr->Expr->Bool}(h:nW x f=true):∃t v p,x=.Assign [t] v p/\f t v=true:=by replace h:=wR h;obtain⟨ts,v,p,rfl,h⟩:=h;replace h:=br h;obtain⟨t,rfl,h⟩:=h;exact⟨t,v,p,rfl,h⟩
noncomputable def Fk (x:Stmt)(f:Expr->Operator->Expr->Bool):Bool:=match x with | .AugAssign t o v _=>f t o v|_=>false
def yT {x:Stmt}{f:Expr->Operator->Expr->Bool}(h:Fk x f=true):∃t o v p,x=.AugAssign t o v p/\f t o v=true:=by cases x with|AugAssign t o v p=>exact⟨t,o,v,p,rfl,h⟩|_=>exact bd h
noncomputable def Ih (x:Stmt)(f:Expr->Bool):Bool:=match x with | .Expr v _=>f v|_=>false
def uu {x:Stmt}{f:Expr->Bool}(h:Ih x f=true):∃v p,x=.Expr v p/\f v=true:=by cases x with|Expr v p=>exact⟨v,p,rfl,h⟩|_=>exact bd h
noncomputable def Bv (x:Stmt)(f:Option Expr->Bool):Bool:=match x with | .Return v _=>f v|_=>false
def qg {x:Stmt}{f:Option Expr->Bool}(h:Bv x f=true):∃v p,x=.Return v p/\f v=true:=by cases x with|Return v p=>exact⟨v,p,rfl,h⟩|_=>exact bd h
noncomputable def IP (x:Stmt)(f:Expr->List Stmt->List Stmt->Bool):Bool:=match x with | .If v a b _=>f v a b|_=>false
def um {x:Stmt}{f:Expr->List Stmt->List Stmt->Bool}(h:IP x f=true):∃v a b p,x=.If v a b p/\f v a b=true:=by cases x with|If v a b p=>exact⟨v,a,b,p,rfl,h⟩|_=>exact bd h
noncomputable def yJ (x:Stmt)(f:Expr->List Stmt->Bool):Bool:=match x with | .While v a [] _=>f v a|_=>false
def va {x:Stmt}{f:Expr->List Stmt->Bool}(h:yJ x f=true):∃v a p,x=.While v a [] p/\f v a=true:=by
 cases x with
 | While v a b p=>cases b with|nil=>exact⟨v,a,p,rfl,h⟩|cons _ _=>exact bd h
 | _=>exact bd h
noncomputable def Gg (x:Stmt)(f:Expr->Expr->List Stmt->Bool):Bool:=match x with | .For t v a [] _=>f t v a|_=>false
def zD {x:Stmt}{f:Expr->Expr->List Stmt->Bool}(h:Gg x f=true):∃t v a p,x=.For t v a [] p/\f t v a=true:=by
 cases x with
 | For t v a b p=>cases b with|nil=>exact⟨t,v,a,p,rfl,h⟩|cons _ _=>exact bd h
 | _=>exact bd h
noncomputable def Ke:Tg->Bool
 | .name _=>true
 | _=>false
noncomputable def KB:E->Bool
 | .comp ..=>true
 | _=>false
noncomputable def HR (c:Cfg)(t:Tg)(e:E)(tg x:Expr):Bool :=
 Ke t && KB e && aK tg λy py=>BN x λ_ _ sc pos=>c.names.lookup y == some .local && py.line == pos.line && !nZ y sc
mutual
noncomputable def Ec (c:Cfg):S->Stmt->Bool
 | .set t e,s=>nW s λtg x=>(ot c t tg && aV c e x) && ((sT x && (IF tg || BI tg x)) || HR c t e tg x)
 | .par i j a b,s=>nW s λtg vx=>iN tg λts=>Uw ts λta tb=>aK ta λx px=>aK tb λy py=>iN vx λus=>Uw us λu v=>c.N[i]? == some x && c.N[j]? == some y && !(i == j) && !(x == y) && c.names.lookup x == some .local && c.names.lookup y == some .local
    && px.line == py.line && ao u && ao v && !(foldedForSure 8 u && foldedForSure 8 v) && !(constantsAlone 8 u && constantsAlone 8 v) && aV c a u && aV c b v
 | .aug i op e,s=>Fk s λt o x=>aK t λy _=>c.N[i]? == some y && c.loc y && o == op && aV c e x
 | .expr e,s=>Ih s λx=>sT x && aV c e x
 | .ret e,s=>Bv s λo=>eU o λx=>aV c e x
 | .Zf t a b,s=>IP s λx ys zs=>wH c t x && aT c a ys && aT c b zs
 | .Zh t b,s=>yJ s λx ys=>wH c t x && aT c b ys
 | .Yg t it b,s=>Gg s λtg x ys=>xg it tg && iu x && ot c t tg && yt c it x && aT c b ys
termination_by structural s=>s
noncomputable def aT (c:Cfg):Ss->List Stmt->Bool
 | .nil,xs=>xs.isEmpty
 | .cons s ss,xs=>c_ xs λy ys=>Ec c s y && aT c ss ys
termination_by structural s=>s
end
def Du {t:Tg}(h:Ke t=true):∃i,t=.name i:=by cases t with|name i=>exact⟨i,rfl⟩|_=>exact bd h
def DF {e:E}(h:KB e=true):∃elt tg it ifs nt caps,e=.comp elt tg it ifs nt caps:=by cases e with|comp elt tg it ifs nt caps=>exact⟨elt,tg,it,ifs,nt,caps,rfl⟩|_=>exact bd h
def cf {x:Expr}{t:Option Expr}{l:Nat}{env:Env}(h:sT x=true):swapsWith x t l env=pure false:=by cases x <;> first|rfl|cases h
def l7 {x t:Expr}{l:Nat}{env:Env}(h:sT x=true):swapsWithSole [t] x l env=pure false:=by unfold swapsWithSole;exact cf h
def ql {tg x:Expr}{env:Env}(h:BI tg x=true):swappedStores [tg] x env=pure none:=by
 cases tg with
 | Tuple ts k p =>
  cases x with
  | Tuple=>cases h
  | _=>rfl
 | Subscript a b p=>solve_by_elim
 | _=>cases h
noncomputable def vM:Expr->Bool
 | .Starred ..=>true
 | _=>false
def qt {u:Expr}(h:ao u=true):vM u=false:=by cases u <;> first|rfl|cases h
def vY {u v:Expr}(h1:ao u=true)(h2:ao v=true):([u,v].any fun | .Starred ..=>true|_=>false)=false:=by show (vM u || (vM v || false))=false;rw[qt h1,qt h2];rfl
def Cb {env:Env}{x y:Str}{px py pt:Pos}{kt k2:Nat}{Tj:Pos}{u v:Expr}(hb:env.blockKind=.function)(hx:env.kindOf x=some .local)(hy:env.kindOf y=some .local)(hxy:x≠y)(hl:px.line=py.line)
  (h1:ao u=true) (h2:ao v=true) (h3:(foldedForSure 8 u && foldedForSure 8 v)=false) (h4:(constantsAlone 8 u && constantsAlone 8 v)=false) :
  swappedStores [.Tuple [.Name x px,.Name y py] kt pt] (.Tuple [u,v] k2 Tj) env=pure (some [x,y]):=by
 unfold swappedStores;dsimp only;have e0:(Option.map (λx=>x.pos.line) [Expr.Name x px,Expr.Name y py].head?).getD 0=px.line:=rfl;have e1:([u,v].any fun | .Starred ..=>true|_=>false)=false:=vY h1 h2;have e2:[u,v].all (foldedForSure 8)=false:=by simpa using h3
 have e3:[u,v].all (constantsAlone 8)=false:=by simpa using h4
 have e4:[x,y].eraseDups.length=2:=by
  have:(y == x)=false:=by simpa using λz=>hxy z.symm
  simp[List.eraseDups_cons,this]
 rw[MM (by simp[hb]),MM ?h1]
 case h1=>exactλz=>ME (e1.symm.trans z)
 have e5:(List.filterMap (λt=>match t with
   | .Name id pos=>if (env.kindOf id == some .local && pos.line == (Option.map (λx=>x.pos.line) [Expr.Name x px,Expr.Name y py].head?).getD 0)=true then some id else none
   | _=>none) [Expr.Name x px,Expr.Name y py])=[x,y]:=by
  rw[e0];simp[List.filterMap_cons,hx,hy,hl]
 generalize hn:List.filterMap _ [Expr.Name x px,Expr.Name y py]=ns;have hns:ns=[x,y]:=hn.symm.trans e5;simp[*]
section
variable {X:Cx}{c:Cfg}{U:Nat->ZX}
def Ac {X:Cx}{c:Cfg}{U:Nat->ZX}(C:ZD X c U){t:Tg}{e:E}{tg x:Expr}{pos:Pos}(h2:ot c t tg=true)(h3:aV c e x=true)(h:HR c t e tg x=true):PS X (.Assign [tg] x pos) (V4 X.K (wpS U (.set t e))):=by
 have hE:=aZ e C _ h3;unfold HR at h;rw[MG,MG] at h;obtain⟨⟨ht,he⟩,h⟩:=h;replace h:=ak h;obtain⟨y,py,rfl,h⟩:=h;replace h:=ir h;obtain⟨ex,gens,sc,cpos,rfl,h⟩:=h;obtain⟨i,rfl⟩:=Du ht;obtain⟨elt,tg,it,ifs,nt,caps,rfl⟩:=DF he
 ·have h2:(c.N[i]? == some y && c.loc y)=true:=h2;simp only[bi,beq_iff_eq] at h2;obtain⟨g1,g2⟩:=C.Xv h2.2;rintro pins s O H D I ⟨m,Z,st,rf,rh,w⟩;simp only[bi,beq_iff_eq,Bool.not_eq_true'] at h;obtain⟨⟨hl,hp⟩,hn⟩:=h;have hll:=C.Uk _ hl;have hs:swapsWith (.ListComp ex gens sc cpos) (some (.Name y py)) pos.line X.env=pure true:=by
   unfold swapsWith;have q1:(X.env.kindOf y == some NameKind.local)=true:=by unfold Env.kindOf;rw[hll];rfl
   have q2:(X.env.blockKind == ScopeKind.function)=true:=by rw[C.bk];rfl
   have q3:(py.line == cpos.line)=true:=by rw[hp];simp
   unfold nZ at hn;show pure (_ && _ && _ && !_)=_;rw[q1,q2];show pure (true && true && (py.line == cpos.line) && !_)=_;rw[q3,hn];rfl
  replace h3:=ir h3;obtain⟨ex',gs',sc',pos',heq,h3⟩:=h3;cases heq;replace h3:=br h3;obtain⟨g,rfl,h3⟩:=h3;obtain⟨tx,ix,fx,ia⟩:=g
  ·simp only[bi,beq_iff_eq] at h3;obtain⟨⟨⟨⟨⟨⟨⟨⟨h1,h0⟩,k2'⟩,h3⟩,h4⟩,h5⟩,h6⟩,h7⟩,h8⟩:=h3;subst h1;obtain⟨S,k1,k2,k3,k4⟩:=jW C h4;have hC:∀s2 H2 fp A,ZD (YQ X (nt++caps.filterMap (X.N[·]?)) s2 H2 fp sc A) (c.inner nt caps sc) U:=λs2 H2 fp A=>wa C h4;rw[exec_Assign_Name_used _ _ _ _ hs];refine MA (wpAny_standAt ?_);refine MA ?_;unfold evalThenUse;refine MA ?_;refine qP (elt:=elt) (tg:=tg) (ifs:=ifs) (nt:=nt) (caps:=caps) (use:=some (assign (.Name y py) X.env)) (Fin:=λA H'=>D.nx (O.set i (some (.ref A))) H') (wi:=Sy X.K (gP U it)) C.mono C.calm S rfl k1 k2 k3 k2' h3 (yB it C _ h0 h5) (λs2 H2 fp A=>qY tg (hC s2 H2 fp A) _ h6) (λs2 H2 fp A=>vV ifs (hC s2 H2 fp A) _ h7) (λs2 H2 fp A=>aZ elt (hC s2 H2 fp A) _ h8) I ?_ ?_
   ·refine⟨m,Z,st,rf,rh,dm C.mono it (λxs ZR st1 z m1 H1 J e1 r1 W=>⟨m1,Z,st1,xs,ZR,rf.mono e1,r1,W,z.1,?_⟩) w⟩;refine gF (body:=nY U elt tg ifs (nt.map (λ_=>none)++caps.map λi=>(Z[i]?).join)) (λ_ _ _ _ hk q=>oM C.mono hk q) (λvs st2 k m2 H2 A ys e2 r2 Dm T3 hD ry=>?_) z.2
    try simp only[j8,sC,rm] at k
    exact k _ _ _ (e1.trans (e2.Xq T3)) (r2.Xq Dm hD ry) ((rf.mono (e1.trans (e2.Xq T3))).set i (R.last r2.len))
   ·intro C' A H' s' m' I' ns fp F;refine wpAny_assign_Name (kY I' C.VJ (by rw[C.N];exact h2.1) g1 (v:=.ref A) rfl (λs2 I2 hh=>?_) g2);obtain⟨a,hs2,ha⟩:=hh;have hne:C'≠a:=by
     rcases ha with rfl|ha
     ·exact fp.2.1
     ·exactλq=>fp.2.2.2.2.1 _ _ ha q.symm
    refine⟨m',?_,λh' hs'=>?_⟩
    ·obtain⟨o,es,ep,q1,q2⟩:=ns;exact⟨o,es,ep,(hs2.2 C' hne).trans q1,q2⟩
    ·refine MC (MC ?_);exact⟨_,H',I2.turned (t':=s2.toks) (λb o hb e=>hs'.extBut b o hb e) fp.1 fp.2.1 fp.2.2.2.1 fp.2.2.2.2.1 fp.2.2.2.2.2,F⟩
mutual
theorem Jv (C:ZD X c U):∀(e:S) (x:Stmt),Ec c e x=true->PS X x (V4 X.K (wpS U e))
 | .set t e,x,h=>by
  replace h:=fg h;obtain⟨tg,x,pos,rfl,h⟩:=h
  ·simp only[bi,Bool.or_eq_true] at h;obtain⟨⟨h2,h3⟩,h14⟩:=h;rcases h14 with⟨h1,h4⟩|h14
   rotate_left
   ·exact Ac C h2 h3 h14
   ·have hE:=aZ e C _ h3;have hG:=qY t C _ h2;rintro pins s O H D I ⟨m,Z,st,rf,rh,w⟩;have rd:Jm (Zv X.K (Z_ U e)) (Sx X.K (ee U t)) D O H:=⟨m,Z,st,rf,rh,ae C.mono e (λv st1 k m1 H1 x1 e1 r1 r2=>⟨m1,Z,st1,v,rf.mono e1,r1,r2,bG C.mono t (λ_ _ q=>q.ext e1) k⟩) w⟩;cases t with
    | name i =>
     obtain⟨y,p,rfl,h2⟩:=ak h2;have h2:=Bool.and_eq_true_iff.mp h2;obtain⟨g1,g2⟩:=C.Xv h2.2;refine sZ C.VJ (by rw[C.N];exact beq_iff_eq.mp h2.1) g1 hE (cf h1) g2 pins s O H D I ⟨m,Z,st,rf,rh,ae C.mono e (λv st1 k m1 H1 x1 e1 r1 r2=>?_) w⟩
     try simp only[j8,sC,rm] at k
     exact k m1 H1 _ e1 r1 ((rf.mono e1).set i r2)
    | tup ts =>obtain⟨xs,k,p,rfl,_⟩:=dj h2;exact Ax hE hG (l7 h1) (ql (by rcases h4 with h4|h4;cases h4;exact h4)) rfl pins s O H D I rd
    | sub o i =>obtain⟨l,r,p,rfl,_⟩:=dU h2;exact Ax hE hG (l7 h1) (ql (by solve_by_elim)) rfl pins s O H D I rd
 | .par i j a b,x,h=>by
  replace h:=fg h;obtain⟨tg,vx,pos,rfl,h⟩:=h;replace h:=dj h;obtain⟨ts,k,p1,rfl,h⟩:=h;replace h:=iV h;obtain⟨ta,tb,rfl,h⟩:=h;replace h:=ak h;obtain⟨x,px,rfl,h⟩:=h;replace h:=ak h;obtain⟨y,py,rfl,h⟩:=h;replace h:=dj h;obtain⟨us,k2,p2,rfl,h⟩:=h;replace h:=iV h;obtain⟨u,v,rfl,h⟩:=h
  ·simp only[bi,beq_iff_eq,Bool.not_eq_true',beq_eq_false_iff_ne] at h;obtain⟨⟨⟨⟨⟨⟨⟨⟨⟨⟨⟨⟨h1,h2⟩,h3⟩,h4⟩,h5⟩,h6⟩,h7⟩,h8⟩,h9⟩,h10⟩,h11⟩,h12⟩,h13⟩:=h;have hx:=C.Uk _ h5;have hy:=C.Uk _ h6;rintro pins s O H D I ⟨m,Z,st,rf,rh,w⟩;refine Jc C.calm C.VJ (by rw[C.N];exact h1) (by rw[C.N];exact h2) h3 hx hy (Yy (aZ a C _ h12) (Yy (aZ b C _ h13) bD h9) h8)
    (Cb C.bk hx hy h4 h7 h8 h9 h10 h11) rfl pins s O H D I ⟨m,Z,st,rf,rh,ae C.mono a (λv st1 k m1 H1 x1 e1 r1 r2=>⟨m1,Z,st1,rf.mono e1,r1,
    ae C.mono b (λu st2 k2 m2 H2 y2 e2 r3 r4=>⟨x1,y2,rfl,?_⟩) k⟩) w⟩
   exact k2 m2 H2 _ (e1.trans e2) r3 ((((rf.mono e1).mono e2).set i (r2.mono e2)).set j r4)
 | .aug i op e,x,h=>by
  replace h:=yT h;obtain⟨t,o,x,p,rfl,h⟩:=h;replace h:=ak h;obtain⟨y,py,rfl,h⟩:=h
  ·simp only[bi,beq_iff_eq] at h;obtain⟨⟨⟨h1,h2⟩,h3⟩,h4⟩:=h;subst h3;obtain⟨g1,g2⟩:=C.Xv h2;rintro pins s O H D I ⟨m,Z,st,rf,rh,w⟩;obtain⟨v,ev,w⟩:=w;obtain⟨y,ey,ry⟩:=rf.at_ i v ev;refine Iy C.VJ (by rw[C.N];exact h1) g1 (aZ e C _ h4) (Hr _) g2 pins s O H D I ⟨y,ey,m,Z,st,rf,rh,ae C.mono e (λu st1 k m1 H1 x1 e1 r1 r2=>⟨m1,st1,v,u,r1,ry.mono e1,r2,qc (λz st2 q m2 H2 z2 e2 r3 r4=>?_) k⟩) w⟩;exact q m2 H2 _ (e1.trans e2) r3 (((rf.mono e1).mono e2).set i r4)
 | .expr e,x,h=>by
  replace h:=uu h;obtain⟨x,p,rfl,h⟩:=h
  ·simp only[bi] at h;rintro pins s O H D I ⟨m,Z,st,rf,rh,w⟩;exact xZ (aZ e C _ h.2) (cf h.1) pins s O H D I ⟨m,Z,st,rf,rh,ae C.mono e (λu st1 k m1 H1 x1 e1 r1 r2=>k m1 H1 O e1 r1 (rf.mono e1)) w⟩
 | .ret e,x,h=>by
  replace h:=qg h;obtain⟨o,p,rfl,h⟩:=h;replace h:=bM h;obtain⟨x,rfl,h⟩:=h
  ·rintro pins s O H D I ⟨m,Z,st,rf,rh,w⟩;exact B_ (aZ e C _ h) pins s O H D I ⟨m,Z,st,rf,rh,w⟩
 | .Zf t a b,x,h=>by
  replace h:=um h;obtain⟨x,ys,zs,p,rfl,h⟩:=h
  ·simp only[bi] at h;obtain⟨⟨h1,h2⟩,h3⟩:=h;rintro pins s O H D I ⟨m,Z,st,rf,rh,w⟩;refine Kv (sk t C _ h1) (n9 C a _ h2) (n9 C b _ h3) pins s O H D I ⟨m,Z,st,rf,rh,bJ C.mono t (λk st1 z m1 H1 e1 r1=>?_) w⟩;cases k with
   | true=>rw[MK rfl] at z |-;exact⟨m1,Z,st1,rf.mono e1,r1,bf C.mono a (AE.ext e1) z⟩
   | false=>rw[MM ME] at z |-;exact⟨m1,Z,st1,rf.mono e1,r1,bf C.mono b (AE.ext e1) z⟩
 | .Zh t b,x,h=>by
  replace h:=va h;obtain⟨x,ys,p,rfl,h⟩:=h
  ·simp only[bi] at h;intro pins s O H D I w;exact BD C.pass (sk t C _ h.1) (n9 C b _ h.2) pins s O H D I (yY C.mono w)
 | .Yg t it b,x,h=>by
  replace h:=zD h;obtain⟨tg,x,ys,p,rfl,h⟩:=h
  ·simp only[bi] at h;obtain⟨⟨⟨⟨h0,h1⟩,h2⟩,h3⟩,h4⟩:=h;intro pins s O H D I w;exact Ip C.pass C.calm (yB it C _ h0 h3) (qY t C _ h2) (n9 C b _ h4) (t8 h1) pins s O H D I (EE C.mono w)
theorem n9 (C:ZD X c U):∀(e:Ss) (x:List Stmt),aT c e x=true->Xk X x (V4 X.K (aO U e))
 | .nil,x,h=>by
  have h:x.isEmpty=true:=h;cases x with
  | nil =>rintro pins s O H D I ⟨m,Z,st,rf,rh,w⟩;exact yA pins s O H D I (Zb.here w rh rf)
  | cons _ _=>cases h
 | .cons e es,x,h=>by
  replace h:=aG h;obtain⟨y,ys,rfl,h⟩:=h
  ·simp only[bi] at h;rintro pins s O H D I ⟨m,Z,st,rf,rh,w⟩;refine oz (Jv C e _ h.1) (n9 C es _ h.2) pins s O H D I ⟨m,Z,st,rf,rh,wpS_mono C.mono e ?_ w⟩;exact⟨λZ1 st1 k m1 H1 O1 e1 r1 f1=>⟨m1,Z1,st1,f1,r1,bf C.mono es (AE.ext e1) k⟩,λ_ _ q=>q⟩
end
structure Wj (P:Program)(w:World)(K:W.Frag)(mg:Str->Option Value)(base:Heap)(c:Cfg)(U:Nat->ZX):Prop where
 fn:∀f x,f<c.lim->c.fns[f]?=some x->∃ps,V1 P w K mg base (f+1) x ps (fK K (U f))
 blt:∀x∈c.YB,mg x=none
 gl:∀x v,c.gl.lookup x=some v->GL P w K mg x v
 mono:bj U
noncomputable def frame (n:Nat)(as:List PV):Fr:=as.map some++List.replicate (n-as.length) none
noncomputable def au (st:AH)(Q:EK):aQ:={ nx:=λ_ st'=>Xl st Q .non st',rt:=Xl st Q }
def eM {K:W.Frag}{m:List Addr}{H:Hp}{st st':AH}{Q:VK}{v:PV}(rh:RH K m H st)(q:Xl st (post K m H Q) v st'):post K m H Q v st':=by
 rcases q with q|q
 ·exact q
 ·intro m' H' x e r s;obtain⟨st1,q,e2,r3,r4⟩:=sW rh e r s q
  solve_by_elim
def kl {K:W.Frag}{m:List Addr}{H:Hp}{N:List Str}{as:List PV}{vs:List V}(r:Rs K m H as vs):RF K m H (frame N.length as) (L2.start N vs):=by
 have hl:=r.len;refine⟨by simp[frame,L2.start,hl],λi v e=>?_⟩;unfold frame at e;unfold L2.start;by_cases hi:i<as.length
 ·rw[M0 (by simpa using hi),M5] at e;cases q:as[i]? with
  | none=>simp_all
  | some a =>rw[q] at e;cases e;obtain⟨y,e1,r1⟩:=r.get q;exact⟨y,by rw[M0 (by simp;simp_all),M5,e1];rfl,r1⟩
 ·rw[MY (by simpa using hi),List.getElem?_replicate] at e
  simp_all
def sH {P:Program}{w:World}{K:W.Frag}{mg:Str->Option Value}{base:Heap}{x:Str}{st:Stmt}{N ps:List Str}(S:ar N ps (af st)){f:Addr}{cdv:Value}{A:Around}{outer:List Env}{s:Shared}{H:Hp}{E:XK}
  (hN:c.N=N) (hn:c.names=(af st).names) (hr:Zz c.lim (A.deeper (envOfC x (af st) s.heap.objs.size f cdv))) (G:Wj P w K mg base c U) :
  ZD (oH Vz P w K mg base N x (af st) f cdv A outer s H E).Zi c U where
 calm:=rfl
 pass:=PassesOwn.never
 N:=hN.symm
 nd:=by rw[hN];exact S.nd
 XH:=λy h=>by rw[hn] at h;exact h
 loc:=λy h=>by rw[hn] at h;solve_by_elim
 Uk:=λy h=>by rw[hn] at h;exact h
 X7:=λy h=>by rw[hn] at h;exact h
 bk:=by show Env.blockKind (envOfC x (af st) s.heap.objs.size f cdv)=_;unfold Env.blockKind;show (if (af st).kind.isAnnotationScope=true then _ else (af st).kind)=_;rw[S.kind];rfl
 U5:=λy h=>by rw[hn] at h;exact h
 room:=hr
 fn:=G.fn
 blt:=G.blt
 gl:=G.gl
 mono:=G.mono
def HM {P:Program}{w:World}{K:W.Frag}{mg:Str->Option Value}{base:Heap}{x:Str}{st:Stmt}{N ps:List Str}{sp:ZX}{code:Ss}(F:At K mg x st ps)(S:ar N ps (af st))(hN:c.N=N)(hn:c.names=(af st).names)
  (hc:aT c code (ai st)=true) (G:Wj P w K mg base c U) (len:∀as st Q,sp as st Q->as.length=ps.length)
  (h:∀as st Q,sp as st Q->aO U code (frame N.length as) st (au st Q)):V1 P w K mg base (c.lim+1) x ps (fK K sp):=by
 refine F.ok S (λvs H Q E ⟨m,st,as,r1,r2,q⟩=>by rw[<-r1.len];solve_by_elim) λf cdv A outer s H vs Q E hr ⟨m,st',as,r1,r2,q⟩=>?_;have C:=sH (E:=E) (H:=H) (outer:=outer) (U:=U) S hN hn hr G;refine⟨_,n9 C code _ hc,m,frame N.length as,st',kl r1,r2,bf G.mono code ?_ (h as st' _ q)⟩;exact⟨λZ st2 k m' H' O' e r f=>eM r2 k m' H' .non e r (Zo.mpr rfl),λv st2 k=>eM r2 k⟩
end
section
variable {P:Program}{w:World}{K:W.Frag}{mg:Str->Option Value}{base:Heap}{c c':Cfg}{U:Nat->ZX}
def Wj.next (G:Wj P w K mg base c U)(h1:c'.fns=c.fns)(h2:c'.lim=c.lim+1)(h3:c'.YB=c.YB)(h4:c'.gl=c.gl){x:Str}{ps:List Str}(hx:c.fns[c.lim]?=some x)(H:V1 P w K mg base (c.lim+1) x ps (fK K (U c.lim))):Wj P w K mg base c' U where
 fn:=λf y hf e=>by
  rw[h1] at e;rw[h2] at hf;by_cases hl:f<c.lim
  ·exact G.fn f y hl e
  grind
 blt:=by rw[h3];exact G.blt
 gl:=by rw[h4];exact G.gl
 mono:=G.mono
def Dz {x qual:Str}{st:Stmt}{f:Addr}{fd:FuncData}{N ps:List Str}{sp:ZX}{code:Ss}(F:Ub K x x st f fd)(S:ar N ps (af st))(hN:c.N=N)(hn:c.names=(af st).names)
  (hc:aT c code (ai st)=true) (G:Wj P w K mg base c U) (len:∀as st Q,sp as st Q->as.length=ps.length)
  (h:∀as st Q,sp as st Q->aO U code (frame N.length as) st (au st Q)):mE P w K mg base Vz (c.lim+1) f fd ps (fK K sp):=by
 refine F.ok S (λvs H Q E ⟨m,st,as,r1,r2,q⟩=>by rw[<-r1.len];solve_by_elim) λcdv A outer s H vs Q E hr ⟨m,st',as,r1,r2,q⟩=>?_;have C:=sH (E:=E) (H:=H) (outer:=outer) (U:=U) S hN hn hr G;refine⟨_,n9 C code _ hc,m,frame N.length as,st',kl r1,r2,bf G.mono code ?_ (h as st' _ q)⟩;exact⟨λZ st2 k m' H' O' e r f=>eM r2 k m' H' .non e r (Zo.mpr rfl),λv st2 k=>eM r2 k⟩
end
def jf:ZX:=λas st Q=>∃ns:List Int,as=[.YM (ns.map PV.int)]/\ns.length<=63/\∀st',Q (.bl true) st'
theorem xu {K:W.Frag}{m:List Addr}{H:Hp}:∀ {ns:List Int},Rs K m H (ns.map PV.int) (ns.map V.int)
 | []=>by solve_by_elim
 | n::ns=>by rw[M3,M3,Z7,Z9];exact⟨rfl,xu⟩
def BZ {K:W.Frag}{H:Hp}{a:Addr}{ns:List Int}(hl:ns.length<=63)(hO:∀ys,H a≠some (.lst ys))(hS:Zr K H a (ns.map V.int)):fK K jf [.ref a] H (λv _=>v=.bl true) λ_ _ _=>False:=by
 have hF:WT K H a (ns.map V.int):=by
  rcases hS with (h|h)|h
  ·solve_by_elim
  ·exact .inl h
  ·exact .inr h
 refine⟨[],[],[.YM (ns.map PV.int)],?_,⟨rfl,Q5,λn c a h=>by simp at h⟩,ns,rfl,hl,λst' m' H' x e r s=>ZW.mp s⟩;rw[Z7,Z5,Za];exact⟨⟨a,_,rfl,hF,xu⟩,rfl⟩
def zg {P:Program}{w:World}{K:W.Frag}{mg mb:Str->Option Value}{k:Nat}{fa a:Addr}{fd:FuncData}{x:Str}{s₁:Shared}{vs:List Value}{ns:List Int}
  (KX:K.In s₁.heap) (hns:s₁.heap.Ns mainGlobals mg) (hb:s₁.heap.Ns builtinsNs mb) (hbb:∀x:Str,x≠"__name__"->mb x=bootBuiltins x) (hlim:s₁.heap.NoLimit) (hg:s₁.gens=#[])
  (ha:s₁.heap.get? a=some { cls:=.type "list",data:=.seq vs.toArray }) (hi:IntsAre vs ns) (hl:ns.length<=63) (hr:Zz k callerA)
  (F:∀base:Heap,K.In base->base.Ns mainGlobals mg->mE P w K mg base Vz k fa fd [x] (fK K jf)) (hbind:∀(s:Shared) (u:Value),BindsTo s fd ⟨[u],[]⟩ [(x,u)]) :
  codeAny (model P w) callerA (.call (.ref fa) ⟨[.ref a],[]⟩) (λr s'=>r=.ok (.ret (.bool true))/\OldK s₁.heap s'.heap/\s'.os=s₁.os/\AllBare s'.gens) s₁:=by
 have rv:=qk hi;have lenV:=hi.length;have hl2:ns.length<=sizeLine:=MX hl (by decide);have core:∀H:Hp,(∀b u,H b=some u->b=a/\(∃o xs,u=.VF o (.lst xs))/\ZL P w H s₁.heap a u/\K.lookup a=none)->Zr K H a (ns.map V.int) ->
   codeAny (model P w) callerA (.call (.ref fa) ⟨[.ref a],[]⟩) (λr s'=>r=.ok (.ret (.bool true))/\OldK s₁.heap s'.heap/\s'.os=s₁.os/\AllBare s'.gens) s₁:=by
  intro H hH hS;have hok:YX P w H s₁.heap:=λb u e=>by obtain⟨rfl,_,h,_⟩:=hH b u e;exact h
  have RX:∀ {b:Addr}{m:Str->Option Value},s₁.heap.Ns b m->(uS s₁.heap H).Ns b m:=λ{b m} ⟨o,es,ep,e,d,r⟩=>⟨o,es,ep,tV e (by
   cases q:H b with
   | none=>rfl
   | some u=>obtain⟨rfl,_⟩:=hH b u q;rw[ha] at e;cases e;cases d),d,r⟩
  have Nu:K.In (uS s₁.heap H):=λb o e=>tV (KX b o e) (by
   cases q:H b with
   | none=>rfl
   | some u=>obtain⟨rfl,_,_,z⟩:=hH b u q;rw[z] at e;cases e)
  have hM:Mod K mg (uS s₁.heap H):=⟨Nu,RX hns,⟨mb,RX hb,hbb⟩,let ⟨mc,h1,h2⟩:=hlim;⟨mc,RX h1,h2⟩⟩;have e0:Eu P w K mg (uS s₁.heap H) callerA [] s₁ H:=⟨rfl,hM,λb o e=>EU e,Q_ (zR _ _),trivial,λb hb=>absurd (show b∈([]:List Addr) from hb) (by simp),hok,.of_eq hg⟩;refine codeAny_mono ((F _ Nu (RX hns)).run callerA [] s₁ H ⟨[.ref a],[]⟩ [.ref a] [.ref a] _ _ hr e0 (hbind s₁ (.ref a)) (.cons rfl .nil) (BZ hl (λys z=>by obtain⟨_,⟨o,xs,e⟩,_⟩:=hH a _ z;cases e) hS)) λr s' h=>?_;cases r with
  | error e=>solve_by_elim
  | ok fl =>
   cases fl with
   | ret u =>
    obtain⟨v,H',os,bare,un,hok',r',q⟩:=h;have q':v=.bl true:=q;subst q';obtain rfl:u=Value.bool true:=r';refine⟨rfl,⟨λb o e=>?_,λb o e=>un.there b o e (by simp)⟩,os,bare⟩;cases q:H b with
    | none=>exact .inl (un.keep b o e q (by intro z;exact absurd (show b∈([]:List Addr) from z) (by simp)) (by simp))
    | some u =>obtain⟨rfl,⟨ob,xs,rfl⟩,_⟩:=hH b u q;obtain⟨e1,_⟩:=hok b _ q;obtain⟨e2,_⟩:=hok' b _ (un.Px b ob _ q);rw[e] at e1;cases e1;exact .inl e2
   | _=>solve_by_elim
 cases hk:K.lookup a with
 | some o =>have e:=KX a o hk;rw[ha] at e;cases e;exact core (λ_=>none) (λ_ _ z=>nomatch z) (.inr ⟨_,vs.toArray,_,hk,rfl,rfl,rfl,by rw[NL,lenV];exact hl2,by simpa using rv⟩)
 | none =>
  refine core (λb=>if b=a then some (.VF { cls:=.type "list",data:=.seq vs.toArray } (.lst (ns.map V.int))) else none) (λb u z=>?_) (.inl (.inr ⟨{ cls:=.type "list",data:=.seq vs.toArray },MK rfl⟩));split at z
  ·cases z;exact⟨by assumption,⟨_,_,rfl⟩,⟨ha,by rw[MI];exact hl2,vs,_,rv,ha⟩,hk⟩
  ·cases z
def Tu {l:W.OpenLaw}{q:Program}{loose:List Str}{XP:(Str->Option Value)->Heap->Prop}{YP:World->Heap->Prop}{d:DefRec}{K:Params->W.Frag}{k:Nat}{x:Str}(hn:l.most=some 63)(hdf:d.params.defaults=[])(hr:Zz k callerA)
  (hY:∀(w:World) (h:Heap),YP w h->(K w.params).In h)
  (F:∀(w:World) (mg:Str->Option Value) (fa:Addr) (h:Heap),(K w.params).In h->h.Ns mainGlobals mg->mg d.name=some (.ref fa) ->
   ∃fd:FuncData,(∀(s:Shared) (u:Value),BindsTo s fd ⟨[u],[]⟩ [(x,u)])/\∀base:Heap,(K w.params).In base->base.Ns mainGlobals mg->mE l.prog w (K w.params) mg base Vz k fa fd [x] (fK (K w.params) jf)) :
  W.WalkO q loose XP YP l.row.toRowW d [] (λf vs=>PySem.call f vs):=by
 refine Nb.Xr hn hdf λw s₀ s₁ mg mb fa o pm cd doc a vs ns G Y ho hd hcd hmg hobj hints hlen hg=>?_;obtain⟨fd,hb,hF⟩:=F w mg fa _ (hY w _ Y) G.T.g hmg;exact zg (hY w _ Y) G.T.g G.T.b G.T.builtins G.T.nolimit hg hobj hints hlen hr hF hb
def Sub.refl (st:AH):Sub st st:=λi _=>.inl rfl
theorem Sub.set {st st':AH}{n:Nat}{c:Cell}(h:Sub st st')(hc:c.ZQ 0=true):Sub st (st'.set n c):=λi hi=>by
 by_cases e:n=i
 ·subst e;by_cases hl:n<st'.length
  ·exact .inr ⟨c,NG hl,hc⟩
  ·rw[List.set_eq_of_length_le (by simp_all)];exact h n hi
 ·rw[NJ e];exact h i hi
def V5.app {st g:AH}{Q:EK}{v:PV}(h:v.ZQ st.length=true)(q:Q v st):V5 st Q v (st++g):=⟨st,g,rfl,rfl,Sub.refl st,h,q⟩
def V5.Xy {st g:AH}{Q:EK}{v:PV}{n:Nat}{c:Cell}(h:v.ZQ st.length=true)(hc:c.ZQ 0=true)(q:Q v (st.set n c)):V5 st Q v (st.set n c++g):=⟨st.set n c,g,rfl,by simp,(Sub.refl st).set hc,h,q⟩
def Xl.all {st st':AH}{Q:EK}{v:PV}(q:Q v st'):Xl st Q v st':=.inl q
def ar1 {P:List Value->Prop}(h:∀a,P [a])(us:List Value)(hl:us.length=1):P us:=by
 match us,hl with
 | [a],_=>exact h a
def ar2 {P:List Value->Prop}(h:∀a b,P [a,b])(us:List Value)(hl:us.length=2):P us:=by
 match us,hl with
 | [a,b],_=>exact h a b
def ar3 {P:List Value->Prop}(h:∀a b c,P [a,b,c])(us:List Value)(hl:us.length=3):P us:=by
 match us,hl with
 | [a,b,c],_=>exact h a b c
def ar4 {P:List Value->Prop}(h:∀a b c d,P [a,b,c,d])(us:List Value)(hl:us.length=4):P us:=by
 match us,hl with
 | [a,b,c,d],_=>exact h a b c d
def ar5 {P:List Value->Prop}(h:∀a b c d e,P [a,b,c,d,e])(us:List Value)(hl:us.length=5):P us:=by
 match us,hl with
 | [a,b,c,d,e],_=>exact h a b c d e
abbrev DI (K:W.Frag)(x:Str)(st:Stmt):Prop:=∃(f:Addr) (oc:Value) (od:Option Addr) (kV dc pm:Value) (an:Option Addr) (cd ct:Value) (sl:Array (Option Value)),W.nsIn K mainGlobals x=some (some (.ref f))/\K.lookup f=some ⟨oc,od,.func (W.fnOf x x (cg st) (ai st) (af st) .none kV dc pm an cd ct),sl⟩/\W.codeIn K cd x=true/\W.keepIn K (.ref f)=true
def Sd {K:W.Frag}{x:Str}{st:Stmt}{f:Addr}{oc:Value}{od:Option Addr}{kV dc pm:Value}{an:Option Addr}{cd ct:Value}{sl:Array (Option Value)}(a:W.nsIn K mainGlobals x=some (some (.ref f)))(l:K.lookup f=some ⟨oc,od,.func (W.fnOf x x (cg st) (ai st) (af st) .none kV dc pm an cd ct),sl⟩)(c:W.codeIn K cd x=true)(k:W.keepIn K (.ref f)=true):DI K x st:=⟨f,oc,od,kV,dc,pm,an,cd,ct,sl,a,l,c,k⟩
def Wj.nx {P:Program}{w:World}{K:W.Frag}{mg:Str->Option Value}{base h:Heap}{U:Nat->ZX}{c c':Cfg}{x:Str}{st:Stmt}{N ps:List Str}{code:Ss}{sp:ZX}(G:Wj P w K mg base c U)(X:K.In h)(Gn:h.Ns mainGlobals mg)(d:DI K x st)(S:ar N ps (af st))(hc:aT c code (ai st)=true)
  (len:∀ {as st Q},sp as st Q->as.length=ps.length) (hw:∀ {as st Q},sp as st Q->aO U code (frame N.length as) st (au st Q))
  (hb:∀(kV doc pm:Value) (an:Option Addr) (cdv ct:Value) (us:List Value),us.length=ps.length->bindArgs (W.fnOf x x (cg st) (ai st) (af st) .none kV doc pm an cdv ct) ⟨us,[]⟩=pure (ps.zip us))
  (hN:c.N=N:=by rfl) (hn:c.names=(af st).names:=by rfl) (h1:c'.fns=c.fns:=by rfl) (h2:c'.lim=c.lim+1:=by rfl) (h3:c'.YB=c.YB:=by rfl) (h4:c'.gl=c.gl:=by rfl) (hx:c.fns[c.lim]?=some x:=by rfl) (hs:U c.lim=sp:=by rfl):Wj P w K mg base c' U:=by
 obtain⟨f,oc,od,kV,dc,pm,an,cd,ct,sl,a,l,cc,k⟩:=d;subst hs;exact G.next h1 h2 h3 h4 hx (HM (At.mk' X Gn hb a l cc k) S hN hn hc G (λ_ _ _=>len) (λ_ _ _=>hw))
section
variable {U:Nat->ZX}{Z:Fr}{st:AH}{Q:EK}{D:aQ}{a b:E}{c:T}
noncomputable def RJ (U:Nat->ZX)(ss:Ss)(D:aQ):aQ:={ D with nx:=λZ' st'=>aO U ss Z' st' D }
noncomputable def LD (I:Fr->AH->Prop)(D:aQ):aQ:={ nx:=I,rt:=D.rt }
def K5 (U:Nat->ZX)(t:Tg)(b:Ss)(ZR:AH->Prop)(D:aQ)(xs:List PV)(Z:Fr)(st:AH):Prop:=uX ZR (λx Z' st' D'=>ee U t x Z' st' λZ2 st2=>aO U b Z2 st2 D') D xs Z st
def Lc (U:Nat->ZX)(c:T)(b:Ss)(D:aQ)(Z:Fr)(st:AH):Prop:=∃n,fR (YW U c) (aO U b) D n Z st
def ui (U:Nat->ZX)(elt:E)(tg:Tg)(ifs:Ts)(ZR:AH->Prop)(Z:Fr)(xs:List PV)(st:AH)(Q:LK):Prop :=
 gY ZR (λx st2 k=>ee U tg x Z st2 λZ' st3=>gK U true ifs Z' st3 λc Yr=>if c=true then Z_ U elt Z' Yr λv Yb=>k (some v) Yb else k none Yr) xs [] st Q
def BV {ss:Ss}:(RJ U ss D).nx Z st=aO U ss Z st D:=rfl
def BO {ss:Ss}{v:PV}:(RJ U ss D).rt v st=D.rt v st:=rfl
def FA {I:Fr->AH->Prop}:(LD I D).nx Z st=I Z st:=rfl
def FF {I:Fr->AH->Prop}{v:PV}:(LD I D).rt v st=D.rt v st:=rfl
def FS {st0:AH}{v:PV}:(au st0 Q).rt v st=Xl st0 Q v st:=rfl
def ye {s s2:S}{ss:Ss}:aO U (.cons s (.cons s2 ss)) Z st D=wpS U s Z st (RJ U (.cons s2 ss) D):=rfl
def yc {x:Ss}:wpS U (.Zh c x) Z st D=Lc U c x D Z st:=rfl
def Hb {t:Tg}{it:It}{x:Ss}:wpS U (.Yg t it x) Z st D=gP U it Z st λxs ZR st1=>K5 U t x ZR D xs Z st1:=rfl
def Bg {tg:Tg}{it:It}{ifs:Ts}{nt:List Str}{caps:List Nat}:Z_ U (.comp a tg it ifs nt caps) Z st Q=gP U it Z st λxs ZR st1 =>
  xs.length<100000/\ui U a tg ifs ZR (nt.map (λ_=>none)++caps.map λi=>(Z[i]?).join) xs st1 λvs st2=>Q (.ref st2.length) (st2++[.lst vs]):=rfl
def rM (G:bj U){t:Tg}{b:Ss}{ZR:AH->Prop}{D:aQ}(I:Nat->Fr->AH->Prop){xs:List PV}{Z:Fr}{st:AH}(h0:I 0 Z st)
  (hs:∀i x Z st,xs[i]?=some x->I i Z st->ZR st/\ee U t x Z st (λZ2 st2=>aO U b Z2 st2 (LD (I (i+1)) D)))
  (hd:∀Z st,I xs.length Z st->ZR st/\D.nx Z st):K5 U t b ZR D xs Z st:=by
 have key:∀(k i:Nat) (Z:Fr) (st:AH),i+k=xs.length->I i Z st->uX ZR (λx Z' st' D'=>ee U t x Z' st' λZ2 st2=>aO U b Z2 st2 D') D (xs.drop i) Z st:=by
  intro k
  induction k with
  | zero =>
   intro i Z st hi h;have:i=xs.length:=by omega
   subst this;rw[List.drop_length];exact hd Z st h
  | succ k ih =>
   intro i Z st hi h;have hlt:i<xs.length:=by omega
   rw[PN hlt];obtain⟨h1,h2⟩:=hs i xs[i] Z st (by simp[hlt]) h;refine⟨h1,bG G t (λZ2 st2 k2=>bf G b ?_ k2) h2⟩;exact⟨λZ3 st3 z=>ih (i+1) Z3 st3 (by lia) z,λ_ _ z=>z⟩
 have:=key xs.length 0 Z st (by simp) h0;assumption
theorem qO {c:Fr->AH->BK->Prop}{body:Fr->AH->aQ->Prop}{D:aQ}(hc:∀Z st Q Q',(∀b st,Q b st->Q' b st)->c Z st Q->c Z st Q')(hb:∀Z st D D',gS D D'->body Z st D->body Z st D') :
  ∀ {n k:Nat}{Z:Fr}{st:AH},n<=k->fR c body D n Z st->fR c body D k Z st
 | 0,k,Z,st,_,h=>h.elim
 | n+1,0,Z,st,hk,h=>absurd hk (by simp_all)
 | n+1,k+1,Z,st,hk,h=>by
  refine hc _ _ _ _ (λb st1 z=>?_) h;cases b with
  | false=>exact z
  | true =>
   rw[MK rfl] at z |-
   refine hb _ _ _ _ ?_ z;exact⟨λ_ _ z=>qO hc hb (by simp_all) z,λ_ _ z=>z⟩
def oi (G:bj U){c:T}{b:Ss}{D:aQ}(I:Nat->Fr->AH->Prop){n:Nat}{Z:Fr}{st:AH}(h0:I n Z st)
  (hs:∀n Z st,I n Z st->YW U c Z st (λk st1=>if k=true then aO U b Z st1 (LD (λZ' st'=>∃m,m<n/\I m Z' st') D) else D.nx Z st1)):Lc U c b D Z st:=by
 have hc:∀Z st Q Q',(∀b st,Q b st->Q' b st)->YW U c Z st Q->YW U c Z st Q':=λ_ _ _ _ hk z=>bJ G c hk z;have hb:∀Z st D D',gS D D'->aO U b Z st D->aO U b Z st D':=λ_ _ _ _ hk z=>bf G b hk z;have key:∀(k n:Nat),n<k->∀(Z:Fr) (st:AH),I n Z st->fR (YW U c) (aO U b) D (n+1) Z st:=by
  intro k
  induction k with
  | zero=>intro n hn;simp_all
  | succ k ih =>
   intro n hn Z st h;refine hc _ _ _ _ (λq st1 z=>?_) (hs n Z st h);cases q with
   | false=>exact z
   | true =>
    rw[MK rfl] at z |-
    refine hb _ _ _ _ ?_ z;exact⟨λZ' st' ⟨m,hm,z⟩=>qO hc hb (by lia) (ih m (by lia) Z' st' z),λ_ _ z=>z⟩
 exact⟨_,key (n+1) n (by simp) Z st h0⟩
end
section
variable {U:Nat->ZX}
def eG (G:bj U){elt:E}{tg:Tg}{ifs:Ts}{ZR:AH->Prop}{Z:Fr}{xs:List PV}{st:AH}{Q:LK}(I:Nat->List PV->AH->Prop)(h0:I 0 [] st)
  (hs:∀i x acc st,xs[i]?=some x->I i acc st->ZR st/\ee U tg x Z st λZ' st3=>gK U true ifs Z' st3 λc Yr=>if c=true then Z_ U elt Z' Yr λv Yb=>I (i+1) (acc++[v]) Yb else I (i+1) acc Yr)
  (hd:∀acc st,I xs.length acc st->ZR st/\Q acc st):ui U elt tg ifs ZR Z xs st Q:=by
 have key:∀(k i:Nat) (acc:List PV) (st:AH),i+k=xs.length->I i acc st->gY ZR (nY U elt tg ifs Z) (xs.drop i) acc st Q:=by
  intro k
  induction k with
  | zero =>
   intro i acc st hi h;have:i=xs.length:=by omega
   subst this;rw[List.drop_length]
   solve_by_elim
  | succ k ih =>
   intro i acc st hi h;have hlt:i<xs.length:=by omega
   rw[PN hlt];obtain⟨h1,h2⟩:=hs i xs[i] acc st (by simp[hlt]) h;refine⟨h1,bG G tg (λZ2 st2 k2=>dq G true ifs (λc Yr k4=>?_) k2) h2⟩;cases c with
   | true=>rw[MK rfl] at k4 |-;exact ae G elt (λv Yb z=>ih (i+1) _ Yb (by omega) z) k4
   | false=>rw[MM ME] at k4 |-;simpa using ih (i+1) _ Yr (by omega) k4
 have:=key xs.length 0 [] st (by omega) h0;assumption
def comp_map (G:bj U){elt:E}{i:Nat}{ZR:AH->Prop}{Z:Fr}{xs:List PV}{st:AH}{Q:LK}(f:PV->PV)(hc:ZR st)(hs:∀x∈xs,Z_ U elt (Z.set i (some x)) st λv st'=>v=f x/\st'=st)(q:Q (xs.map f) st):ui U elt (.name i) .nil ZR Z xs st Q:=by
 refine eG G (λj acc s=>s=st/\acc=(xs.take j).map f) ⟨rfl,by simp⟩ ?_ ?_
 ·rintro j x acc s hx ⟨rfl,rfl⟩;refine⟨hc,?_⟩;simp only[j8,sJ];rw[MK trivial];refine ae G elt (λv Yb z=>?_) (hs x (MW hx));obtain⟨rfl,rfl⟩:=z;refine⟨rfl,?_⟩;rw[OC,hx];simp
 simp_all
theorem ck {f:PV->Bool}:∀ {xs:List PV},jb (xs.map λx=>.bl (f x))=some (xs.map f)
 | []=>rfl
 | x::xs=>by simp only[List.map_cons,jb,ck (xs:=xs),Option.map_some]
end
section
variable {st:AH}{Q:EK}{i j:Int}{n k:Nat}{xs ys:List PV}{x y v:PV}{b b':Bool}{s s':Str}{kB:Bool->Prop}{BQ:BK}
def Fw:jQ .Add (.int i) (.int j) st Q=Q (.int (i+j)) st:=rfl
def GM:jQ .Sub (.int i) (.int j) st Q=Q (.int (i-j)) st:=rfl
def G_:jQ .Mult (.int i) (.int j) st Q=(Vm i j/\Q (.int (i*j)) st):=rfl
def Hc:jQ .FloorDiv (.int i) (.int j) st Q=(Yj j/\Q (.int (i/j)) st):=rfl
def Gv:jQ .Mod (.int i) (.int j) st Q=(0<j/\Q (.int (i % j)) st):=rfl
def Hn:jQ .Pow (.int i) (.int j) st Q=(zk i j/\Q (.int (i ^ j.toNat)) st):=rfl
def CN:jQ .Add (.ref n) (.ref k) st Q=∃xs ys,st[n]?=some (.lst xs)/\st[k]?=some (.lst ys)/\xs.length+ys.length<=100000/\Q (.ref st.length) (st++[.lst (xs++ys)]):=rfl
def B5 {a b:Str}:jQ .Add (.str a) (.str b) st Q=(a.length+b.length<=100000/\Q (.str (a++b)) st):=rfl
def BA:jQ .Add (.tup xs) (.tup ys) st Q=(xs.length+ys.length<=100000/\Q (.tup (xs++ys)) st):=rfl
def Lb:fS .Eq x y st Q=Ye st x y λk=>Q (.bl k) st:=rfl
def Kf:fS .NotEq x y st Q=Ye st x y λk=>Q (.bl (!k)) st:=rfl
def Fl:fS .Is x .non st Q=Q (.bl (eR x)) st:=rfl
def BP:fS .IsNot x (.bl b) st Q=Q (.bl (!Ay b x)) st:=rfl
def Ls:fS .Lt (.int i) (.int j) st Q=Q (.bl (decide (i<j))) st:=rfl
def JZ:fS .Gt (.int i) (.int j) st Q=Q (.bl (decide (j<i))) st:=rfl
def J1:fS .GtE (.int i) (.int j) st Q=Q (.bl (decide (j<=i))) st:=rfl
def Ho:Ye st (.int i) (.int j) kB=kB (decide (i=j)):=rfl
def F0:Ye st (.str s) (.str s') kB=kB (decide (s=s')):=rfl
def qr:df st (.tup xs)=some xs:=rfl
def ah (h:st[n]?=some (.lst xs)):aS st (.ref n)=some xs:=by simp[aS,h]
def ag (h:st[n]?=some (.lst xs)):df st (.ref n)=some xs:=by simp[df,aS,h]
def tU:di st (.bl b)=some "bool":=rfl
def qB:di st (.int i)=some "int":=rfl
def pY:di st (.str s)=some "str":=rfl
def Gm {z:Str}:Wc (.str z) (.int i) st Q=(z.length<=100000/\∃c,YL z.cps.toList i=some c/\Q (.str ⟨#[c]⟩) st):=rfl
def FE:Wc (.tup xs) (.int i) st Q=∃v,YL xs i=some v/\Q v st:=propext ⟨λ⟨ys,e,q⟩=>by cases e;exact q,λq=>⟨xs,rfl,q⟩⟩
def Gy:Wc (.YM xs) (.int i) st Q=∃v,YL xs i=some v/\Q v st:=propext ⟨λ⟨ys,e,q⟩=>by cases e;exact q,λq=>⟨xs,rfl,q⟩⟩
def GK:Wc (.ref n) (.int i) st Q=∃xs,df st (.ref n)=some xs/\∃v,YL xs i=some v/\Q v st:=rfl
def qS:YL (x::xs) 0=some x:=aN (j:=0) rfl
def oo:YL (x::y::xs) 1=some y:=aN (j:=1) rfl
def GZ:YL (x::y::v::xs) 2=some v:=aN (j:=2) rfl
def FG:Wc (.tup (x::xs)) (.int 0) st Q=Q x st:=propext ⟨λ⟨ys,e,w,e2,q⟩=>by cases e;rw[qS] at e2;simp_all,λq=>⟨_,rfl,_,qS,q⟩⟩
def FT:Wc (.tup (x::y::xs)) (.int 1) st Q=Q y st:=propext ⟨λ⟨ys,e,w,e2,q⟩=>by cases e;rw[oo] at e2;simp_all,λq=>⟨_,rfl,_,oo,q⟩⟩
def F8 {lo hi:Option Int}:Vw (.tup xs) lo hi st Q=Q (.tup (dN xs lo hi)) st:=rfl
def FR {lo hi:Option Int}{z:Str}:Vw (.str z) lo hi st Q=(z.length<=100000/\Q (.str (b6 z lo hi)) st):=rfl
def Gh {lo hi:Option Int}:Vw (.ref n) lo hi st Q=∃xs,aS st (.ref n)=some xs/\Q (.ref st.length) (st++[.lst (dN xs lo hi)]):=rfl
def Ck {z:Str}:fF .len [.str z] st Q=(z.length<=100000/\Q (.int z.length) st):=rfl
def Dc {z:Str}:fF .Yv [.str z] st Q=(z.length<=640/\∃n,PySem.intText? z=some n/\Q (.int n) st):=rfl
def JD {a b:Str}:fS .In (.str a) (.str b) st Q=Q (.bl (!(Builtin.Str.occurrences b a 0 b.length 1).isEmpty)) st:=rfl
def Gi {z:Str}:U0 .join (.str z) y st Q=∃ss:List Str,aS st y=some (ss.map PV.str)/\JoinOk z ss=true/\Q (.str (Txt.join z ss)) st:=rfl
def F_ {z w:Str}:U0 .split (.str z) (.str w) st Q=(0<w.length/\z.length<=100000/\(Txt.split z w).length<=100000/\Q (.ref st.length) (st++[.lst ((Txt.split z w).map PV.str)])):=rfl
def Gf {z w:Str}:U0 .WL (.str z) (.str w) st Q=(z.length<=100000/\Q (.str (Txt.stripChars z w)) st):=rfl
def FP {a b:Str}:fS .Lt (.str a) (.str b) st Q=Q (.bl (decide (a.cps.toList<b.cps.toList))) st:=rfl
def Lz {a b:Str}:fS .NotIn (.str a) (.str b) st Q=Q (.bl (!(!(Builtin.Str.occurrences b a 0 b.length 1).isEmpty))) st:=rfl
def Gd {a:Str}:fS .In (.str a) (.ref n) st Q=inR a n st λk=>Q (.bl k) st:=rfl
def Fz {a:Str}:fS .NotIn (.str a) (.ref n) st Q=inR a n st λk=>Q (.bl (!k)) st:=rfl
def Dl:fF .len [.tup xs] st Q=Q (.int xs.length) st:=propext ⟨λ⟨ys,e,q⟩=>by cases e;exact q,λq=>⟨xs,rfl,q⟩⟩
def B3:fF .len [.YM xs] st Q=Q (.int xs.length) st:=propext ⟨λ⟨ys,e,q⟩=>by cases e;exact q,λq=>⟨xs,rfl,q⟩⟩
def CO:fF .len [.ref n] st Q=∃xs,df st (.ref n)=some xs/\Q (.int xs.length) st:=rfl
def F3:fF .max2 [.int i,.int j] st Q=Q (.int (if i<j then j else i)) st:=rfl
def GE:fF .min2 [.int i,.int j] st Q=Q (.int (if j<i then j else i)) st:=rfl
def vt:fF .divmod [.int i,.int j] st Q=(Yj j/\Q (.tup [.int (i/j),.int (i % j)]) st):=rfl
def BC:fF .Yv [.bl b] st Q=Q (.int (RL b)) st:=rfl
def CU:fF .str1 [.int i] st Q=(i.natAbs.log2<1920/\Q (.str (toString i)) st):=rfl
def Dp:fF .tuple1 [.ref n] st Q=∃xs,df st (.ref n)=some xs/\Q (.tup xs) st:=rfl
def yq:fF .list1 [.tup xs] st Q=Q (.ref st.length) (st++[.lst xs]):=propext ⟨λ⟨ys,e,q⟩=>by cases e;exact q,λq=>⟨xs,rfl,q⟩⟩
def FL:fF .all1 [x] st Q=∃xs bs,aS st x=some xs/\jb xs=some bs/\Q (.bl (bs.all id)) st:=rfl
def Gx:fF .W9 [x] st Q=∃xs bs,aS st x=some xs/\jb xs=some bs/\Q (.bl (bs.any id)) st:=rfl
def Hh {x:PV}:Xn .VM x st Q=∃ss:List Str,df st x=some (ss.map PV.str)/\ss.length<60/\∀ss':List Str,PyProof.Rows.sortedS ss'=true->ss'.Nodup->(∀i,i∈ss'↔i∈ss)->ss'.length<=ss.length->Q (.ref st.length) (st++[.lst (ss'.map PV.str)]):=rfl
def CH {x:PV}:Xn .X3 x st Q=∃xs,aS st x=some xs/\Q (.ref st.length) (st++[.lst xs.reverse]):=rfl
def B1 {x:PV}:Xn .X4 x st Q=∃ps:List (Int × Int),aS st x=some (ps.map λp=>.tup [.int p.1,.int p.2])/\ps.length<=2/\∀qs:List (Int × Int),qs.Perm ps->Q (.ref st.length) (st++[.lst (qs.map λp=>.tup [.int p.1,.int p.2])]):=rfl
def Fv {z:Str}:Xn .VP (.str z) st Q=(z.length<=100000/\Q (.str (Txt.upper z)) st):=rfl
def Af {x:PV}:Xn .Yh x st Q=∃xs,aS st x=some xs/\xs.all (λv=>(eR v || xm v))=true/\Q (.bl (xs.any eR)) st:=rfl
def GB {ne:Bool}{n z:Str}{kvs:List (Str × Int)}:Xn (.V9 ne n kvs) (.str z) st Q=Q (.bl ((kvs.lookup z).isSome != ne)) st:=rfl
def Hk {n z:Str}{kvs:List (Str × Int)}:Xn (.VG n kvs) (.str z) st Q=∃i,kvs.lookup z=some i/\Q (.int i) st:=rfl
noncomputable def U8 (kvs:List (Str × Int))(d:Option Int)(z:Str):PV:=match kvs.lookup z with|some i=>.int i|none=>RM d
def B6 {z:Str}{kvs:List (Str × Int)}{d:Option Int}:Xn (.Yn kvs d) (.str z) st Q=Q (U8 kvs d z) st:=rfl
def FM {f:Str->Prop}{z:Str}:VN f (.str z)=f z:=rfl
def F7 {f:List PV->Prop}:Ua f (.tup xs)=f xs:=rfl
def He {x:PV}:Xn .Vs x st Q=∃xs,aS st x=some xs/\Q (.bl xs.isEmpty) st:=rfl
def Gk:wW .append (.ref n) [v] st Q=∃xs,st[n]?=some (.lst xs)/\xs.length<100000/\Q .non (st.set n (.lst (xs++[v]))):=rfl
def Kp:t_ (.bl b) st BQ=BQ b st:=rfl
def GN {kS:AH->Prop}:uM (.ref n) (.int j) v st kS=∃xs,st[n]?=some (.lst xs)/\∃q,Wb xs.length j=some q/\kS (st.set n (.lst (xs.set q v))):=rfl
def Cd:vz .Add (.ref n) (.ref k) st Q=∃xs ys,st[n]?=some (.lst xs)/\st[k]?=some (.lst ys)/\xs.length+ys.length<=100000/\Q (.ref n) (st.set n (.lst (xs++ys))):=rfl
end
def C9:((1:Nat):Int)=1:=rfl
def A3:((2:Nat):Int)=2:=rfl
def tH {s g:AH}{k:Nat}:(s++g)[s.length+k]?=g[k]?:=by rw[MY (PJ _ _),Rx]
def uE {s g:AH}:(s++g)[s.length]?=g[0]?:=tH (k:=0)
def n5 {st:AH}{c c':Cell}:(st++[c]).set st.length c'=st++[c']:=by simp
def aq {st:AH}{c:Cell}:(st++[c])[st.length]?=some c:=by simp
def av {st g:AH}{n:Nat}{c:Cell}(h:st[n]?=some c):(st++g)[n]?=some c:=by rw[M0 (MT.mp h).1];exact h
def iZ {st:AH}{n:Nat}{c:Cell}(h:st[n]?=some c):n<st.length:=(MT.mp h).1
def oF (f:Array Value->Array Value)(o:Obj):(Obj.mapFields f o).dict=o.dict:=by
 unfold Obj.mapFields
 lia
section
variable {M:Model}{A:Around}{E:Value->Shared->Prop}{s:Shared}
def uU {base:Heap}{env:Env}{outer:List Env}{L e:Addr}{oe:Obj}{vs:Array Value}{head:Value}{hadNext:Bool}{Q:Unit->Shared->Prop}
  (hfr:A.frames=some (env::outer)) (hl:s.heap.FunFrames base (env::outer)) (hf:env.frame=some L)
  (he:s.heap.get? e=some oe) (hd:oe.data=.fields vs) (hsz:1<vs.size)
  (h:∀h' T oe' vs' oT ts,(∀b o,b ∉ frs (env::outer)->b≠e->s.heap.get? b=some o->h'.get? b=some o)->(∀b o,b∈frs (env::outer)->s.heap.get? b=some o->∃sl,h'.get? b=some { o with slots:=sl }) ->
   s.heap.objs.size<=T->h'.get? e=some oe'->(oe'.cls=oe.cls/\oe'.dict=oe.dict)->oe'.data=.fields vs'->vs'[1]?=some (.ref T)->h'.get? T=some oT->oT.data=.fields ts->ts[3]?=some (rawInt L)->Q () { s with heap:=h' }) :
  wpAny M A (do let a <-frameOf env;let pl <-entryPlaceOf L hadNext;let b <-EntryCells.newEntry head a .none (rawInt L) .none pl;setField (.ref e) 1 b) Q E s:=by
 have hene:e ∉ (env::outer).filterMap (·.frame):=λhm=>by obtain⟨_,o,ho,hnf⟩:=hl.mem hm;rw[he] at ho;simp_all
 refine MA (wpAny_frameOf_fun hfr hl hf λh₁ hs₁=>?_);refine MA (wpAny_entryPlaceOf λpl hpl=>?_);unfold EntryCells.newEntry newFields;refine MA (wpAny_newObj_type ?_ (hpl.sizeOk5 _ _ _ _ _));have he₁:h₁.get? e=some oe:=(hs₁.2.1 e hene).trans he;have he₂:=MB (h:=h₁) { cls:=.type "traceback",dict:=none,data:=.fields ([head,.ref L,.none,rawInt L,.none]++(if pl.isEmpty then List.replicate 6 Value.none else pl)).toArray } he₁;refine wpAny_setField he₂ hd hsz ?_;have hTe:h₁.objs.size≠e:=OE (MQ he₁);have hd₃:=Obj.data_mapFields hd (·.setIfInBounds 1 (Value.ref h₁.objs.size));have he₃:=M7 (Obj.mapFields (·.setIfInBounds 1 (Value.ref h₁.objs.size))) he₂ (Obj.isFreed_of_fields hd₃);have hT₃:=(NA (h₁.push { cls:=.type "traceback",dict:=none,data:=.fields ([head,.ref L,.none,rawInt L,.none]++(if pl.isEmpty then List.replicate 6 Value.none else pl)).toArray })
  (Obj.mapFields (·.setIfInBounds 1 (Value.ref h₁.objs.size))) (Ne.symm hTe)).trans (MH h₁ rfl)
 have keep:∀b o,b≠e->h₁.get? b=some o ->
   ((h₁.push { cls:=.type "traceback",dict:=none,data:=.fields ([head,.ref L,.none,rawInt L,.none]++(if pl.isEmpty then List.replicate 6 Value.none else pl)).toArray }).update e (Obj.mapFields (·.setIfInBounds 1 (Value.ref h₁.objs.size)))).get? b=some o:=λb o hbe hb=>by
  rw[NA _ _ (Ne.symm hbe)];exact MB _ hb
 refine h _ h₁.objs.size _ _ _ _ (λb o hb hbe e=>keep b o hbe ((hs₁.2.1 b hb).trans e)) (λb o hb e=>?_) (Q_ hs₁.1.symm) he₃ ⟨Obj.cls_mapFields _ _,oF _ _⟩ hd₃ (by simp[hsz]) hT₃ rfl ?_
 ·obtain⟨sl,hs⟩:=hs₁.2.2 b o e;exact⟨sl,keep b _ (λq=>hene (q ▸ hb)) hs⟩
 solve_by_elim
end
noncomputable abbrev XC:=Addr × Option Addr
def Nf (o:Obj)(C:XC):Prop:=o.cls=.ref C.1/\o.dict=C.2
structure Xo (L:Option Addr)(h0:Heap)(H:Hp)(h:Heap)(a:Addr)(C:XC):Prop where
 obj:∃oe vs,h.get? a=some oe/\Nf oe C/\oe.data=.fields vs/\(vs[1]?=some .none\/∃T oT ts,vs[1]?=some (.ref T)/\h0.get? T=none/\T≠a/\H T=none/\h.get? T=some oT/\oT.data=.fields ts/\(∃v,ts[3]?=some v))
 ge:h0.get? a=none
 fr:H a=none
def Xo.le {L:Option Addr}{h1 h0:Heap}{H:Hp}{h:Heap}{a:Addr}{C:XC}(f:Xo L h1 H h a C)(q:∀b o,h0.get? b=some o->∃o',h1.get? b=some o'):Xo L h0 H h a C:=by
 have no:∀b,h1.get? b=none->h0.get? b=none:=λb e=>by
  cases z:h0.get? b with
  | none=>rfl
  | some o=>obtain⟨o',z'⟩:=q b o z;simp_all
 obtain⟨⟨oe,vs,h1,h2,h3,h4⟩,h5,h6⟩:=f;refine⟨⟨oe,vs,h1,h2,h3,?_⟩,no _ h5,h6⟩;rcases h4 with h4|⟨T,oT,ts,a1,a2,a3⟩
 ·exact .inl h4
 ·exact .inr ⟨T,oT,ts,a1,no _ a2,a3⟩
def Xo.up {L L':Option Addr}{h0:Heap}{H:Hp}{h:Heap}{a:Addr}{C:XC}(f:Xo L h0 H h a C):Xo L' h0 H h a C:=⟨f.obj,f.ge,f.fr⟩
def VV (h:Heap)(a:Addr):Prop:=∃oe vs T,h.get? a=some oe/\oe.data=.fields vs/\vs[1]?=some (.ref T)
structure Yz (L:Option Addr)(fs:List Addr)(n:Heap)(P:Program)(w:World)(H:Hp)(a:Addr)(C:XC)(h h':Heap):Prop where
 un:∃ch,(∀c∈ch,n.get? c=none/\H c=none/\(∀o,h.get? c=some o->∃vs,o.data=.fields vs))/\Un fs ch H H h h'
 hok:YX P w H h'
 RQ:Xo L n H h' a C
 sz:h.objs.size<=h'.objs.size
def Un.twice {fs c1 c2:List Addr}{H:Hp}{h h1 h2:Heap}(a:Un fs c1 H H h h1)(b:Un fs c2 H H h1 h2):Un fs (c1++c2) H H h h2:=by
 have l:∀ {x},x ∉ c1++c2->x ∉ c1:=λq z=>q (N6 _ z);have r:∀ {x},x ∉ c1++c2->x ∉ c2:=λq z=>q (NF _ z);refine⟨λx o e n hx q=>b.keep x o (a.keep x o e n hx (l q)) n hx (r q),λx o e n hx q=>?_,λx o e n q=>n,λx o e q=>?_,λ_ _ q _=>q⟩
 ·obtain⟨sl,z⟩:=a.slot x o e n hx (l q);obtain⟨sl',z'⟩:=b.slot x _ z n hx (r q);exact⟨sl',z'⟩
 ·obtain⟨o',z⟩:=a.there x o e (l q);exact b.there x o' z (r q)
section
variable {P:Program}{w:World}{A:Around}{E:Value->Shared->Prop}{s:Shared}
def yx {base:Heap}{env:Env}{outer:List Env}{L a:Addr}{C:XC}{n:Heap}{H:Hp}{M:Model}{Q:Unit->Shared->Prop}
  (hfr:A.frames=some (env::outer)) (hl:s.heap.FunFrames base (env::outer)) (hf:env.frame=some L) (RT:∀b∈frs (env::outer),H b=none)
  (ok:YX P w H s.heap) (hns:n.objs.size<=s.heap.objs.size) (f:Xo (some L) n H s.heap a C)
  (h:∀h',Yz (some L) (frs (env::outer)) n P w H a C s.heap h'->VV h' a->Q () { s with heap:=h' }) :
  wpAny M A (noteFrame (.ref a) env) Q E s:=by
 have f0:=f;obtain⟨⟨oe,vs,he,hc,hd,h1⟩,hge,hH⟩:=f;unfold noteFrame;simp only[hf];have Uv:∀b o vs,s.heap.get? b=some o->o.data=.fields vs->b ∉ frs (env::outer):=λb o vs e d hm=>by obtain⟨_,o',ho,hnf⟩:=hl.mem hm;rw[e] at ho;simp_all
 have fin:∀(ch:List Addr) (h':Heap) (T:Addr) oe' vs' oT ts,(∀c∈ch,n.get? c=none/\H c=none/\(∀o,s.heap.get? c=some o->∃vs,o.data=.fields vs))->(∀b o,b ∉ frs (env::outer)->b ∉ ch->s.heap.get? b=some o->h'.get? b=some o)->(∀b o,b∈frs (env::outer)->s.heap.get? b=some o->∃sl,h'.get? b=some { o with slots:=sl }) ->
   (∀b o,s.heap.get? b=some o->b ∉ ch->∃o',h'.get? b=some o') ->
   s.heap.objs.size<=T->T≠a->h'.get? a=some oe'->(oe'.cls=oe.cls/\oe'.dict=oe.dict)->oe'.data=.fields vs'->vs'[1]?=some (.ref T)->h'.get? T=some oT->oT.data=.fields ts->ts[3]?=some (rawInt L)->Q () { s with heap:=h' }:=by
  intro ch h' T oe' vs' oT ts hch hk hsl hth hT hTa e1 e2 e3 e4 e5 e6 e7;have S6:H T=none:=ok.fresh hT;refine h h' ⟨⟨ch,hch,⟨λb o e _ hb hx=>hk b o hb hx e,λb o e _ hb hx=>hsl b o hb e,λb o e hn _=>hn,λb o e hx=>hth b o e hx,λb u e _=>e⟩⟩,λb o e=>?_,⟨⟨oe',vs',e1,⟨e2.1.trans hc.1,e2.2.trans hc.2⟩,e3,.inr ⟨T,oT,ts,e4,Heap.get?_none_of_le (MX hns hT),hTa,S6,e5,e6,_,e7⟩⟩,hge,hH⟩,?_⟩ ⟨oe',vs',T,e1,e3,e4⟩
  ·have nn:∀c,H c≠none->c ∉ frs (env::outer)/\c ∉ ch:=λc z=>⟨λq=>z (RT c q),λq=>z (hch c q).2.1⟩;have z:=nn b (by simp_all);exact(ok b o e).stay λu q=>hk b u z.1 z.2 q
  ·exact MX hT (OU (MQ e5))
 have Nh:n.get? a=none/\H a=none/\(∀o,s.heap.get? a=some o->∃vs,o.data=.fields vs):=⟨hge,hH,λo e=>by simp_all⟩;rcases h1 with h1|⟨T,oT,ts,h1,hnT,hTa,S6,hT,hdT,h3⟩
 ·refine MA (wpAny_field he hd h1 ?_);rw[MM (by decide)];refine uU hfr hl hf he hd (N8.mp h1).1 λh' T oe' vs' oT ts k1 k2 hT e1 e2 e3 e4 e5 e6 e7=>?_;refine fin [a] h' T oe' vs' oT ts (λc hc=>by cases MF.mp hc;exact Nh) (λb o hb hx e=>k1 b o hb (λq=>hx (by simp[q])) e) k2 (λb o e hx=>?_) hT (λq=>by rw[q] at hT;exact absurd (MQ he) (Q7.mpr hT)) e1 e2 e3 e4 e5 e6 e7;by_cases hb:b∈frs (env::outer)
  ·obtain⟨sl,z⟩:=k2 b o hb e;exact⟨_,z⟩
  ·exact⟨_,k1 b o hb (λq=>hx (by simp[q])) e⟩
 ·obtain⟨fv,h3⟩:=h3;cases hfv:(fv == rawInt L) with
  | false =>
   refine MA (wpAny_field he hd h1 ?_);rw[MK (show (Value.ref T != Value.none)=true from by simp)];refine MA (wpAny_field hT hdT h3 ?_);rw[MM (by simp[*])];refine MA (wpAny_setField hT hdT (N8.mp h3).1 ?_);have other:∀b,b≠T->(s.heap.update T (Obj.mapFields (·.setIfInBounds 3 Value.none))).get? b=s.heap.get? b:=λb hb=>NA _ _ (Ne.symm hb);have nT:∀b,b∈frs (env::outer)->b≠T:=λb hb q=>Uv T oT ts hT hdT (q ▸ hb);have hl':(s.heap.update T (Obj.mapFields (·.setIfInBounds 3 Value.none))).FunFrames base (env::outer):=hl.of_keeps λb o hb hnf=>⟨o,(other b λq=>by simp_all).trans hb,rfl⟩;refine uU (s:={ s with heap:=s.heap.update T (Obj.mapFields (·.setIfInBounds 3 Value.none)) }) hfr hl' hf ((other a (Ne.symm hTa)).trans he) hd (N8.mp h1).1 λh' T' oe' vs' oT' ts' k1 k2 hT' e1 e2 e3 e4 e5 e6 e7=>?_;have Qt:(s.heap.update T (Obj.mapFields (·.setIfInBounds 3 Value.none))).objs.size=s.heap.objs.size:=Heap.size_after_update ..;have hT2:s.heap.objs.size<=T':=by rw[<-Qt];exact hT'
   have kk:∀b o,b ∉ frs (env::outer)->b ∉ [a,T]->s.heap.get? b=some o->h'.get? b=some o:=λb o hb hx e=>k1 b o hb (λq=>hx (by simp[q])) ((other b λq=>hx (by simp[q])).trans e);have ks:∀b o,b∈frs (env::outer)->s.heap.get? b=some o->∃sl,h'.get? b=some { o with slots:=sl }:=λb o hb e=>k2 b o hb ((other b (nT b hb)).trans e);refine fin [a,T] h' T' oe' vs' oT' ts' (λc hc=>?_) kk ks (λb o e hx=>?_) hT2 (λq=>by rw[q] at hT2;exact absurd (MQ he) (Q7.mpr hT2)) e1 e2 e3 e4 e5 e6 e7
   ·rcases MU.mp hc with rfl|hc
    ·exact Nh
    ·cases MF.mp hc;exact⟨hnT,S6,λo e=>by rw[hT] at e;cases e;exact⟨ts,hdT⟩⟩
   ·by_cases hb:b∈frs (env::outer)
    ·obtain⟨sl,z⟩:=ks b o hb e;exact⟨_,z⟩
    ·exact⟨_,kk b o hb hx e⟩
  | true =>refine MA (wpAny_field he hd h1 ?_);rw[MK (show (Value.ref T != Value.none)=true from by simp)];refine MA (wpAny_field hT hdT h3 ?_);rw[MK hfv];exact MC (h s.heap ⟨⟨[],λc z=>(by cases z),Un.refl⟩,ok,f0,MJ _⟩ ⟨oe,vs,T,he,hd,h1⟩)
def kQ {fs:List Addr}{a:Addr}{C:XC}{n:Heap}{H:Hp}{M:Model}{Q:Unit->Shared->Prop}{L fv:Option Addr}
  (hfs:∀b∈fs,∃o,s.heap.get? b=some o/\∀vs,o.data≠.fields vs) (ok:YX P w H s.heap) (f:Xo L n H s.heap a C)
  (h:∀h',Yz fv fs n P w H a C s.heap h'->Q () { s with heap:=h' }):wpAny M A (setFlight (.ref a) fv) Q E s:=by
 obtain⟨⟨oe,vs,he,hc,hd,h1⟩,hge,hH⟩:=f;unfold setFlight;rcases h1 with h1|⟨T,oT,ts,h1,hnT,hTa,S6,hT,hdT,h3⟩
 ·refine MA (wpAny_field he hd h1 ?_);rw[MM (by decide)];exact MC (h s.heap ⟨⟨[],λc z=>(by cases z),Un.refl⟩,ok,⟨⟨oe,vs,he,hc,hd,.inl h1⟩,hge,hH⟩,MJ _⟩)
 ·refine MA (wpAny_field he hd h1 ?_);rw[MK (show (Value.ref T != Value.none)=true from by simp)];have hsz:3<ts.size:=by obtain⟨_,h3⟩:=h3;exact(N8.mp h3).1
  refine wpAny_setField hT hdT hsz ?_;have other:∀b,b≠T->(s.heap.update T (Obj.mapFields (·.setIfInBounds 3 (fv.elim Value.none λf=>rawInt f)))).get? b=s.heap.get? b:=λb hb=>NA _ _ (Ne.symm hb);have nT:∀b∈fs,b≠T:=λb hb q=>by
   obtain⟨o,e,z⟩:=hfs b hb
   simp_all
  refine h _ ⟨⟨[T],λc z=>(by simp_all),⟨λb o e _ _ hx=>(other b λq=>hx (by simp[q])).trans e,λb o e _ hb _=>⟨o.slots,(other b (nT b hb)).trans e⟩,λb o e hn _=>hn,λb o e hx=>⟨o,(other b λq=>hx (by simp[q])).trans e⟩,λb u e _=>e⟩⟩,λb o e=>?_,⟨⟨oe,vs,(other a (Ne.symm hTa)).trans he,hc,hd,.inr ⟨T,_,_,h1,hnT,hTa,S6,M7 _ hT (Obj.isFreed_of_fields (Obj.data_mapFields hdT _)),Obj.data_mapFields hdT _,?_⟩⟩,hge,hH⟩,Q_ (Heap.size_after_update ..).symm⟩
  ·refine(ok b o e).stay λu q=>(other b ?_).trans q
   lia
  simp[*]
def Dy {fs:List Addr}{a:Addr}{C:XC}{n:Heap}{H:Hp}{M:Model}{Q:Value->Shared->Prop}{L:Option Addr}{cenv:Env}{what:String}
  (hfs:∀b∈fs,∃o,s.heap.get? b=some o/\∀vs,o.data≠.fields vs) (ok:YX P w H s.heap) (f:Xo L n H s.heap a C) (bn:VV s.heap a)
  (h:∀h',Yz cenv.frame fs n P w H a C s.heap h'->E (.ref a) { s with heap:=h' }):wpAny M A (PySem.passOn what (.ref a) cenv:Sem Value) Q E s:=by
 obtain⟨oe,vs,T,b1,b2,b3⟩:=bn;unfold PySem.passOn;refine MA (wpAny_field b1 b2 b3 ?_);rw[MM (show ¬((Value.ref T == Value.none)=true) from ME)];exact MA (kQ hfs ok f λh2 nt=>wpAny_throw (h h2 nt))
theorem Yz.twice {L L':Option Addr}{fs:List Addr}{n:Heap}{H:Hp}{a:Addr}{C:XC}{h h1 h2:Heap}(x:Yz L fs n P w H a C h h1)(y:Yz L' fs n P w H a C h1 h2):Yz L' fs n P w H a C h h2:=by
 obtain⟨c1,k1,u1⟩:=x.un;obtain⟨c2,k2,u2⟩:=y.un;refine⟨⟨c1++c2,λc hc=>?_,Un.twice u1 u2⟩,y.hok,y.RQ,MX x.sz y.sz⟩;rcases MN.mp hc with hc|hc
 ·exact k1 c hc
 ·obtain⟨p1,p2,p3⟩:=k2 c hc;refine⟨p1,p2,λo e=>?_⟩;by_cases hc1:c∈c1
  ·exact(k1 c hc1).2.2 o e
  ·obtain⟨sl,z⟩:=u1.any e p2 hc1;obtain⟨vs,hv⟩:=p3 _ z;exact⟨vs,hv⟩
def vB {base:Heap}{env:Env}{outer:List Env}{L a:Addr}{C:XC}{n:Heap}{H:Hp}{M:Model}{Q:Unit->Shared->Prop}{fv:Option Addr}
  (hfr:A.frames=some (env::outer)) (hl:s.heap.FunFrames base (env::outer)) (hf:env.frame=some L) (RT:∀b∈frs (env::outer),H b=none)
  (ok:YX P w H s.heap) (hns:n.objs.size<=s.heap.objs.size) (f:Xo (some L) n H s.heap a C)
  (h:∀h',Yz fv (frs (env::outer)) n P w H a C s.heap h'->Q () { s with heap:=h' }) :
  wpAny M A (noteFrame (.ref a) env) (λ_ s'=>wpAny M A (setFlight (.ref a) fv) Q E s') E s:=by
 refine yx hfr hl hf RT ok hns f λh1 nt _=>?_;refine kQ (fs:=frs (env::outer)) (λb hb=>?_) nt.hok nt.RQ λh2 RZ=>h h2 (nt.twice RZ);obtain⟨_,o,ho,hnf⟩:=hl.mem hb;obtain⟨ch,hch,un⟩:=nt.un;have hbc:b ∉ ch:=λz=>by obtain⟨vs,hv⟩:=(hch b z).2.2 o ho;exact hnf vs hv
 obtain⟨sl,z⟩:=un.any ho (RT b hb) hbc;exact⟨_,z,λvs q=>hnf vs q⟩
end
def Un.noted {fs fs' ch:List Addr}{H0 H1:Hp}{h0 h1 h2:Heap}(a:Un fs [] H0 H1 h0 h1)(b:Un fs' ch H1 H1 h1 h2)(hfs:∀x o,h0.get? x=some o->x∈fs'->x∈fs)(hsf:∀x∈fs,x∈fs')(hch:∀c∈ch,h0.get? c=none):Un fs [] H0 H1 h0 h2:=by
 have nc:∀x o,h0.get? x=some o->x ∉ ch:=λx o e z=>by simp_all
 have nx:∀x:Addr,x ∉ ([]:List Addr):=λx z=>by cases z
 refine⟨λx o e n hx _=>?_,λx o e n hx _=>?_,λx o e n _=>a.free x o e n (nx x),λx o e _=>?_,a.Wa⟩
 ·exact b.keep x o (a.keep x o e n hx (nx x)) (a.free x o e n (nx x)) (λz=>hx (hfs x o e z)) (nc x o e)
 ·obtain⟨sl,z⟩:=a.slot x o e n hx (nx x);obtain⟨sl',z'⟩:=b.slot x _ z (a.free x o e n (nx x)) (hsf x hx) (nc x o e);exact⟨sl',z'⟩
 ·obtain⟨o',z⟩:=a.there x o e (nx x);exact b.there x o' z (nc x o e)
noncomputable def WQ (P:Program)(w:World):V0:=λouter H s E e s'=>∃a C H',e=.ref a/\s'.os=s.os/\AllBare s'.gens/\s.heap.objs.size<=s'.heap.objs.size/\Un (frs outer) [] H H' s.heap s'.heap/\YX P w H' s'.heap/\Xo none s.heap H' s'.heap a C/\E (.ref C.1) C.2 H'
def xp (X:Cx)(Wx:XC->Hp->Prop)(e:Value)(s':Shared):Prop:=∃a C pins O H',e=.ref a/\L2.Inv X pins O H' s'/\Xo (some X.env.locals) X.s₀.heap H' s'.heap a C/\Wx C H'
def Bi {P:Program}{w:World}{K:W.Frag}{mg:Str->Option Value}{base:Heap}{N:List Str}{qual:Str}{scope:Scope}{f:Addr}{cd:Value}{A:Around}{outer:List Env}{s:Shared}{H:Hp}{E:XK}{e:Value}{s':Shared}
  (h:xp (oH (WQ P w) P w K mg base N qual scope f cd A outer s H E) (λC H'=>E (.ref C.1) C.2 H') e s'):(oH (WQ P w) P w K mg base N qual scope f cd A outer s H E).xe e s':=by
 obtain⟨a,C,pins,O,H',rfl,I,fl,q⟩:=h;show wpAny _ _ (leaving _ _) _ _ _;unfold leaving;have I':=I;refine MA (vB (P:=P) (w:=w) (n:=s.heap) (base:=base) (I.ok.frames) I.stack rfl I.YG I.hok I.sz fl λh' nt=>?_);obtain⟨⟨ch,hch,un⟩,hok,fl',sz⟩:=nt;refine⟨a,C,H',rfl,I.os,I.bare,MX I.sz sz,?_,hok,fl',q⟩;have bs:Un (frs outer) [] H H' s.heap s'.heap:=I.base;refine Un.noted bs un (λx o e hx=>?_) (λx hx=>MD _ hx) λc hc=>(hch c hc).1;rcases MU.mp hx with rfl|hx
 ·exact absurd (MQ e) (Q7.mpr I.ok.above)
 ·exact hx
def yw {P:Program}{w:World}{X:Cx}{Wx:XC->Hp->Prop}{pins:List (Addr × Obj)}{O:L2.St}{H:Hp}{s:Shared}{e:Value}{s':Shared}(hP:X.prog=P)(hw:X.w=w)(hex:X.ex=[])(I:L2.Inv X pins O H s)(h:WQ P w X.stack H s (λv dx H'=>∃C,v=.ref C/\Wx (C,dx) H') e s'):xp X Wx e s':=by subst hP hw;obtain⟨a,C,H',rfl,os,bare,sz,un,hok,fl,C',hC,q⟩:=h;cases hC;exact⟨a,C,pins,O,H',rfl,I.call' os un hok bare (λb z=>by cases z),(fl.le λb o e=>I.base.there b o e (by simp_all)).up,q⟩
theorem Inv.noted {X:Cx}{pins:List (Addr × Obj)}{O:L2.St}{H:Hp}{s:Shared}{L:Option Addr}{a:Addr}{C:XC}{h':Heap}(I:L2.Inv X pins O H s)(hpn:X.pn=[])(hex:X.ex=[])(hst:X.stack=X.env::X.outer)(hfr:X.env.frame=some X.env.locals)(nt:Yz L (frs X.stack) X.s₀.heap X.prog X.w H a C s.heap h'):L2.Inv X [] O H { s with heap:=h' }:=by
 obtain⟨ch,hch,un⟩:=nt.un;have bs:Un X.fs X.ex X.H₀ H X.s₀.heap h':=by
  have b0:=I.base;rw[hex] at b0 |-
  refine Un.noted b0 un (λx o e hx=>?_) (λx hx=>by rw[hst];exact OM.mpr (by obtain⟨v,z1,z2⟩:=OM.mp hx;exact⟨v,MD _ z1,z2⟩)) λc hc=>(hch c hc).1;rw[hst] at hx;unfold frs at hx;rw[OZ,hfr] at hx;rcases MU.mp hx with rfl|hx
  ·exact absurd (MQ e) (Q7.mpr I.ok.above)
  ·exact hx
 have cl:∀ {c:Addr}{v:Option Value},H c=none->s.heap.IsCell c v->h'.IsCell c v:=λ{c v} hc z=>by
  obtain⟨o,e,d⟩:=z;have hcc:c ∉ ch:=λq=>by
   obtain⟨vs,hv⟩:=(hch c q).2.2 o e
   simp_all
  obtain⟨sl,e2⟩:=un.any e hc hcc;exact⟨_,e2,d⟩
 obtain⟨m,⟨o,es,ep,ho,hd,r⟩,lk⟩:=id I.loc;have hlc:X.env.locals ∉ ch:=λq=>by
  obtain⟨vs,hv⟩:=(hch _ q).2.2 o ho
  simp_all
 obtain⟨sl,hL⟩:=un.any ho I.free hlc;refine⟨I.ok,I.os,I.bare,bs,⟨m,⟨_,es,ep,hL,hd,r⟩,λi x v e1 e2 e3=>?_⟩,λx c e=>?_,I.free,I.ZF,(λp hp=>by simp_all),nt.hok,I.len⟩
 ·obtain⟨u,r1,q⟩:=lk i x v e1 e2 e3;refine⟨u,r1,?_⟩;rcases q with q|⟨k,c,e,z⟩
  ·exact .inl q
  ·exact .inr ⟨k,c,e,cl (I.ZF x c e) z⟩
 ·obtain⟨v,z⟩:=I.cell x c e;exact⟨v,cl (I.ZF x c e) z⟩
noncomputable abbrev iA:List Value:=[.type "ValueError",.type "Exception",.type "BaseException",.type "object"]
def r9 {K:W.Frag}{h:Heap}{C:Addr}{bmB:List Value}{newId:String}{x:Str}{mg:Str->Option Value}(X:K.In h)(m:mg x=some (.ref C))(q:W.excIn K C bmB newId=true):OwnCls x C bmB newId mg h:=by
 refine⟨m,?_⟩;unfold W.excIn at q;split at q
 ·rename_i dd cd sl ho;split at q
  ·rename_i C' bm k0 k1 k2 k3 n k5 hm hs;simp only[bi,beq_iff_eq,Bool.not_eq_true'] at q;obtain⟨⟨⟨⟨⟨rfl,rfl⟩,hdel⟩,ht⟩,hok⟩,hni⟩:=q;obtain⟨nm,bs,mro,ns,qn,hd,sn,sub,ab,col,del⟩:=cd;dsimp only at hm hdel hok hni;subst hm hdel;have hsl:sl=#[k0,k1,k2,k3,some (.builtin n),k5]:=by obtain⟨l⟩:=sl;simp only at hs;rw[hs]
   subst hsl;exact⟨bm,ns,nm,qn,bs,hd,sn,sub,ab,col,dd,k0,k1,k2,k3,k5,_,X _ _ ho,.of_isNs (W.isNs_of_in X hok),W.nsMap_none_of_in X hok hni,W.tail_of_in X ht⟩
  ·cases q
 ·cases q
def ZL.obj {P:Program}{w:World}{H:Hp}{h:Heap}{a:Addr}{o:HO}(x:ZL P w H h a o):∃u,h.get? a=some u:=by
 cases o with
 | lst xs=>obtain⟨_,_,_,_,e⟩:=x;exact⟨_,e⟩
 | tup xs=>obtain⟨_,_,_,o,e,_⟩:=x;exact⟨_,e⟩
 | dK kvs=>obtain⟨_,_,_,_,o,_,_,e,_⟩:=x;exact⟨_,e⟩
 | VF ob u=>obtain⟨e,_⟩:=x;exact⟨_,e⟩
 | ext φ=>obtain⟨_,⟨_,e⟩,_⟩:=x;exact⟨_,e⟩
section
variable {X:Cx}{pins:List (Addr × Obj)}{O:L2.St}{H:Hp}{s:Shared}
def Ig {Wx:XC->Hp->Prop}{C e:Addr}{h':Heap}{vs:List Value}(I:L2.Inv X pins O H s)(hex:X.ex=[])(m:Heap.MadeExcOf s.heap h' e (.ref C) vs)(w:Wx (C,none) H):xp X Wx (.ref e) { s with heap:=h' }:=by
 refine⟨e,(C,none),pins,O,H,rfl,I.call' (ch:=[]) rfl (Un.kept m.keeps) (I.hok.kept m.keeps) I.bare (λb z=>by cases z),⟨?_,?_,?_⟩,w⟩
 ·obtain⟨t,e1,_⟩:=m.there;exact⟨_,_,e1,⟨rfl,rfl⟩,rfl,.inl rfl⟩
 ·cases z:X.s₀.heap.get? e with
  | none=>rfl
  | some o =>obtain⟨o',z'⟩:=I.base.there e o z (by simp_all);rw[m.new] at z';cases z'
 ·cases z:H e with
  | none=>rfl
  | some o =>obtain⟨u,z'⟩:=ZL.obj (I.hok e o z);rw[m.new] at z';cases z'
def Cp {Wx:XC->Hp->Prop}{D:L2.Ends}{x:Str}{C:Addr}{t:Str}{j:Nat}{np cp ap pos:Pos}(I:L2.Inv X pins O H s)(hc:X.calm=true)(hex:X.ex=[])(hg:Gl X x)(hdb:(x == ("__debug__":Str))=false)(hm:X.mg x=some (.ref C))(q:W.excIn X.K C iA "ValueError.__new__"=true)(w:Wx (C,none) H) :
  wpAny (model X.prog X.w) X.A (exec (.Raise (some (.Call (.Name x np) [.Constant (.str t) j ap] [] cp)) none pos) X.env) (SP X pins D) (xp X Wx) s:=by
 have FB:=PySem.F.excBase_ValueError;obtain⟨tl,N,nm,qn,bs,hdct,sn,sub,ab,col,dd,k0,k1,k2,k3,k5,mN,hC,hN,hni,T⟩:=(r9 (x:=x) (mg:=X.mg) I.ok.mod.Wd hm q).obj;have hplain:(backTo cp (starEach [.Constant (.str t) j ap] X.env)).any (·.1)=false:=fD (pos:=cp) (es:=[.Constant (.str t) j ap]) rfl;refine wpAny_Raise_call_subU (C:=C) (nm:=nm) (q:=qn) (N:=N) (bs:=bs) (bm:=tl) (hdct:=hdct) (sn:=sn) (sub:=sub) (ab:=ab) (col:=col) (dd:=dd) (k0:=k0) (k1:=k1) (k2:=k2) (k3:=k3) (k5:=k5) (mN:=mN)
  FB (by decide) FB (T.hasType FB.hasBase) (I.ok.hd hc) hplain hni (iP I hg hm ⟨rfl,?_⟩ hdb)
 have hA:PA X.Zi [.Constant (.str t) j ap] (eQ (tC (.str t)) kH):=Yy rO bD rfl;have st1:starEach [.Constant (.str t) j ap] X.env=(false,eval (.Constant (.str t) j ap) X.env)::starEach [] X.env:=ay rfl;have h0:wpAny (model X.prog X.w) X.A (spliced (backTo cp (starEach [.Constant (.str t) j ap] X.env))) (AP X.Zi pins O (λvs H1=>vs=[.str t]/\H1=H)) (λ_ _=>False) s:=hA cp pins s O H _ (I.wish _) ⟨rfl,rfl⟩;rw[st1] at h0 |-
 refine Calls.evalArgs_plain (wpAny_mono h0 (λus s2 ⟨vs,H1,I2,r,hv,hH⟩=>?_) λ_ _ z=>ac z);subst hv hH;have I3:=I2.ZZ;refine⟨rfl,by rw[<-r.length];show 1<=sizeLine;decide,?_⟩;exact⟨I3.bk _ _ hC,hN.keeps I3.bk,T.keeps I3.bk,λh' e m=>Ig I3 hex m w⟩
end
noncomputable abbrev XW:=Nat->PV->AH->Prop
noncomputable abbrev okR (v:PV):PV:=.tup [.bl true,v]
noncomputable abbrev RP (k:Nat)(v:PV):PV:=.tup [.bl false,.int k,v]
noncomputable abbrev RN (k:Nat):PV:=RP k .non
noncomputable def il (Q:EK)(Wx:XW):EK:=λr st=>match r with
 | .tup [.bl true,v]=>Q v st
 | .tup [.bl false,.int k,v]=>Wx k.toNat v st
 | _=>False
def mY {Q:EK}{Wx:XW}{v:PV}{st:AH}:il Q Wx (okR v) st=Q v st:=rfl
def bU {Q Q':EK}{Wx W':XW}(hq:∀v st,Q v st->Q' v st)(hw:∀k v st,Wx k v st->W' k v st):∀r st,il Q Wx r st->il Q' W' r st:=by
 intro r st h;unfold il at h |-
 grind
def o3 (sp:ZX)(ZR:AH->Prop)(xs acc:List PV)(st:AH)(Q:LK)(W:XW):Prop:=gY ZR (λx st k=>sp [x] st (il (λv st'=>k (some v) st') W)) xs acc st Q
theorem gy {sp:ZX}{ZR:AH->Prop}(ms:∀as st Q Q',(∀v st,Q v st->Q' v st)->sp as st Q->sp as st Q'){Q Q':LK}{W W':XW}(hq:∀v st,Q v st->Q' v st)(hw:∀k v st,W k v st->W' k v st):∀ {xs acc:List PV}{st:AH},o3 sp ZR xs acc st Q W->o3 sp ZR xs acc st Q' W'
 | [],acc,st,h=>⟨h.1,hq _ _ h.2⟩
 | x::xs,acc,st,h=>⟨h.1,ms _ _ _ _ (bU (λv st' z=>gy ms hq hw z) hw) h.2⟩
mutual
inductive XS where
 | st (s:S)|Wn (t:T) (a b:Xp)|raise (k:Nat)|Xz (i f:Nat) (es:Es)
 | Yx (i f:Nat) (it:It) (y:Str)|Xy (i:Nat) (a:E) (f:Nat) (es:Es)
inductive Xp where
 | nil|cons (s:XS) (ss:Xp)
end
mutual
noncomputable def Yt (U UR:Nat->ZX):XS->Fr->AH->aQ->XW->Prop
 | .st s,Z,st,D,_=>wpS U s Z st D
 | .Wn t a b,Z,st,D,Wx=>YW U t Z st λk st1=>if k=true then dy U UR a Z st1 D Wx else dy U UR b Z st1 D Wx
 | .raise k,_,st,_,Wx=>Wx k .non st
 | .Yx i f it _,Z,st,D,Wx=>gP U it Z st λxs ZR st1=>xs.length<100000/\o3 (UR f) ZR xs [] st1 (λvs st2=>D.nx (Z.set i (some (.ref st2.length))) (st2++[.lst vs])) Wx
 | .Xy i a f es,Z,st,D,Wx=>Z_ U a Z st λx st1=>bT U es Z st1 λvs st2=>UR f vs st2 (il (λv st3=>∃xs,x=.tup xs/\xs.length<100000/\D.nx (Z.set i (some (.tup (xs++[v])))) st3) Wx)
 | .Xz i f es,Z,st,D,Wx=>bT U es Z st λvs st1=>UR f vs st1 (il (λv st2=>D.nx (Z.set i (some v)) st2) Wx)
noncomputable def dy (U UR:Nat->ZX):Xp->Fr->AH->aQ->XW->Prop
 | .nil,Z,st,D,_=>D.nx Z st
 | .cons s ss,Z,st,D,Wx=>Yt U UR s Z st { D with nx:=λZ1 st1=>dy U UR ss Z1 st1 D Wx } Wx
end
section
variable {U UR:Nat->ZX}
mutual
theorem uq (G:bj U)(G':bj UR):∀(s:XS) {Z:Fr}{st:AH}{D D':aQ}{Wx W':XW},gS D D'->(∀k v st,Wx k v st->W' k v st)->Yt U UR s Z st D Wx->Yt U UR s Z st D' W'
 | .st s,Z,st,D,D',Wx,W',hD,hW,h=>by
  rw[Yt] at h |-
  exact wpS_mono G s hD h
 | .Wn t a b,Z,st,D,D',Wx,W',hD,hW,h=>by
  rw[Yt] at h |-
  refine bJ G t (λk st1 z=>?_) h;cases k with
  | true=>rw[MK rfl] at z |-;exact dZ G G' a hD hW z
  | false=>rw[MM ME] at z |-;exact dZ G G' b hD hW z
 | .raise k,Z,st,D,D',Wx,W',hD,hW,h=>by
  solve_by_elim
 | .Yx i f it y,Z,st,D,D',Wx,W',hD,hW,h=>by
  rw[Yt] at h |-
  exact dm G it (λxs ZR st1 z=>⟨z.1,gy (λas st Q Q'=>G' f as st Q Q') (λvs st2 q=>hD.nx _ _ q) hW z.2⟩) h
 | .Xy i a f es,Z,st,D,D',Wx,W',hD,hW,h=>by
  rw[Yt] at h |-
  exact ae G a (λx st1 z=>aD G es (λvs st2 z=>G' _ _ _ _ _ (bU (λv st3 ⟨xs,e,l,z⟩=>⟨xs,e,l,hD.nx _ _ z⟩) hW) z) z) h
 | .Xz i f es,Z,st,D,D',Wx,W',hD,hW,h=>by
  rw[Yt] at h |-
  exact aD G es (λvs st1 z=>G' _ _ _ _ _ (bU (λv st2 z=>hD.nx _ _ z) hW) z) h
theorem dZ (G:bj U)(G':bj UR):∀(s:Xp) {Z:Fr}{st:AH}{D D':aQ}{Wx W':XW},gS D D'->(∀k v st,Wx k v st->W' k v st)->dy U UR s Z st D Wx->dy U UR s Z st D' W'
 | .nil,Z,st,D,D',Wx,W',hD,hW,h=>by
  rw[dy] at h |-
  exact hD.nx _ _ h
 | .cons s ss,Z,st,D,D',Wx,W',hD,hW,h=>by
  rw[dy] at h |-
  exact uq G G' s (D:={ D with nx:=λZ1 st1=>dy U UR ss Z1 st1 D Wx }) (D':={ D' with nx:=λZ1 st1=>dy U UR ss Z1 st1 D' W' }) ⟨λ_ _ z=>dZ G G' ss hD hW z,hD.rt⟩ hW h
end
end
structure Xf where
 xs:List Str
 rz:List Nat
noncomputable def Jp (x:Stmt)(f:Expr->Bool):Bool:=match x with | .Raise (some e) none _=>f e|_=>false
def Da {x:Stmt}{f:Expr->Bool}(h:Jp x f=true):∃e p,x=.Raise (some e) none p/\f e=true:=by unfold Jp at h;grind
noncomputable def gB (x:Expr)(f:Str->List Expr->Bool):Bool:=b7 x λg as _=>aK g λy _=>f y as
def du {x:Expr}{f:Str->List Expr->Bool}(h:gB x f=true):∃g gp as p,x=.Call (.Name g gp) as [] p/\f g as=true:=by replace h:=aH h;obtain⟨g,as,p,rfl,h⟩:=h;replace h:=ak h;obtain⟨y,q,rfl,h⟩:=h;exact⟨_,_,_,_,rfl,h⟩
noncomputable def xN (x:Stmt)(f:Str->Bool):Bool:=Jp x λe=>gB e λy as=>X_ as λa=>iB a λ_=>f y
def tN {x:Stmt}{f:Str->Bool}(h:xN x f=true):∃y np t j ap cp pos,x=.Raise (some (.Call (.Name y np) [.Constant (.str t) j ap] [] cp)) none pos/\f y=true:=by replace h:=Da h;obtain⟨e,p,rfl,h⟩:=h;replace h:=du h;obtain⟨g,gp,as,cp,rfl,h⟩:=h;replace h:=br h;obtain⟨a,rfl,h⟩:=h;replace h:=dk h;obtain⟨j,k,q,rfl,h⟩:=h;exact⟨_,_,_,_,_,_,_,rfl,h⟩
noncomputable def Cs (x:Stmt)(f:Str->Str->Expr->List Expr->Bool):Bool:=nW x λt v=>aK t λy _=>gB v λg as=>c_ as λa r=>f y g a r
def wx {x:Stmt}{f:Str->Str->Expr->List Expr->Bool}(h:Cs x f=true):∃y p g gp a as cp pos,x=.Assign [.Name y p] (.Call (.Name g gp) (a::as) [] cp) pos/\f y g a as=true:=by replace h:=fg h;obtain⟨t,v,p,rfl,h⟩:=h;replace h:=ak h;obtain⟨y,q,rfl,h⟩:=h;replace h:=du h;obtain⟨g,gp,as,cp,rfl,h⟩:=h;replace h:=aG h;obtain⟨a,r,rfl,h⟩:=h;exact⟨_,_,_,_,_,_,_,_,rfl,h⟩
noncomputable def xR (x:Expr)(f:Str->Expr->Bool):Bool:=gB x λg as=>X_ as λa=>f g a
def tP {x:Expr}{f:Str->Expr->Bool}(h:xR x f=true):∃g gp a p,x=.Call (.Name g gp) [a] [] p/\f g a=true:=by replace h:=du h;obtain⟨g,gp,as,cp,rfl,h⟩:=h;replace h:=br h;obtain⟨a,rfl,h⟩:=h;exact⟨_,_,_,_,rfl,h⟩
noncomputable def B0 (c:Cfg)(F:Xf)(f:Nat)(it:It)(y:Str)(x:Expr):Bool:=BN x λex gs sc _=>X_ gs λg=>g.is_async == 0 && xg it g.target && iu g.iter && c.block [y] [] sc && yt c it g.iter && ot (c.inner [y] [] sc) (.name 0) g.target && g.ifs.isEmpty && xR ex λh a=>(c.inner [y] [] sc).fn f h && F.rz.contains f && ao a && aK a λz _=>(c.inner [y] [] sc).N[0]? == some z && (c.inner [y] [] sc).XH z
mutual
noncomputable def vn (c:Cfg)(F:Xf):XS->Stmt->Bool
 | .st s,x=>Ec c s x
 | .Wn t a b,x=>IP x λy ys zs=>wH c t y && gX c F a ys && gX c F b zs
 | .raise k,x=>xN x λy=>F.xs[k]? == some y && c.X7 y
 | .Yx i f it y,x=>nW x λt v=>aK t λz zp=>BN v λ_ _ sc cp=>c.N[i]? == some z && c.loc z && c.names.lookup z == some .local && zp.line == cp.line && !nZ z sc && B0 c F f it y v
 | .Xy i a f es,x=>nW x λt v=>aK t λz _=>uD v λl o r=>iN r λws=>X_ ws λu=>gB u λg as=>c_ as λb bs=>c.N[i]? == some z && c.loc z && o == .Add && aV c a l && ao u && c.fn f g && F.rz.contains f && ao b && bs.all ao && dO c es (b::bs)
 | .Xz i f es,x=>Cs x λy g a as=>c.N[i]? == some y && c.loc y && c.fn f g && F.rz.contains f && ao a && as.all ao && dO c es (a::as)
noncomputable def gX (c:Cfg)(F:Xf):Xp->List Stmt->Bool
 | .nil,x=>x.isEmpty
 | .cons s ss,x=>c_ x λy ys=>vn c F s y && gX c F ss ys
end
noncomputable abbrev CA:=Nat->Addr
noncomputable def Gc (K:W.Frag)(m:List Addr)(H:Hp)(ca:CA)(E:XK):XW:=λk v st'=>∀m' H',Ext K m H m' H'->RH K m' H' st'->E (.ref (ca k)) none H'
noncomputable def gC (K:W.Frag)(ca:CA)(sp:ZX):Sp:=λvs H Q E=>∃m st as,Rs K m H as vs/\RH K m H st/\sp as st (il (post K m H Q) (Gc K m H ca E))
structure V2 (P:Program)(w:World)(K:W.Frag)(mg:Str->Option Value)(base:Heap)(k:Nat)(x:Str)(ps:List Str)(sp:Sp):Prop where
 ex:∃(f:Addr) (fd:FuncData),mE P w K mg base (WQ P w) k f fd ps sp/\mg x=some (.ref f)/\W.keepIn K (.ref f)=true/\Binds K fd ps []
structure XG (P:Program)(w:World)(K:W.Frag)(mg:Str->Option Value)(base:Heap)(c:Cfg)(F:Xf)(UR:Nat->ZX)(ca:CA):Prop where
 fn:∀f x,f<c.lim->c.fns[f]?=some x->F.rz.contains f=true->∃ps,V2 P w K mg base (f+1) x ps (gC K ca (UR f))
 cls:∀k x,F.xs[k]?=some x->mg x=some (.ref (ca k))/\W.excIn K (ca k) iA "ValueError.__new__"=true
 mono:bj UR
noncomputable def Yu (K:W.Frag)(m:List Addr)(H:Hp)(ca:CA)(Wx:XC->Hp->Prop):XW:=λk v st'=>∀m' H',Ext K m H m' H'->RH K m' H' st'->Wx (ca k,none) H'
def Yu.ext {K:W.Frag}{m m1:List Addr}{H H1:Hp}{ca:CA}{Wx:XC->Hp->Prop}(x:Ext K m H m1 H1){k:Nat}{v:PV}{st:AH}(q:Yu K m H ca Wx k v st):Yu K m1 H1 ca Wx k v st:=λm' H' e r=>q m' H' (x.trans e) r
noncomputable abbrev TX:=L2.Ends->(XC->Hp->Prop)->L2.St->Hp->Prop
noncomputable def VB (K:W.Frag)(ca:CA)(w:Fr->AH->aQ->XW->Prop):TX:=λD Wx O H=>∃m Z st,RF K m H Z O/\RH K m H st/\w Z st (AE K m H D) (Yu K m H ca Wx)
def PX (X:Cx)(st:Stmt)(t:TX):Prop :=
 ∀(pins:List (Addr × Obj)) (s:Shared) (O:L2.St) (H:Hp) (D:L2.Ends) (Wx:XC->Hp->Prop),L2.Inv X pins O H s->t D Wx O H->wpAny (model X.prog X.w) X.A (exec st X.env) (SP X pins D) (xp X Wx) s
def PXs (X:Cx)(st:List Stmt)(t:TX):Prop :=
 ∀(pins:List (Addr × Obj)) (s:Shared) (O:L2.St) (H:Hp) (D:L2.Ends) (Wx:XC->Hp->Prop),L2.Inv X pins O H s->t D Wx O H->wpAny (model X.prog X.w) X.A (execs st X.env) (SP X pins D) (xp X Wx) s
section
variable {X:Cx}{c:Cfg}{F:Xf}{U UR:Nat->ZX}{ca:CA}
def PA.to {es:List Expr}{t:TA}{E:Value->Shared->Prop}(h:PA X.Zi es t):PA (X.wish E) es t:=λpos pins s O H Q I w =>
 wpAny_mono (h pos pins s O H Q (I.ZZ.wish _) w) (λ_ _ ⟨v,H',I',r,q⟩=>⟨v,H',I'.ZZ.wish _,r,q⟩) λ_ _ z=>ac z
def E4 (C:ZD X.Zi c U)(G:XG X.prog X.w X.K X.mg X.base c F UR ca)(hex:X.ex=[]){i f:Nat}{es:Es}{y g:Str}{a:Expr}{as:List Expr}{p gp cp pos:Pos}
  (h:(c.N[i]? == some y && c.loc y && c.fn f g && F.rz.contains f && ao a && as.all ao && dO c es (a::as))=true):PX X (.Assign [.Name y p] (.Call (.Name g gp) (a::as) [] cp) pos) (VB X.K ca (Yt U UR (.Xz i f es))):=by
 simp only[bi] at h;obtain⟨⟨⟨⟨⟨⟨h1,h2⟩,h3⟩,h4⟩,h5⟩,h6⟩,h7⟩:=h;obtain⟨g1,g2⟩:=C.Xv h2;obtain⟨k1,k2,k3,_⟩:=C.SN h3;have h3':=h3;unfold Cfg.fn at h3';simp only[bi,beq_iff_eq,decide_eq_true_eq] at h3';obtain⟨ps,HF⟩:=G.fn f g h3'.1.2 h3'.1.1 h4;obtain⟨fa,fd,Fn,fm,fk,fb⟩:=HF.ex;rintro pins s O H D Wx I ⟨m,Z,st,rf,rh,w⟩;rw[Yt] at w;have hps:kN (WQ X.prog X.w) (X.wish (xp X Wx)) (λv dx H'=>∃C,v=.ref C/\Wx (C,dx) H'):=λpins O H s e s' I q=>yw (X:=X) rfl rfl hex I.ZZ q;have hE:PE (X.wish (xp X Wx)) (.Call (.Name g gp) (a::as) [] cp) (jh (gC X.K ca (UR f)) [] (λv dx H'=>∃C,v=.ref C/\Wx (C,dx) H') (V3 X.K (bT U es))) :=
  sO (X:=X.wish (xp X Wx)) Fn k3 k1 fm fk fb .nil hps (PA.to (i_ es C _ h7)) k2 (ay h5) (fD h6)
 refine wpAny_mono (sZ (X:=X.wish (xp X Wx)) (i:=i) C.VJ (by have:=C.N;simp_all) g1 hE (cf rfl) g2 pins s O H D (I.wish _) ⟨m,Z,st,rf,rh,aD C.mono es (λvs st1 k m1 H1 Vy e1 r1 r2=>⟨m1,st1,vs,gJ r2,r1,G.mono _ _ _ _ _ (bU (λv st2 q m2 H2 x2 e2 r3 r4=>?_) λk v st2 q m2 H2 e2 r3=>?_) k⟩) w⟩) (λ_ _ q=>q.ZZ) λ_ _ q=>q
 ·exact q m2 H2 _ (e1.trans e2) r3 (((rf.mono e1).mono e2).set i r4)
 ·exact⟨ca k,rfl,q m2 H2 (e1.trans e2) r3⟩
def PE.to {e:Expr}{t:TE}{E:Value->Shared->Prop}(h:PE X.Zi e t):PE (X.wish E) e t:=λpins s O H Q I w =>
 wpAny_mono (h pins s O H Q (I.ZZ.wish _) w) (λ_ _ ⟨v,H',I',r,q⟩=>⟨v,H',I'.ZZ.wish _,r,q⟩) λ_ _ z=>ac z
def EF (C:ZD X.Zi c U)(G:XG X.prog X.w X.K X.mg X.base c F UR ca)(hex:X.ex=[]){i f:Nat}{a0:E}{es:Es}{y g:Str}{l a:Expr}{as:List Expr}{k0:Nat}{p gp cp bp tp pos:Pos}
  (h1:c.N[i]?=some y) (h2:c.loc y=true) (h0:aV c a0 l=true) (hu:ao (.Call (.Name g gp) (a::as) [] cp)=true) (h3:c.fn f g=true) (h4:F.rz.contains f=true) (h5:ao a=true) (h6:as.all ao=true) (h7:dO c es (a::as)=true) :
  PX X (.Assign [.Name y p] (.BinOp l .Add (.Tuple [.Call (.Name g gp) (a::as) [] cp] k0 tp) bp) pos) (VB X.K ca (Yt U UR (.Xy i a0 f es))):=by
 obtain⟨g1,g2⟩:=C.Xv h2;obtain⟨k1,k2,k3,_⟩:=C.SN h3;have h3':=h3;unfold Cfg.fn at h3';simp only[bi,beq_iff_eq,decide_eq_true_eq] at h3';obtain⟨ps,HF⟩:=G.fn f g h3'.1.2 h3'.1.1 h4;obtain⟨fa,fd,Fn,fm,fk,fb⟩:=HF.ex;rintro pins s O H D Wx I ⟨m,Z,st,rf,rh,w⟩;rw[Yt] at w;have hps:kN (WQ X.prog X.w) (X.wish (xp X Wx)) (λv dx H'=>∃C,v=.ref C/\Wx (C,dx) H'):=λpins O H s e s' I q=>yw (X:=X) rfl rfl hex I.ZZ q;have hE:PE (X.wish (xp X Wx)) (.Call (.Name g gp) (a::as) [] cp) (jh (gC X.K ca (UR f)) [] (λv dx H'=>∃C,v=.ref C/\Wx (C,dx) H') (V3 X.K (bT U es))) :=
  sO (X:=X.wish (xp X Wx)) Fn k3 k1 fm fk fb .nil hps (PA.to (i_ es C _ h7)) k2 (ay h5) (fD h6)
 have hB:=Bq (X:=X.wish (xp X Wx)) (pos:=bp) (wb (X:=X.wish (xp X Wx)) .Add) (PE.to (aZ a0 C _ h0)) (Bd (pos:=tp) (x1:=k0) (Yy hE bD hu));refine wpAny_mono (sZ (X:=X.wish (xp X Wx)) (i:=i) C.VJ (by have:=C.N;simp_all) g1 hB (cf rfl) g2 pins s O H D (I.wish _) ⟨m,Z,st,rf,rh,ae C.mono a0 (λx st1 k m1 H1 x1 e1 r1 r2=>?_) w⟩) (λ_ _ q=>q.ZZ) λ_ _ q=>q;refine⟨m1,Z,st1,rf.mono e1,r1,aD C.mono es (λvs st2 k m2 H2 xs2 e2 r3 r4=>⟨m2,st2,vs,gJ r4,r3,G.mono _ _ _ _ _ (bU (λv st3 q m3 H3 x3 e3 r5 r6=>⟨show 1<=sizeLine from by decide,λpt Nz=>?_⟩) λk v st3 q m3 H3 e3 r5=>?_) k⟩) k⟩
 ·obtain⟨xs,rfl,hl,q⟩:=q;have x4:=Ext.ZG (o:=.tup [x3]) r5 Nz;exact⟨m3,st3,.tup xs,.tup [v],r5.ZG Nz,((r2.mono e2).mono e3).mono x4,ZM.mpr ⟨pt,_,rfl,ZC.of bq,Z7.mpr ⟨r6.mono x4,Z5.mpr rfl⟩⟩,show xs.length+1<=100000 from hl,λm5 H5 y5 e5 r7 r8=>q m5 H5 _ ((((e1.trans e2).trans e3).trans x4).trans e5) r7 ((((((rf.mono e1).mono e2).mono e3).mono x4).mono e5).set i r8)⟩
 ·exact⟨ca k,rfl,q m3 H3 ((e1.trans e2).trans e3) r5⟩
def Xo.but {L:Option Addr}{h0:Heap}{H:Hp}{h h':Heap}{a D:Addr}{C:XC}(f:Xo L h0 H h a C)(sb:Heap.SameBut D h h')(hD:∀o,h.get? D=some o->∀vs,o.data≠.fields vs):Xo L h0 H h' a C:=by
 obtain⟨⟨oe,vs,h1,h2,h3,h4⟩,h5,h6⟩:=f;have ha:a≠D:=λz=>hD oe (by rw[<-z];exact h1) vs h3;refine⟨⟨oe,vs,(sb.2 a ha).trans h1,h2,h3,?_⟩,h5,h6⟩;rcases h4 with h4|⟨T,oT,ts,a1,a2,a3,a4,a5,a6,a7⟩
 ·exact .inl h4
 ·have hT:T≠D:=λz=>hD oT (by rw[<-z];exact a5) ts a6;exact .inr ⟨T,oT,ts,a1,a2,a3,a4,(sb.2 T hT).trans a5,a6,a7⟩
def VV.but {h h':Heap}{a D:Addr}(f:VV h a)(sb:Heap.SameBut D h h')(hD:∀o,h.get? D=some o->∀vs,o.data≠.fields vs):VV h' a:=by obtain⟨oe,vs,T,h1,h2,h3⟩:=f;have ha:a≠D:=λz=>hD oe (by rw[<-z];exact h1) vs h2;exact⟨oe,vs,T,(sb.2 a ha).trans h1,h2,h3⟩
section
variable {X:Cx}{U UR:Nat->ZX}{ca:CA}{pins:List (Addr × Obj)}{O:L2.St}{H:Hp}{s:Shared}
def xc {Wo:XC->Hp->Prop}{use:Option (Value->Sem Unit)}{Qf:Value->Shared->Prop}{N:List Str}{scope:Scope}{s2:Shared}{H2:Hp}{fp:List Addr}{C:Addr}{D:Value}(hpn:X.pn=[])(hex:X.ex=[])(hst:X.stack=X.env::X.outer)(hfr:X.env.frame=some X.env.locals)
  (I2:L2.Inv X pins O H2 s2) (f2:∀b∈fp,ik X pins H2 b) (hC:s2.heap.objs.size<=C) {Zm:List (Addr × Obj)}{O1:L2.St}{H1:Hp}{s1:Shared} (I1:L2.Inv (YQ X N s2 H2 fp scope C) Zm O1 H1 s1) {e:Value}{s':Shared} (cx:WQ X.prog X.w X.stack H1 s1 (λv dx H'=>∃C,v=.ref C/\Wo (C,dx) H') e s') :
  notedBy (model X.prog X.w) X.A (compEnvC scope (fH X.env scope.names []) C X.env) (λx s''=>compPost (model X.prog X.w) X.A (xp X Wo) use Qf D C (.error x) s'') e s':=by
 obtain⟨a,C0,H',rfl,os,bare,sz,un,hok,fl,C1,SX,wq⟩:=cx;cases SX;have IZ:L2.Inv (YQ X N s2 H2 fp scope C) Zm O1 H' s':=I1.call' (ch:=[]) os un hok bare λb z=>by cases z
 have out:∀ {O':L2.St}{H':Hp}{s':Shared}{ps:List (Addr × Obj)},L2.Inv (YQ X N s2 H2 fp scope C) ps O' H' s'->L2.Inv X pins O H' s':=λ{O' H' s' ps} J=>I2.call' J.os J.base J.hok J.bare λb hb=>⟨(f2 b hb).2.2.2.1,(f2 b hb).2.1,(f2 b hb).2.2.2.2.1,(f2 b hb).2.2.2.2.2⟩;have IX:=out IZ;have IX1:=out I1;have fX:Xo none X.s₀.heap H' s'.heap a C0:=fl.le λb o e=>IX1.base.there b o e (by simp_all);obtain⟨m,⟨oC,esC,epC,hoC,hdC,rC⟩,_⟩:=id IZ.loc;have hoC:s'.heap.get? C=some oC:=hoC;show wpAny _ _ (noteFrame (.ref a) X.env) _ _ _;refine yx (P:=X.prog) (w:=X.w) (n:=X.s₀.heap) (base:=X.base) (outer:=X.outer) (by rw[<-hst];exact IX.ok.frames) (by rw[<-hst];exact IX.stack) hfr (by rw[<-hst];exact IX.YG) IX.hok IX.sz fX.up λh1 nt bn=>?_;rw[<-hst] at nt;have I5:=Inv.noted IX hpn hex hst hfr nt;obtain⟨ch,hch,Ro⟩:=id nt.un;have hCc:C ∉ ch:=λq=>by
  obtain⟨vs,hv⟩:=(hch C q).2.2 oC hoC
  simp_all
 have Nt:H' C=none:=IZ.free;obtain⟨sl,SX⟩:=Ro.any hoC Nt hCc;refine⟨m,⟨_,esC,epC,SX,hdC,rC⟩,λh' sb cenv _=>?_⟩;have Oi:∀o,h1.get? C=some o->∀vs,o.data≠.fields vs:=λo e vs z=>by
  simp_all
 have fC:=I2.Xu (H':=H') hC Nt;have I6:L2.Inv X [] O H' { s' with heap:=h' }:=I5.turned (t':=s'.toks) (λb o hb e=>(sb.2 b hb).trans e) fC.1 fC.2.1 fC.2.2.2.1 fC.2.2.2.2.1 λp hp=>by simp_all
 refine Dy (P:=X.prog) (w:=X.w) (n:=X.s₀.heap) (s:={ s' with heap:=h' }) (fs:=frs X.stack) (λb hb=>?_) I6.hok (nt.RQ.but sb Oi) (bn.but sb Oi) λh2 RZ=>?_
 ·obtain⟨_,o,ho,hnf⟩:=I6.stack.mem hb
  solve_by_elim
 ·exact⟨a,C0,[],O,H',rfl,Inv.noted I6 hpn hex hst hfr RZ,RZ.RQ.up,wq⟩
variable {f:Nat}
def vH (G:bj U)(ms:∀as st Q Q',(∀v st,Q v st->Q' v st)->UR f as st Q->UR f as st Q')(hcalm:X.calm=true){y:Str}{cn:List Str}{XR Wr Zx:Expr}{scope:Scope}{pos p0:Pos}{use:Option (Value->Sem Unit)}{Qf:Value->Shared->Prop}{Fin:Addr->Hp->Prop}{Wo:XC->Hp->Prop}{wi:TI}
  (hpn:X.pn=[]) (hex:X.ex=[]) (hst:X.stack=X.env::X.outer) (hfr:X.env.frame=some X.env.locals)
  (S:YZ X scope) (hcn:cn=([]:List Nat).filterMap (X.N[·]?))
  (V_:iu Zx=true) (hI:PI X.Zi Wr Zx wi)
  (hG:∀s2 H2 fp C,PG (YQ X ([y]++cn) s2 H2 fp scope C) Wr (Sx X.K (ee U (.name 0))))
  (hE:∀s2 H2 fp C pins s O H Q (Eq:XK),L2.Inv (YQ X ([y]++cn) s2 H2 fp scope C) pins O H s->(∃x,O[0]?=some (some x)/\gC X.K ca (UR f) [x] H Q Eq)->wpAny (model X.prog X.w) X.A (eval XR (compEnvC scope (fH X.env scope.names []) C X.env)) (EP (YQ X ([y]++cn) s2 H2 fp scope C) pins O Q) (λe s'=>∃s1 H1 Zm,L2.Inv (YQ X ([y]++cn) s2 H2 fp scope C) Zm O H1 s1/\WQ X.prog X.w X.stack H1 s1 Eq e s') s)
  (I:L2.Inv X pins O H s)
  (h:wi O H λJ H1=>∃m Z st1 xs ZR,RF X.K m H1 Z O/\RH X.K m H1 st1/\nk X.K J xs ZR m H1/\xs.length<100000/\o3 (UR f) ZR xs [] st1 (iU X.K m H1 Fin) (Yu X.K m H1 ca Wo))
  (fin:∀C D H' s' m',L2.Inv X pins O H' s'->s'.heap.Ns C m'->ik X pins H' C->Fin D H'->compPost (model X.prog X.w) X.A (xp X Wo) use Qf (.ref D) C (.ok .next) s') :
  wpAny (model X.prog X.w) X.A (comprehension (.ListComp XR [⟨Wr,Zx,[],0⟩] scope pos) scope X.env p0 (newList []) false (eval Zx X.env) use) Qf (xp X Wo) s:=by
 refine vc hcalm (nt:=[y]) (caps:=[]) (B:=λm H1 _ x st k=>UR f [x] st (il (λv st'=>k (some v) st') (Yu X.K m H1 ca Wo))) (Ex:=λs2 H2 fp C e s'=>∃s1 H1 Zm O1,L2.Inv (YQ X ([y]++cn) s2 H2 fp scope C) Zm O1 H1 s1/\WQ X.prog X.w X.stack H1 s1 (λv dx H'=>∃C,v=.ref C/\Wo (C,dx) H') e s') S hcn (λi z=>nomatch z) (λx z=>by simp_all) (λx z=>by simp_all) V_ I
  (wpAny_mono (hI pins s O H _ (I.wish _) h) (λv s1 h1=>wpAny_mono h1 (λitv s2 ⟨it,fp,tn,J,H2,e,I2,T,z⟩=>⟨it,fp,tn,J,H2,e,I2.ZZ,T,z⟩) λ_ _ z=>ac z) λ_ _ z=>ac z)
  (λ{s2 H2 fp C ps s5 O5 H5 x u m0 m' Z0 st' v k} I5 r5 rv rf rh x0 T5 w=>?_) (λI2 f2 hC e s' ⟨s1,H1,Zm,O1,J,cx⟩ D=>xc hpn hex hst hfr I2 f2 hC J cx) fin
 have l0:0<Z0.length:=by rw[rf.len,I5.len];exact Tw _
 refine ZP (hG s2 H2 fp C ps s5 O5 H5 x u (λO6 H6=>∃m6,Ext X.K m' H5 m6 H6/\RH X.K m6 H6 st'/\RF X.K m6 H6 (Z0.set 0 (some v)) O6) I5 r5 ⟨m',Z0,st',v,rf,rh,rv,λm6 H6 O6 e6 Uy Wq=>⟨m6,e6,Uy,Wq⟩⟩) λ_ s6 ⟨O6,H6,I6,m6,e6,Uy,Wq⟩=>?_;obtain⟨x6,hx6,rx6⟩:=Wq.at_ 0 v (NG l0);have R4:=Wq.less (Q2 ..).symm T5 λi hi=>NJ (MV hi);refine wpAny_tests_nil ?_;rw[MK rfl];exact wpAny_mono (hE s2 H2 fp C ps s6 O6 H6 (λyv H8=>∃m8 X5 vv,Ext X.K m6 H6 m8 H8/\RH X.K m8 H8 X5/\R X.K m8 H8 vv yv/\k (some vv) X5) (λv dx H'=>∃C,v=.ref C/\Wo (C,dx) H') I6
  ⟨x6,hx6,m6,st',[v],Z7.mpr ⟨rx6,Z5.mpr rfl⟩,Uy,ms _ _ _ _ (bU (λvv X5 z m8 H8 yv x8 WD r8=>⟨m8,X5,vv,x8,WD,r8,z⟩) λkk kv X5 z m8 H8 x8 WD=>⟨_,rfl,z m8 H8 ((x0.trans e6).trans x8) WD⟩) w⟩)
  (λuy s8 ⟨yv,H8,I8,ry,m8,X5,vv,x8,WD,r8,w8⟩=>⟨yv,vv,ry,O6,H8,m8,X5,I8,e6.trans x8,WD,R4.mono x8,λ_ z=>by cases z;exact r8,w8⟩) λe s8 ⟨s1,H1,Zm,J,cx⟩=>⟨s1,H1,Zm,O6,J,cx⟩
end
section
variable {Y:Cx}{CX:V0}{k:Nat}{f:Addr}{fd:FuncData}{ps:List Str}{sp:Sp}{Xb:List V}{ds:List Value}{Ex:XK}{x:Str}{p pos:Pos}{e:Expr}{es:List Expr}{t:TA}{O:L2.St}
def ue (F:mE Y.prog Y.w Y.K Y.mg Y.base CX k f fd ps sp)(hr:Zz k Y.A)(hg:Gl Y x)(hm:Y.mg x=some (.ref f))(hk:W.keepIn Y.K (.ref f)=true)(hb:Binds Y.K fd ps ds)(hd:Vals Xb ds)
  (hx:∀pins H s e s',L2.Inv Y pins O H s->CX Y.stack H s Ex e s'->Y.xe e s')
  (ha:PA Y (e::es) t) (hdb:(x == ("__debug__":Str))=false) (he:starEach (e::es) Y.env=(false,eval e Y.env)::starEach es Y.env) (hpl:(backTo pos (starEach es Y.env)).any (·.1)=false) :
  PE Y (.Call (.Name x p) (e::es) [] pos) (λO' H Q=>O'=O/\jh sp Xb Ex t O' H Q):=by
 rintro pins s O' H Q I ⟨rfl,h⟩;refine wpAny_Call_Name_kw (iP I hg hm ?_ hdb);refine W.callWith_K (h₀:=Y.base) I.ok.mod.Wd hk (ZP (ha pos pins s O' H _ I h) λus s1 ⟨vs,H1,I1,r,q⟩=>⟨I1.X8,?_⟩) he hpl;have r2:Vals (vs++Xb) (us++ds):=r.append hd;have hl:(us++ds).length=ps.length:=by rw[<-r2.length];exact F.len _ _ _ _ q
 refine wpAny_call (codeAny_mono (F.run Y.A Y.stack s1 H1 ⟨us,[]⟩ (us++ds) (vs++Xb) Q Ex hr I1.env0 (hb s1 us I1.X8 hl) r2 q) λr s' hq=>?_);cases r with
 | error e=>solve_by_elim
 | ok fl =>
  cases fl with
  | ret u=>exact I1.after hq
  | next=>assumption
  | brk=>assumption
  | cont=>assumption
end
def Be (C:ZD X.Zi c U)(G:XG X.prog X.w X.K X.mg X.base c F UR ca)(hex:X.ex=[])(hpn:X.pn=[])(hst:X.stack=X.env::X.outer)(hfr:X.env.frame=some X.env.locals){f:Nat}{it:It}{y:Str}{ex:Expr}{gs:List Comprehension}{sc:Scope}{pos:Pos}(h:B0 c F f it y (.ListComp ex gs sc pos)=true){Wo:XC->Hp->Prop}
  {use:Option (Value->Sem Unit)}{Qf:Value->Shared->Prop}{Fin:Addr->Hp->Prop}{pins:List (Addr × Obj)}{s:Shared}{O:L2.St}{H:Hp}{m:List Addr}{Z:Fr}{st:AH} (I:L2.Inv X pins O H s) (rf:RF X.K m H Z O) (rh:RH X.K m H st)
  (w:gP U it Z st λxs ZR st1=>xs.length<100000/\o3 (UR f) ZR xs [] st1 (λvs st2=>∀m' H' D,Ext X.K m H m' H'->RH X.K m' H' (st2++[.lst vs])->R X.K m' H' (.ref st2.length) (.ref D)->Fin D H') (Yu X.K m H ca Wo))
  (fin:∀C D H' s' m',L2.Inv X pins O H' s'->s'.heap.Ns C m'->ik X pins H' C->Fin D H'->compPost (model X.prog X.w) X.A (xp X Wo) use Qf (.ref D) C (.ok .next) s') :
  wpAny (model X.prog X.w) X.A (comprehension (.ListComp ex gs sc pos) sc X.env (firstIterPos gs pos) (newList []) (firstAsync gs) (firstIter gs X.env) use) Qf (xp X Wo) s:=by
 replace h:=ir h;obtain⟨ex',gs',sc',pos',heq,h⟩:=h;cases heq;replace h:=br h;obtain⟨g,rfl,h⟩:=h;obtain⟨tx,ix,fx,ia⟩:=g;dsimp only at h;simp only[bi,beq_iff_eq] at h;obtain⟨⟨⟨⟨⟨⟨⟨h1,h0⟩,h2⟩,h4⟩,h5⟩,h6⟩,h7⟩,h8⟩:=h;subst h1;cases fx with
 | cons _ _=>cases h7
 | nil =>
 replace h8:=tP h8;obtain⟨gn,gp,ax,cp,rfl,h8⟩:=h8;simp only[bi] at h8;obtain⟨⟨⟨a1,a2⟩,a3⟩,a4⟩:=h8;replace a4:=ak a4;obtain⟨z,zp,rfl,a4⟩:=a4;obtain⟨S,k1,k2,k3,k4⟩:=jW C h4;have hC:∀s2 H2 fp A,ZD (YQ X ([y]++([]:List Nat).filterMap (X.N[·]?)) s2 H2 fp sc A) (c.inner [y] [] sc) U:=λs2 H2 fp A=>wa C h4;have a1':=a1;unfold Cfg.fn at a1';simp only[bi,beq_iff_eq,decide_eq_true_eq] at a1';obtain⟨ps,HF⟩:=G.fn f gn a1'.1.2 a1'.1.1 a2;obtain⟨fa,fd,Fn,fm,fk,fb⟩:=HF.ex;refine vH (X:=X) (ca:=ca) (f:=f) (y:=y) (use:=use) (Wo:=Wo) (Fin:=Fin) (wi:=Sy X.K (gP U it)) C.mono (λas st Q Q'=>G.mono f as st Q Q') C.calm hpn hex hst hfr ⟨S.kind,S.Yw,S.nms,S.free⟩ rfl h2 (yB it C ix h0 h5) (λs2 H2 fp A=>qY (.name 0) (hC s2 H2 fp A) _ h6) ?_ I.ZZ ?_ ?_
 ·rintro s2 H2 fp CC pins s O H Q Eq I ⟨x,hx,q⟩;have CZ:=hC s2 H2 fp CC;obtain⟨b1,b2,b3,_⟩:=CZ.SN a1;simp only[bi,beq_iff_eq] at a4;obtain⟨v1,v2,v3⟩:=CZ.WN a4.2;have hA:PA ((YQ X ([y]++([]:List Nat).filterMap (X.N[·]?)) s2 H2 fp sc CC).wish (λe s'=>∃s1 H1 Zm,L2.Inv (YQ X ([y]++([]:List Nat).filterMap (X.N[·]?)) s2 H2 fp sc CC) Zm O H1 s1/\WQ X.prog X.w X.stack H1 s1 Eq e s')) [.Name z zp] (eQ (Eg 0) kH) :=
   Yy (o_ (by have:=CZ.N;exact(NS (λl=>l[0]?) this).trans a4.1) v1 v2 v3) bD a3
  exact wpAny_mono (ue (Y:=(YQ X ([y]++([]:List Nat).filterMap (X.N[·]?)) s2 H2 fp sc CC).wish (λe s'=>∃s1 H1 Zm,L2.Inv (YQ X ([y]++([]:List Nat).filterMap (X.N[·]?)) s2 H2 fp sc CC) Zm O H1 s1/\WQ X.prog X.w X.stack H1 s1 Eq e s')) (O:=O) (Ex:=Eq) (p:=gp) (pos:=cp) Fn b3 b1 fm fk fb .nil (λps H1 s1 e s' I1 z=>⟨s1,H1,ps,I1.ZZ,z⟩) hA b2 (ay a3) rfl pins s O H Q (I.wish _) ⟨rfl,x,hx,q⟩) (λ_ _ ⟨v,H',I',r,q⟩=>⟨v,H',I'.ZZ,r,q⟩) λ_ _ z=>z
 ·refine⟨m,Z,st,rf,rh,dm C.mono it (λxs ZR st1 z m1 H1 J e1 r1 W=>⟨m1,Z,st1,xs,ZR,rf.mono e1,r1,W,z.1,?_⟩) w⟩;refine gy (λas st Q Q'=>G.mono f as st Q Q') (λvs st2 k m2 H2 D ys e2 r2 Dm T3 hD ry=>?_) (λ_ _ _ q=>q.ext e1) z.2;exact k _ _ _ (e1.trans (e2.Xq T3)) (r2.Xq Dm hD ry) (R.last r2.len)
 ·exact fin
def Em (C:ZD X.Zi c U)(G:XG X.prog X.w X.K X.mg X.base c F UR ca)(hex:X.ex=[])(hpn:X.pn=[])(hst:X.stack=X.env::X.outer)(hfr:X.env.frame=some X.env.locals){i f:Nat}{it:It}{y z:Str}{ex:Expr}{gs:List Comprehension}{sc:Scope}{zp cp p:Pos}(h1:c.N[i]?=some z)(h2:c.loc z=true)(hl:c.names.lookup z=some .local)(hp:zp.line=cp.line)(hn:nZ z sc=false)(h3:B0 c F f it y (.ListComp ex gs sc cp)=true) :
  PX X (.Assign [.Name z zp] (.ListComp ex gs sc cp) p) (VB X.K ca (Yt U UR (.Yx i f it y))):=by
 obtain⟨g1,g2⟩:=C.Xv h2;have hll:=C.Uk _ hl;rintro pins s O H D Wx I ⟨m,Z,st,rf,rh,w⟩;rw[Yt] at w;have hs:swapsWith (.ListComp ex gs sc cp) (some (.Name z zp)) p.line X.env=pure true:=by
  unfold swapsWith;have q1:(X.env.kindOf z == some NameKind.local)=true:=by unfold Env.kindOf;rw[show X.env.scope.names.lookup z=some .local from hll];rfl
  have q2:(X.env.blockKind == ScopeKind.function)=true:=by rw[show X.env.blockKind=_ from C.bk];rfl
  have q3:(zp.line == cp.line)=true:=by rw[hp];simp
  unfold nZ at hn;show pure (_ && _ && _ && !_)=_;rw[q1,q2];show pure (true && true && (zp.line == cp.line) && !_)=_;rw[q3,hn];rfl
 rw[exec_Assign_Name_used _ _ _ _ hs];refine MA (wpAny_standAt ?_);refine MA ?_;unfold evalThenUse;refine MA ?_;refine Be C G hex hpn hst hfr h3 (use:=some (assign (.Name z zp) X.env)) (Fin:=λA H'=>D.nx (O.set i (some (.ref A))) H') I rf rh (dm C.mono it (λxs ZR st1 z=>⟨z.1,gy (λas st Q Q'=>G.mono f as st Q Q') (λvs st2 k m' H' D e r q=>k m' H' _ e r ((rf.mono e).set i q)) (λ_ _ _ q=>q) z.2⟩) w) (λC' A H' s' m' I' ns fp F=>?_)
 ·refine wpAny_assign_Name (kY I' C.VJ (by have:=C.N;exact(NS (λl=>l[i]?) this).trans h1) g1 (v:=.ref A) rfl (λs2 I2 hh=>?_) g2);obtain⟨a,hs2,ha⟩:=hh;have hne:C'≠a:=by
   rcases ha with rfl|ha
   ·exact fp.2.1
   ·exactλq=>fp.2.2.2.2.1 _ _ ha q.symm
  refine⟨m',?_,λh' hs'=>?_⟩
  ·obtain⟨o,es,ep,q1,q2⟩:=ns;exact⟨o,es,ep,(hs2.2 C' hne).trans q1,q2⟩
  ·refine MC (MC ?_);exact⟨_,H',I2.turned (t':=s2.toks) (λb o hb e=>hs'.extBut b o hb e) fp.1 fp.2.1 fp.2.2.2.1 fp.2.2.2.2.1 fp.2.2.2.2.2,F⟩
mutual
theorem LS (C:ZD X.Zi c U)(G:XG X.prog X.w X.K X.mg X.base c F UR ca)(hex:X.ex=[])(hc:X.calm=true)(hpn:X.pn=[])(hst:X.stack=X.env::X.outer)(hfr:X.env.frame=some X.env.locals):∀(e:XS) (x:Stmt),vn c F e x=true->PX X x (VB X.K ca (Yt U UR e))
 | .st e,x,h=>by rw[vn] at h;rintro pins s O H D Wx I ⟨m,Z,st,rf,rh,w⟩;rw[Yt] at w;exact wpAny_mono (Jv C e x h pins s O H D (I.wish _) ⟨m,Z,st,rf,rh,w⟩) (λ_ _ q=>q.ZZ) λ_ _ z=>ac z
 | .Wn t a b,x,h=>by
  rw[vn] at h;replace h:=um h;obtain⟨x,ys,zs,p,rfl,h⟩:=h;simp only[bi] at h;obtain⟨⟨h1,h2⟩,h3⟩:=h;rintro pins s O H D Wx I ⟨m,Z,st,rf,rh,w⟩;rw[Yt] at w;refine wpAny_If (wpAny_mono (sk t C _ h1 pins s O H (λk H1=>if k=true then VB X.K ca (dy U UR a) D Wx O H1 else VB X.K ca (dy U UR b) D Wx O H1) (I.wish _) ⟨m,Z,st,rf,rh,bJ C.mono t (λk st1 z m1 H1 e1 r1=>?_) w⟩) (λd s1 ⟨H1,I1,q1⟩=>?_) λ_ _ z=>ac z)
  ·cases k with
   | true=>rw[MK rfl] at z |-;exact⟨m1,Z,st1,rf.mono e1,r1,dZ C.mono G.mono a (AE.ext e1) (λ_ _ _ q=>q.ext e1) z⟩
   | false=>rw[MM ME] at z |-;exact⟨m1,Z,st1,rf.mono e1,r1,dZ C.mono G.mono b (AE.ext e1) (λ_ _ _ q=>q.ext e1) z⟩
  ·cases d with
   | true=>exact yO C G hex hc hpn hst hfr a _ h2 pins s1 O H1 D Wx I1.ZZ q1
   | false=>exact yO C G hex hc hpn hst hfr b _ h3 pins s1 O H1 D Wx I1.ZZ q1
 | .raise k,x,h=>by rw[vn] at h;obtain⟨y,np,t,j,ap,cp,pos,rfl,h⟩:=tN h;replace h:(F.xs[k]? == some y && c.X7 y)=true:=h;obtain⟨h,h2⟩:=Bool.and_eq_true_iff.mp h;obtain⟨g1,g2,g3⟩:=C.Xd h2;rintro pins s O H D Wx I ⟨m,Z,st,rf,rh,w⟩;rw[Yt] at w;obtain⟨e1,e2⟩:=G.cls k y (beq_iff_eq.mp h);exact Cp I hc hex g1 g2 e1 e2 (w m H (Ext.refl _ _ _) rh)
 | .Yx i f it y,x,h=>by rw[vn] at h;replace h:=fg h;obtain⟨tg,v,p,rfl,h⟩:=h;replace h:=ak h;obtain⟨z,zp,rfl,h⟩:=h;replace h:=ir h;obtain⟨ex,gs,sc,cp,rfl,h⟩:=h;simp only[bi,beq_iff_eq,Bool.not_eq_true'] at h;obtain⟨⟨⟨⟨⟨h1,h2⟩,hl⟩,hp⟩,hn⟩,h3⟩:=h;exact Em C G hex hpn hst hfr h1 h2 hl hp hn h3
 | .Xy i a f es,x,h=>by rw[vn] at h;replace h:=fg h;obtain⟨tg,v,p,rfl,h⟩:=h;replace h:=ak h;obtain⟨z,zp,rfl,h⟩:=h;replace h:=iW h;obtain⟨l,o,r,bp,rfl,h⟩:=h;replace h:=dj h;obtain⟨ws,k0,tp,rfl,h⟩:=h;replace h:=br h;obtain⟨u,rfl,h⟩:=h;replace h:=du h;obtain⟨g,gp,as,cp,rfl,h⟩:=h;replace h:=aG h;obtain⟨b,bs,rfl,h⟩:=h;simp only[bi,beq_iff_eq] at h;obtain⟨⟨⟨⟨⟨⟨⟨⟨⟨h1,h2⟩,rfl⟩,h3⟩,h4⟩,h5⟩,h6⟩,h7⟩,h8⟩,h9⟩:=h;exact EF C G hex h1 h2 h3 h4 h5 h6 h7 h8 h9
 | .Xz i f es,x,h=>by rw[vn] at h;obtain⟨y,p,g,gp,a,as,cp,pos,rfl,h⟩:=wx h;exact E4 C G hex h
theorem yO (C:ZD X.Zi c U)(G:XG X.prog X.w X.K X.mg X.base c F UR ca)(hex:X.ex=[])(hc:X.calm=true)(hpn:X.pn=[])(hst:X.stack=X.env::X.outer)(hfr:X.env.frame=some X.env.locals):∀(e:Xp) (x:List Stmt),gX c F e x=true->PXs X x (VB X.K ca (dy U UR e))
 | .nil,x,h=>by
  rw[gX] at h;cases x with
  | nil =>rintro pins s O H D Wx I ⟨m,Z,st,rf,rh,w⟩;rw[dy] at w;exact wpAny_execs_nil ⟨_,_,I,Zb.here w rh rf⟩
  | cons _ _=>cases h
 | .cons e es,x,h=>by
  rw[gX] at h;replace h:=aG h;obtain⟨y,ys,rfl,h⟩:=h;simp only[bi] at h;rintro pins s O H D Wx I ⟨m,Z,st,rf,rh,w⟩;rw[dy] at w;refine wpAny_execs_cons (ZP (LS C G hex hc hpn hst hfr e _ h.1 pins s O H { D with nx:=λO1 H1=>VB X.K ca (dy U UR es) D Wx O1 H1 } Wx I ⟨m,Z,st,rf,rh,uq C.mono G.mono e (D:={ AE X.K m H D with nx:=λZ1 st1=>dy U UR es Z1 st1 (AE X.K m H D) (Yu X.K m H ca Wx) }) (D':=AE X.K m H { D with nx:=λO1 H1=>VB X.K ca (dy U UR es) D Wx O1 H1 }) ⟨λZ1 st1 k m1 H1 O1 e1 r1 f1=>⟨m1,Z1,st1,f1,r1,dZ C.mono G.mono es (AE.ext e1) (λ_ _ _ q=>q.ext e1) k⟩,λ_ _ q=>q⟩ (λ_ _ _ q=>q) w⟩) λf s1 q=>?_);cases f with
  | next =>obtain⟨O',H',I',q⟩:=q;exact yO C G hex hc hpn hst hfr es _ h.2 pins s1 O' H' D Wx I' q
  | ret v=>exact q
  | brk=>exact q
  | cont=>exact q
end
end
noncomputable def ow (st:AH)(Q:EK):aQ:={ nx:=λ_ st'=>Xl st (λv s=>Q (okR v) s) .non st',rt:=Xl st (λv s=>Q (okR v) s) }
noncomputable def o6 (st:AH)(Q:EK):XW:=λk v st'=>Xl st (λu s=>Q (RP k u) s) v st'
def W5 (sp:ZX):ZX:=λas st Q=>sp as st (il Q λ_ _ _=>False)
section
variable {P:Program}{w:World}{K:W.Frag}{mg:Str->Option Value}{base:Heap}{c:Cfg}{F:Xf}{U UR:Nat->ZX}{ca:CA}
def Eh {x:Str}{st:Stmt}{N ps:List Str}{sp:ZX}{code:Xp}(A0:At K mg x st ps)(S:ar N ps (af st))(hN:c.N=N)(hn:c.names=(af st).names)
  (hc:gX c F code (ai st)=true) (G:Wj P w K mg base c U) (GX:XG P w K mg base c F UR ca) (len:∀as st Q,sp as st Q->as.length=ps.length) (ms:∀as st Q Q',(∀v st,Q v st->Q' v st)->sp as st Q->sp as st Q')
  (h:∀as st Q,sp as st Q->dy U UR code (frame N.length as) st (ow st Q) (o6 st Q)):V2 P w K mg base (c.lim+1) x ps (gC K ca sp):=by
 obtain⟨f,fd,Ff,fm,fb⟩:=A0.ex;have kp:=Ff.kp;obtain⟨oc,od,kV,doc,pm,an,cdv,ct,osl,rfl,lk,hcd⟩:=Ff.ex;refine⟨f,_,GV lk hcd S (λvs H Q E ⟨m,st,as,r1,r2,q⟩=>by rw[<-r1.len];solve_by_elim) λA outer s H vs Q E hr ⟨m,st',as,r1,r2,q⟩=>?_,fm,kp,fb⟩;have C:ZD (oH (WQ P w) P w K mg base N x (af st) f cdv A outer s H E).Zi c U:=sH (E:=E) (H:=H) (outer:=outer) (U:=U) S hN hn hr G;refine⟨λD O H1=>VB K ca (dy U UR code) D (λC H'=>E (.ref C.1) C.2 H') O H1,λpins s1 O H1 D I w=>wpAny_mono (yO C GX rfl rfl rfl rfl rfl code _ hc pins s1 O H1 D _ I w) (λ_ _ q=>q) λe s' q=>Bi q,m,frame N.length as,st',kl r1,r2,dZ G.mono GX.mono code ?_ ?_ (h as st' _ q)⟩
 ·exact⟨λZ st2 k m' H' O' e r f=>eM r2 k m' H' .non e r (Zo.mpr rfl),λv st2 k=>eM r2 k⟩
 ·intro k v st2 z m' H' e r;rcases z with z|⟨st1,g,z1,z2,z3,z4,z⟩
  ·exact z m' H' e r
  ·obtain⟨st1,q,e2,r3,_⟩:=sW (Q:=λ_ s=>il (post K m H Q) (Gc K m H ca E) (RP k v) s) (v:=.non) r2 e r (Zo.mpr rfl) ⟨st1,g,z1,z2,z3,by rw[PV.ZQ],z⟩;exact q m H' e2 r3
theorem V2.ok {k:Nat}{x:Str}{ps:List Str}{sp:ZX}(ms:∀as st Q Q',(∀v st,Q v st->Q' v st)->sp as st Q->sp as st Q')(h:V2 P w K mg base k x ps (gC K ca sp)):V1 P w K mg base k x ps (fK K (W5 sp)):=by
 obtain⟨f,fd,Fn,fm,fk,fb⟩:=h.ex;have imp:∀vs H Q E,fK K (W5 sp) vs H Q E->gC K ca sp vs H Q E0:=λvs H Q E ⟨m,st,as,r1,r2,q⟩=>⟨m,st,as,r1,r2,ms _ _ _ _ (bU (λ_ _ z=>z) λ_ _ _ z=>z.elim) q⟩;refine⟨f,fd,⟨λvs H Q E q=>Fn.len vs H Q E0 (imp _ _ _ _ q),λA outer s H args us vs Q E hr he hb hv hs=>codeAny_mono (Fn.run A outer s H args us vs Q E0 hr he hb hv (imp _ _ _ _ hs)) λr s' z=>?_⟩,fm,fk,fb⟩;cases r with
 | error e =>obtain⟨_,_,_,_,_,_,_,_,_,_,z⟩:=z;exact z
 | ok fl=>cases fl <;> exact z
end
noncomputable abbrev Cx.pin (X:Cx)(pins:List (Addr × Obj))(E:Value->Shared->Prop):Cx:={ X with pn:=X.pn++pins,xe:=E }
section
variable {X:Cx}{pins:List (Addr × Obj)}{O:L2.St}{H:Hp}{s:Shared}{E:Value->Shared->Prop}
def Inv.pinned (I:L2.Inv X pins O H s)(E:Value->Shared->Prop):L2.Inv (Cx.pin X pins E) [] O H s :=
 ⟨⟨I.ok.mod,I.ok.kind,I.ok.glob,I.ok.blt,I.ok.above,I.ok.inj,I.ok.has,I.ok.cab,I.ok.hd,I.ok.frames,I.ok.stk,I.ok.VD,I.ok.bs,I.ok.WW,I.ok.Yo,I.ok.Yl,I.ok.Y4,I.ok.Wm⟩,I.os,I.bare,I.base,I.loc,I.cell,I.free,I.ZF,λp hp=>I.pin p (by rw[N5] at hp;exact hp),I.hok,I.len⟩
def Inv.YT {ps:List (Addr × Obj)}(I:L2.Inv (Cx.pin X pins E) ps O H s):L2.Inv X pins O H s :=
 ⟨⟨I.ok.mod,I.ok.kind,I.ok.glob,I.ok.blt,I.ok.above,I.ok.inj,I.ok.has,I.ok.cab,I.ok.hd,I.ok.frames,I.ok.stk,I.ok.VD,I.ok.bs,I.ok.WW,I.ok.Yo,I.ok.Yl,I.ok.Y4,I.ok.Wm⟩,I.os,I.bare,I.base,I.loc,I.cell,I.free,I.ZF,λp hp=>I.pin p (N6 _ hp),I.hok,I.len⟩
theorem SP.YT {ps:List (Addr × Obj)}{D:L2.Ends}{f:Flow}{s':Shared}(h:SP (Cx.pin X pins E) ps D f s'):SP X pins D f s':=by
 cases f with
 | next=>obtain⟨O',H',I,q⟩:=h;exact⟨O',H',Inv.YT I,q⟩
 | brk=>obtain⟨O',H',I,q⟩:=h;exact⟨O',H',Inv.YT I,q⟩
 | cont=>obtain⟨O',H',I,q⟩:=h;exact⟨O',H',Inv.YT I,q⟩
 | ret u=>obtain⟨v,O',H',I,r,q⟩:=h;exact⟨v,O',H',Inv.YT I,r,q⟩
noncomputable abbrev Cx.hnd (X:Cx)(pins:List (Addr × Obj))(a:Addr)(o:Obj):Cx:={ X with A:=X.A.mark (some (.ref a)),calm:=false,pn:=(a,o)::(X.pn++pins),xe:=λ_ _=>False }
theorem Inv.hnd {a:Addr}{o:Obj}(I:L2.Inv X pins O H s)(e:s.heap.get? a=some o)(n:H a=none)(hl:a≠X.env.locals)(hf:a ∉ X.fs)(hd:∀v,o.data≠.cell v):L2.Inv (Cx.hnd X pins a o) [] O H s :=
 ⟨⟨I.ok.mod,I.ok.kind,I.ok.glob,I.ok.blt,I.ok.above,I.ok.inj,I.ok.has,I.ok.cab,(λz=>by cases z),I.ok.frames,I.ok.stk,I.ok.VD,I.ok.bs,I.ok.WW,I.ok.Yo,I.ok.Yl,I.ok.Y4,I.ok.Wm⟩,I.os,I.bare,I.base,I.loc,I.cell,I.free,I.ZF,λp hp=>by
  rw[N5] at hp;rcases MU.mp hp with rfl|hp
  ·exact⟨e,n,hl,hf,hd⟩
  ·exact I.pin p hp,I.hok,I.len⟩
def Inv.Vl {a:Addr}{o:Obj}{ps:List (Addr × Obj)}(ok:X.Ok)(I:L2.Inv (Cx.hnd X pins a o) ps O H s):L2.Inv X pins O H s :=
 ⟨ok,I.os,I.bare,I.base,I.loc,I.cell,I.free,I.ZF,λp hp=>I.pin p (N6 _ (MD _ hp)),I.hok,I.len⟩
def yp {M:Model}{A:Around}{i:Nat}{x:Str}{pos:Pos}{Q:Unit->Shared->Prop}(I:L2.Inv X pins O H s)(hN:X.N.Nodup)(hi:X.N[i]?=some x)(hk:X.env.scope.names.lookup x=some .local)(hkk:X.env.kindOf x=some .local)
  (h:∀s',L2.Inv X pins (O.set i none) H s'->Q () s'):wpAny M A (do bindName X.env x .none;unbindBehindTheSuite X.env x pos) Q E s:=by
 obtain⟨m,hn,hl⟩:=id I.loc;have hcls:(X.env.scope.kind == .class || (X.env.scope.kind == .module && X.env.locals != X.env.globals))=false:=by rw[I.ok.kind];rfl
 have V7:=I.V7;have tracked:∀ {a:Addr}{h':Heap},(∃o,s.heap.get? a=some o/\H a=none)->Heap.SameBut a s.heap h'->YX X.prog X.w H h':=λ{a h'} ha hs b ob e=>by
  obtain⟨_,_,hfree⟩:=ha;refine(I.hok b ob e).stay λw' q=>(hs.2 b ?_).trans q;rintro rfl
  simp_all
 refine wpAny_nameGoes_keeps hkk hn hcls λh' v hn' hs=>?_;obtain⟨oL,_,_,hoL,_⟩:=id hn;refine h _ ⟨I.ok,I.os,I.bare,⟨λb o e n hb hx=>?_,λb o e n hb hx=>?_,I.base.free,λb o e hx=>?_,I.base.Wa⟩,⟨_,hn',λj y v' e1 e2 e3=>?_⟩,λy c e=>?_,I.free,I.ZF,λp hp=>?_,tracked ⟨oL,hoL,I.free⟩ hs,by simpa using I.len⟩
 ·exact(hs.2 b (MV (ML (MQ e) I.ok.above))).trans (I.base.keep b o e n hb hx)
 ·obtain⟨sl,e1⟩:=I.base.slot b o e n hb hx;exact⟨sl,(hs.2 b (MV (ML (MQ e) I.ok.above))).trans e1⟩
 ·obtain⟨o',e1⟩:=I.base.there b o e hx;exact⟨o',(hs.2 b (MV (ML (MQ e) I.ok.above))).trans e1⟩
 ·by_cases hj:j=i
  ·subst hj;rw[QU] at e2
   simp_all
  ·rw[NJ (Ne.symm hj)] at e2;obtain⟨u',r',q⟩:=hl j y v' e1 e2 e3;refine⟨u',r',?_⟩;rcases q with⟨k,e⟩|⟨k,c,e,z⟩
   ·refine .inl ⟨k,?_⟩;have:y≠x:=λe=>hj (oB hN e1 (e ▸ hi));simp[*]
   ·exact .inr ⟨k,c,e,z.sameBut hs (V7 y c e)⟩
 ·obtain⟨w',z⟩:=I.cell y c e;exact⟨w',z.sameBut hs (V7 y c e)⟩
 ·obtain⟨e,n,ne,nf,d⟩:=I.pin p hp;exact⟨(hs.2 p.1 ne).trans e,n,ne,nf,d⟩
end
def Dw (h:Heap)(C:Addr):Prop:=∃nm q N bs bm hdct sn sub ab col dd k0 k1 k2 k3 k5 id,h.get? C=some (excClassObj nm q C N bs bm hdct sn sub ab col dd k0 k1 k2 k3 k5 id)
def OwnCls.Uh {x:Str}{C:Addr}{mg:Str->Option Value}{h:Heap}(Oq:OwnCls x C iA "ValueError.__new__" mg h):Dw h C:=by obtain⟨bm,N,nm,qn,bs,hdct,sn,sub,ab,col,dd,k0,k1,k2,k3,k5,mN,hC,_⟩:=Oq.obj;exact⟨nm,qn,N,bs,bm,hdct,sn,sub,ab,col,dd,k0,k1,k2,k3,k5,_,hC⟩
def ve {M:Model}{A:Around}{E:Value->Shared->Prop}{K:W.Frag}{s:Shared}{a C C':Addr}{oe:Obj}{Q:Bool->Shared->Prop}{mg:Str->Option Value}{y:Str}(Oq:Dw s.heap C)(Oq':OwnCls y C' iA "ValueError.__new__" mg s.heap)
  (he:s.heap.get? a=some oe) (hcls:oe.cls=.ref C) (hin:∀o cd,s.heap.get? C=some o->o.data=.cls cd->cd.mro.contains (.ref C')=true) (hq:Q true s):wpAny M A (excMatches (.ref a) (.ref C')) Q E s:=by
 obtain⟨nm,qn,N,bs,bm,hdct,sn,sub,ab,col,dd,k0,k1,k2,k3,k5,cid,hC⟩:=Oq;obtain⟨bm',N',nm',qn',bs',Nv,sn',sub',ab',col',dd',l0,l1,l2,l3,l5,mN',hC',hN',hni',T'⟩:=Oq'.obj;have hcC:=hin _ _ hC rfl;dsimp only at hcC;have hcB:(Value.ref C'::bm').contains (.type "BaseException")=true:=by rw [List.contains_cons,T'.hasType PySem.F.excBase_ValueError.hasBase,Bool.or_true]
 have f:=tc_notTuple;obtain⟨h,g,d,t,os⟩:=s;unfold excMatches
 repeat (first|(with_reducible refine wpAny_loadPart_at he ?_;rw[hcls])|with_reducible refine wpAny_loadPart_at hC' ?_|(with_reducible refine wpAny_isSubtype_exc hC' ?_;rw[hcB])|(with_reducible refine wpAny_isSubtype_exc hC ?_;rw[hcC])|wp_step)
 exact hq
def Do {X:Cx}{pins:List (Addr × Obj)}{O:L2.St}{H1:Hp}{s1 s':Shared}{Wx:XC->Hp->Prop}{e:Value}{D:L2.Ends}{Ex:Value->Shared->Prop}{y n:Str}{j:Nat}{C':Addr}{b₀:Stmt}{suite:List Stmt}{np pos:Pos}{rest:List ExceptHandler}
  (I:L2.Inv X pins O H1 s1) (q:WQ X.prog X.w X.stack H1 s1 (λv dx H'=>∃C,v=.ref C/\Wx (C,dx) H') e s') (hst:X.stack=X.env::X.outer) (hfr:X.env.frame=some X.env.locals)
  (hg:Gl X y) (hdb:(y == ("__debug__":Str))=false) (hy:X.mg y=some (.ref C')) (hy2:W.excIn X.K C' iA "ValueError.__new__"=true)
  (hW:∀C H',Wx C H'->(∀h,X.K.In h->Dw h C.1)/\∃o cd,X.K.lookup C.1=some o/\o.data=.cls cd/\cd.mro.contains (.ref C')=true)
  (hN:X.N.Nodup) (hj:X.N[j]?=some n) (hk:X.env.scope.names.lookup n=some .local) (hkk:X.env.kindOf n=some .local)
  (hs:∀a C H' o s2,Wx C H'->Nf o C->(∃vs,o.data=.fields vs)->L2.Inv (Cx.hnd X pins a o) [] (O.set j (some (.ref a))) H' s2->wpAny (model X.prog X.w) (X.A.mark (some (.ref a))) (execs (b₀::suite) X.env) (SP (Cx.hnd X pins a o) [] { nx:=λO' WR=>D.nx (O'.set j none) WR,rt:=D.rt }) (λ_ _=>False) s2) :
  wpAny (model X.prog X.w) X.A (noteFrame e X.env) (λ_ s₂=>wpAny (model X.prog X.w) X.A (setFlight e none) (λ_ s₃=>wpAny (model X.prog X.w) X.A (handleBy e X.env (.ExceptHandler (some (.Name y np)) (some n) (b₀::suite) pos::rest)) (SP X pins D) Ex s₃) Ex s₂) Ex s':=by
 obtain⟨a,C,H',rfl,os,bare,sz,un,hok,fl,C0,hC0,wq⟩:=q;cases hC0;have I':L2.Inv X pins O H' s':=I.call' (ch:=[]) os un hok bare λb z=>by cases z
 have aL:a≠X.env.locals:=λz=>by
  obtain⟨m,⟨o,_,_,ho,_⟩,_⟩:=I.loc;have:=fl.ge
  simp_all
 have aF:a ∉ frs X.stack:=λz=>by
  obtain⟨_,o,ho,_⟩:=I.stack.mem z;have:=fl.ge
  simp_all
 have Ng:a ∉ X.fs:=λz=>aF (by rw[hst];exact OM.mpr (by obtain⟨v,h1,h2⟩:=OM.mp z;exact⟨v,MD _ h1,h2⟩));refine vB (P:=X.prog) (w:=X.w) (n:=s1.heap) (base:=X.base) (env:=X.env) (outer:=X.outer) (fv:=none) (by rw[<-hst];exact I'.ok.frames) (by rw[<-hst];exact I'.stack) hfr (by rw[<-hst];exact I'.YG) hok sz fl.up λh2 nt=>?_;obtain⟨⟨ch,hch,Ow⟩,S8,Pr,sz2⟩:=nt;rw[<-hst] at Ow;have Ox:Un (frs X.stack) [] H1 H' s1.heap h2:=Un.noted un Ow (λ_ _ _ z=>z) (λ_ z=>z) λc hc=>(hch c hc).1;have I2:L2.Inv X pins O H' { s' with heap:=h2 }:=I.call' (s':={ s' with heap:=h2 }) (ch:=[]) os Ox S8 bare λb z=>by cases z
 obtain⟨oe,vs,he,hc,hd,_⟩:=id Pr.obj;have nc:∀v,oe.data≠.cell v:=λv z=>by simp_all
 have J2:=Inv.hnd I2 he Pr.fr aL Ng nc;obtain⟨hx,o,cd,hKl,hcd,hmro⟩:=hW _ H' wq;refine wpAny_handleBy_cons (codeAny_handlers_test (iP (X:=Cx.hnd X pins a oe) J2 hg hy ?_ hdb)) (by intro q;cases q);refine ve (K:=X.K) (mg:=X.mg) (y:=y) (hx _ I2.X8) (r9 I2.X8 hy hy2) he hc.1 (λo' cd' e1 e2=>?_) ?_
 ·have:=I2.X8 _ _ hKl;rw[this] at e1;lia
 show codeAny _ _ _ _ _;refine codeAny_handlers_suite_as ?_;refine kQ (P:=X.prog) (w:=X.w) (fs:=frs X.stack) (n:=s1.heap) (fv:=none) (λb z=>?_) S8 Pr λh3 nt3=>?_
 ·obtain⟨_,o,ho,hnf⟩:=I2.stack.mem z;exact⟨o,ho,hnf⟩
 obtain⟨⟨ch3,Qo,un4⟩,Qs,Nk,sz3⟩:=nt3;have Ro:Un (frs X.stack) [] H1 H' s1.heap h3:=Un.noted Ox un4 (λ_ _ _ z=>z) (λ_ z=>z) λc hc=>(Qo c hc).1;have I3:L2.Inv X pins O H' { s' with heap:=h3 }:=I.call' (s':={ s' with heap:=h3 }) (ch:=[]) os Ro Qs bare λb z=>by cases z
 obtain⟨Rf,vs3,he3,hc3,hd3,_⟩:=id Nk.obj;have nc3:∀v,Rf.data≠.cell v:=λv z=>by lia
 have J3:=Inv.hnd I3 he3 Nk.fr aL Ng nc3;refine gk (X:=Cx.hnd X pins a Rf) (v:=.ref a) J3 hN hj (.inl hk) rfl (λs4 J4=>?_) (.inr hk);refine wpAny_mono (hs a _ H' Rf s4 wq hc3 ⟨vs3,hd3⟩ J4) (λf s5 z=>?_) λ_ _ z=>ac z;cases f with
 | next =>obtain⟨O5,H5,J5,z⟩:=z;exact yp (Inv.Vl I3.ok J5) hN hj hk hkk λs6 I6=>⟨_,_,I6,z⟩
 | brk=>obtain⟨_,_,_,z⟩:=z;exact ac z
 | cont=>obtain⟨_,_,_,z⟩:=z;exact ac z
 | ret u =>obtain⟨v5,O5,H5,J5,r5,z⟩:=z;exact yp (Inv.Vl I3.ok J5) hN hj hk hkk λs6 I6=>⟨v5,_,_,I6,r5,z⟩
open PySem.W (findIn mroIn typeIn clsIn looks_findIn looks_mroIn looks_typeIn)
structure Wu (K:W.Frag)(C:Addr):Prop where
 ga:findIn K (.ref C) "__getattribute__"=some (some (.builtin "BaseException.__getattribute__"))
 gt:findIn K (.ref C) "__getattr__"=some none
 cl:findIn K (.ref C) "__class__"=some (some (.builtin "object.__class__"))
 ob:mroIn K C (.type "object")=some true
 be:mroIn K C (.type "BaseException")=some true
 ty:typeIn K (.ref C)=some (.type "type")
 cd:∃cd,clsIn K C=some cd
section
variable {prog:Program}{w:World}{A:Around}{E:Value->Shared->Prop}{h:Heap}{g:Array GenState}{d:Drawn}{t:Nat}{os:OsState}{a C:Addr}{o:Obj}{K:W.Frag}
def DG {R:Result->Shared->Prop}(X:K.In h)(F:Wu K C)(hx:h.get? a=some o)(hc:o.cls=.ref C)(hq:R (.ok (.ret (.ref C))) ⟨h,g,d,t,os⟩) :
  codeAny (model prog w) A (.call (.builtin "getset_descriptor.__get__") ⟨[.builtin "object.__class__",.ref a,.ref C],[]⟩) R ⟨h,g,d,t,os⟩:=by
 have hT5:(⟨h,g,d,t,os⟩:Shared).TypeIs (.builtin "object.__class__") "getset_descriptor":=PD;have L:W.Looks (model prog w) h (isSubtype (.ref C) (.type (".".intercalate ("object.__class__".cutAt '.').dropLast))) true:=by rw [PySem.F.owner_object_class];exact looks_mroIn X F.ob
 refine codeAny_call_builtin PySem.F.slot_gs_get.plain PySem.F.entry_gs_get (PySem.F.slot_gs_get.check _ _ _ _ _ _ _ _ hT5 (PySem.F.args_gs_get _ _ _) ?_)
 repeat (any_goals (first|assumption|(with_reducible refine wpAny_loadPart_at hx ?_;rw[hc])|with_reducible refine OG L ?_|wp_step))
 refine⟨Code.quiet_builtin _ (by decide +kernel),codeAny_builtin PySem.F.entry_object_class ?_⟩
 repeat (any_goals (first|assumption|(with_reducible refine wpAny_loadPart_at hx ?_;rw[hc])|wp_step))
def zm {tk:Tok}{Q:Fin->Shared->Prop}(X:K.In h)(F:Wu K C)(hx:h.get? a=some o)(hc:o.cls=.ref C)(hq:Q (.done (.ret (.ref C))) ⟨h,g,d,t,os⟩) :
  wpAny (model prog w) A (Builtin.«object.__getattribute__» ⟨[.ref a,.str "__class__" tk],[]⟩) Q E ⟨h,g,d,t,os⟩:=by
 have hT5:(⟨h,g,d,t,os⟩:Shared).TypeIs (.builtin "object.__class__") "getset_descriptor":=PD;have L:=looks_findIn (M:=model prog w) X F.cl;have f5:=PD;have f6:=PySem.F.slot_gs_get.lookup;have f7:=PySem.F.slot_gs_set.lookup
 repeat (any_goals (first|assumption|(with_reducible refine wpAny_loadPart_at hx ?_;rw[hc])|with_reducible refine OG L ?_|wp_step))
 refine DG X F hx hc ?_
 solve_by_elim
def y7 {M:Model}{nameV:Value}{Q:Unit->Shared->Prop}(X:K.In h)(F:Wu K C)(hx:h.get? a=some o)(hc:o.cls=.ref C)(hq:Q () ⟨h,g,d,t,os⟩):wpAny M A (checkBuiltinCall "BaseException.__getattribute__" ⟨[.ref a,nameV],[]⟩) Q E ⟨h,g,d,t,os⟩:=by
 have hk:builtinKind "BaseException.__getattribute__"=some .slot:=by decide +kernel
 have hsplit:splitId "BaseException.__getattribute__"=some ("BaseException","__getattribute__"):=by decide +kernel
 have L:=looks_mroIn (M:=M) X F.be;have ha:=PySem.F.args_bexc_ga (.ref a) nameV;simp only[checkBuiltinCall,hk,hsplit];refine MA ?_;unfold isInstance
 repeat (first|(with_reducible refine wpAny_loadPart_at hx ?_;rw[hc])|with_reducible refine OG L ?_|wp_step)
 exact hq
def Bf {tk:Tok}{R:Result->Shared->Prop}(X:K.In h)(F:Wu K C)(hx:h.get? a=some o)(hc:o.cls=.ref C)(hq:R (.ok (.ret (.ref C))) ⟨h,g,d,t,os⟩) :
  codeAny (model prog w) A (.call (.builtin "BaseException.__getattribute__") ⟨[.ref a,.str "__class__" tk],[]⟩) R ⟨h,g,d,t,os⟩ :=
 codeAny_call_builtin PySem.F.attrBase_ValueError.ga.plain PySem.F.entry_bexc_ga (y7 X F hx hc (zm X F hx hc hq))
def HH {tk:Tok}{Q:Value->Shared->Prop}(X:K.In h)(F:Wu K C)(hx:h.get? a=some o)(hc:o.cls=.ref C)(hq:Q (.ref C) ⟨h,g,d,t,os⟩) :
  wpAny (model prog w) A (getAttrBy (.ref a) (.str "__class__" tk) false) Q E ⟨h,g,d,t,os⟩:=by
 have f3:=PySem.F.attrBase_ValueError.ga.bind (.ref a);have hx2:(Value.builtin "BaseException.__getattribute__" == Value.builtin "object.__getattribute__")=false:=by decide +kernel
 have hx1:(onTheHeap (Value.ref C) && Value.builtin "BaseException.__getattribute__" == Value.builtin "object.__getattribute__")=false:=by rw [hx2];rfl
 have L1:=looks_findIn (M:=model prog w) X F.ga;have L2:=looks_findIn (M:=model prog w) X F.gt
 repeat (any_goals (first|assumption|(with_reducible refine wpAny_loadPart_at hx ?_;rw[hc])|with_reducible refine OG L1 ?_|with_reducible refine OG L2 ?_|wp_step))
 refine Bf X F hx hc ?_
 solve_by_elim
def AW {Q:Option Value->Shared->Prop}(X:K.In h)(F:Wu K C)(hx:h.get? a=some o)(hc:o.cls=.ref C)(hq:Q (some (.ref C)) ⟨h,g,d,t+1,os⟩):wpAny (model prog w) A (getAttr? (.ref a) "__class__") Q E ⟨h,g,d,t,os⟩:=by
 unfold getAttr? getAttrBy?
 repeat (any_goals (first|assumption|with_reducible apply HH X F hx hc|wp_step))
def y8 {C':Addr}{dep:Int}{tk:Tok}{Q:Fin->Shared->Prop}(X:K.In h)(F:Wu K C)(F':Wu K C')(hx:h.get? a=some o)(hc:o.cls=.ref C)(hn:mroIn K C (.ref C')=some false)(hne:C≠C')(hq:Q (.done (.ret (.bool false))) ⟨h,g,d,t+1,os⟩) :
  wpAny (model prog w) A (Builtin.«isinstance.nested» ⟨[.ref a,.ref C',.int dep tk],[]⟩) Q E ⟨h,g,d,t,os⟩:=by
 have hne':(Value.ref C == Value.ref C')=false:=by simpa using hne
 have L1:=looks_typeIn (M:=model prog w) X F'.ty;have L2:=looks_mroIn (M:=model prog w) X hn;obtain⟨cd',e'⟩:=F'.cd;obtain⟨cd,e⟩:=F.cd;unfold clsIn at e e';split at e'
 rotate_left
 ·cases e'
 split at e
 rotate_left
 ·cases e
 rename_i c1 d1 k1 sl1 hl1 _ c2 d2 k2 sl2 hl2;have ho1:=X _ _ hl1;have ho2:=X _ _ hl2
 repeat (any_goals (first|assumption|(with_reducible refine wpAny_loadPart_at hx ?_;rw[hc])|with_reducible refine OG L1 ?_|with_reducible refine OG L2 ?_|with_reducible apply AW X F hx hc|wp_step))
def AX {C':Addr}{dep:Int}{tk:Tok}{Q:Fin->Shared->Prop}(X:K.In h)(F':Wu K C')(hx:h.get? a=some o)(hc:o.cls=.ref C)(hn:mroIn K C (.ref C')=some true)(hq:Q (.done (.ret (.bool true))) ⟨h,g,d,t,os⟩) :
  wpAny (model prog w) A (Builtin.«isinstance.nested» ⟨[.ref a,.ref C',.int dep tk],[]⟩) Q E ⟨h,g,d,t,os⟩:=by
 have L1:=looks_typeIn (M:=model prog w) X F'.ty;have L2:=looks_mroIn (M:=model prog w) X hn;obtain⟨cd',e'⟩:=F'.cd;unfold clsIn at e';split at e'
 rotate_left
 ·cases e'
 rename_i c1 d1 k1 sl1 hl1;have ho1:=X _ _ hl1;by_cases hne:C=C'
 ·subst hne;have hne':(Value.ref C == Value.ref C)=true:=by simp
  repeat (any_goals (first|assumption|(with_reducible refine wpAny_loadPart_at hx ?_;rw[hc])|wp_step))
 ·have hne':(Value.ref C == Value.ref C')=false:=by simpa using hne
  repeat (any_goals (first|assumption|(with_reducible refine wpAny_loadPart_at hx ?_;rw[hc])|with_reducible refine OG L1 ?_|with_reducible refine OG L2 ?_|wp_step))
def AZ {T:String}{dep:Int}{tk:Tok}{Q:Fin->Shared->Prop}(X:K.In h)(hx:h.get? a=some o)(hc:o.cls=.ref C)(hn:mroIn K C (.type T)=some true)(hty:typeOf (.type T)=pure (.type "type"))(hq:Q (.done (.ret (.bool true))) ⟨h,g,d,t,os⟩) :
  wpAny (model prog w) A (Builtin.«isinstance.nested» ⟨[.ref a,.type T,.int dep tk],[]⟩) Q E ⟨h,g,d,t,os⟩:=by
 have L2:=looks_mroIn (M:=model prog w) X hn;have hne':(Value.ref C == Value.type T)=false:=by simp
 repeat (any_goals (first|assumption|(with_reducible refine wpAny_loadPart_at hx ?_;rw[hc])|with_reducible refine OG L2 ?_|wp_step))
variable {s:Shared}{Q:Value->Shared->Prop}
def sv {C':Addr}(X:K.In s.heap)(F':Wu K C')(hx:s.heap.get? a=some o)(hc:o.cls=.ref C)(hn:mroIn K C (.ref C')=some true)(hq:Q (.bool true) s):wpAny (model prog w) A (call (.builtin "isinstance") [.ref a,.ref C']) Q E s :=
 call_isinstance (S:=λ_ R s=>(K.In s.heap/\s.heap.get? a=some o)/\R (.ok (.ret (.bool true))) s) (λ_ _ _ _ s hs=>by obtain⟨h,g,d,t,os⟩:=s;exact isinstance_outer (AX hs.1.1 F' hs.1.2 hc hn hs.2) (by simp)) ⟨⟨X,hx⟩,hq⟩
def pE {T:String}(X:K.In s.heap)(hx:s.heap.get? a=some o)(hc:o.cls=.ref C)(hn:mroIn K C (.type T)=some true)(hty:typeOf (.type T)=pure (.type "type"))(hq:Q (.bool true) s):wpAny (model prog w) A (call (.builtin "isinstance") [.ref a,.type T]) Q E s :=
 call_isinstance (S:=λ_ R s=>(K.In s.heap/\s.heap.get? a=some o)/\R (.ok (.ret (.bool true))) s) (λ_ _ _ _ s hs=>by obtain⟨h,g,d,t,os⟩:=s;exact isinstance_outer (AZ hs.1.1 hs.1.2 hc hn hty hs.2) (by simp)) ⟨⟨X,hx⟩,hq⟩
def PIs (K:W.Frag)(a:Addr)(o:Obj)(s:Shared):Prop:=K.In s.heap/\s.heap.get? a=some o
end
end FW
namespace FW
open L2 HX
open PySem.W (findIn mroIn typeIn clsIn)
structure XT (K:W.Frag)(mg:Str->Option Value)(xs ys:List Str)(ca da:Nat->Addr)(rel:Nat->Nat->Bool):Prop where
 y:∀i x,ys[i]?=some x->mg x=some (.ref (da i))/\Wu K (da i)
 x:∀k,k<xs.length->Wu K (ca k)/\mroIn K (ca k) (.type "ValueError")=some true
 rl:∀k i,k<xs.length->i<ys.length->mroIn K (ca k) (.ref (da i))=some (rel k i)/\(rel k i=false->ca k≠da i)
inductive HA where
 | RV|iso (i:Nat)
noncomputable def hv (rel:Nat->Bool)(Z:Fr):HA->Option PV
 | .RV=>some (.bl true)
 | .iso i=>some (.bl (rel i))
noncomputable def hvs (rel:Nat->Bool)(Z:Fr):List HA->Option (List PV)
 | []=>some []
 | a::as=>match hv rel Z a,hvs rel Z as with
  | some v,some vs=>some (v::vs)
  | _,_=>none
noncomputable def BF (x:Expr)(f:Str->Str->Expr->Bool):Bool:=gB x λg as=>Uw as λe r=>aK e λy _=>f g y r
def qM {x:Expr}{f:Str->Str->Expr->Bool}(h:BF x f=true):∃g gp e ep r p,x=.Call (.Name g gp) [.Name e ep,r] [] p/\f g e r=true:=by replace h:=du h;obtain⟨g,gp,as,cp,rfl,h⟩:=h;replace h:=iV h;obtain⟨a,r,rfl,h⟩:=h;replace h:=ak h;obtain⟨y,q,rfl,h⟩:=h;exact⟨_,_,_,_,_,_,rfl,h⟩
noncomputable def JG (c:Cfg)(ys:List Str)(j:Nat):HA->Expr->Bool
 | .RV,x=>BF x λg e r=>aK r λz _=>g == ("isinstance":Str) && c.blt g && c.N[j]? == some e && c.XH e && z == ("ValueError":Str) && c.blt z
 | .iso i,x=>BF x λg e r=>aK r λz _=>g == ("isinstance":Str) && c.blt g && c.N[j]? == some e && c.XH e && ys[i]? == some z && c.X7 z
noncomputable def yz (c:Cfg)(ys:List Str)(j:Nat):List HA->List Expr->Bool
 | [],xs=>xs.isEmpty
 | a::as,xs=>c_ xs λx r=>ao x && JG c ys j a x && yz c ys j as r
section
variable {X:Cx}{c:Cfg}{U:Nat->ZX}{xs ys:List Str}{ca da:Nat->Addr}{rel:Nat->Nat->Bool}{k j:Nat}{pins:List (Addr × Obj)}{ad:Addr}{o:Obj}
def J':typeOf (.type "ValueError")=pure (.type "type"):=by first|rfl|(simp[typeOf];rfl)|kernel_rfl
def Ez:bootBuiltins ("ValueError":Str)=some (.type "ValueError"):=by decide +kernel
noncomputable def THx (K:W.Frag)(j:Nat)(ad:Addr)(f:Fr->Option PV):TE:=λO H Q=>O[j]?=some (some (.ref ad))/\∃m Z st v,RF K m H Z O/\RH K m H st/\f Z=some v/\post K m H Q v st
noncomputable def THs (K:W.Frag)(j:Nat)(ad:Addr)(f:Fr->Option (List PV)):TA:=λO H Q=>O[j]?=some (some (.ref ad))/\∃m Z st v,RF K m H Z O/\RH K m H st/\f Z=some v/\GW K m H Q v st
def K4 (C:ZD X.Zi c U)(T:XT X.K X.mg xs ys ca da rel)(hk:k<xs.length)(hc:o.cls=.ref (ca k)):∀(a:HA) (x:Expr),JG c ys j a x=true->PE (Cx.hnd X pins ad o) x (THx X.K j ad λZ=>hv (rel k) Z a)
 | .RV,x,h=>by
  replace h:=qM h;obtain⟨g,gp,e,ep,r,p,rfl,h⟩:=h;replace h:=ak h;obtain⟨z,zp,rfl,h⟩:=h;simp only[bi,beq_iff_eq] at h;obtain⟨⟨⟨⟨⟨h1,h2⟩,h3⟩,h4⟩,h5⟩,h6⟩:=h;subst h1 h5;obtain⟨a1,a2,a3,a4⟩:=C.Ys h2;obtain⟨b1,b2,b3,b4⟩:=C.Ys h6;obtain⟨v1,v2,v3⟩:=C.WN h4;rintro ps s O H Q I ⟨hj,m,Z,st,v,rf,rh,e,w⟩;cases e;have hA:PA (Cx.hnd X pins ad o) [.Name _ ep,.Name ("ValueError":Str) zp] (eQ (Eg j) (eQ (tC (.ty "ValueError")) kH)):=Yy (o_ (X:=Cx.hnd X pins ad o) (by have:=C.N;simp_all) v1 v2 v3) (Yy (xT (X:=Cx.hnd X pins ad o) b1 b4 Ez rfl b3 b2) bD rfl) rfl;have hC:cH (Cx.hnd X pins ad o) (.builtin "isinstance") (λxs H Q=>xs=[.ref ad,.ty "ValueError"]/\Q (.bl true) H):=by rintro ps s O H xs us Q I r ⟨rfl,q⟩;obtain⟨u,v,rfl,ru,rv⟩:=jV r;cases (show u=Value.ref ad from ru);cases (show v=Value.type "ValueError" from rv);exact pE (K:=X.K) I.X8 (I.pin (ad,o) (.head _)).1 hc (T.x k hk).2 J' ⟨.bl true,H,I,rfl,q⟩
  refine ff (X:=Cx.hnd X pins ad o) hC a1 a4 iG hA a3 a2 rfl rfl ps s O H Q I ?_;exact⟨.ref ad,hj,rfl,w.here rh (ZW.mpr rfl)⟩
 | .iso i,x,h=>by
  replace h:=qM h;obtain⟨g,gp,e,ep,r,p,rfl,h⟩:=h;replace h:=ak h;obtain⟨z,zp,rfl,h⟩:=h;simp only[bi,beq_iff_eq] at h;obtain⟨⟨⟨⟨⟨h1,h2⟩,h3⟩,h4⟩,h5⟩,h6⟩:=h;subst h1;obtain⟨a1,a2,a3,a4⟩:=C.Ys h2;obtain⟨b1,b2,b3⟩:=C.Xd h6;obtain⟨v1,v2,v3⟩:=C.WN h4;have hi:=(MT.mp h5).1;rintro ps s O H Q I ⟨hj,m,Z,st,v,rf,rh,e,w⟩;cases e;have hA:PA (Cx.hnd X pins ad o) [.Name _ ep,.Name z zp] (eQ (Eg j) (eQ (tC (.ref (da i))) kH)):=Yy (o_ (X:=Cx.hnd X pins ad o) (by have:=C.N;simp_all) v1 v2 v3) (Yy (sD (X:=Cx.hnd X pins ad o) (v:=.ref (da i)) b1 (T.y i z h5).1 rfl b2) bD rfl) rfl;have hC:cH (Cx.hnd X pins ad o) (.builtin "isinstance") (λxs H Q=>xs=[.ref ad,.ref (da i)]/\Q (.bl (rel k i)) H):=by
   rintro ps s O H xs us Q I r ⟨rfl,q⟩;obtain⟨u,v,rfl,ru,rv⟩:=jV r;cases (show u=Value.ref ad from ru);cases (show v=Value.ref (da i) from rv);obtain⟨e1,e2⟩:=T.rl k i hk hi;cases hr:rel k i with
   | true=>rw[hr] at e1 q;exact sv (K:=X.K) I.X8 (T.y i z h5).2 (I.pin (ad,o) (.head _)).1 hc e1 ⟨.bl true,H,I,rfl,q⟩
   | false =>
    rw[hr] at e1 q;exact call_isinstance (S:=λ_ R s=>PIs X.K ad o s/\∀tk,R (.ok (.ret (.bool false))) { s with toks:=tk }) (λ_ _ _ _ s hs=>by obtain⟨h,g,d,t,os⟩:=s;exact isinstance_outer (y8 hs.1.1 (T.x k hk).1 (T.y i z h5).2 hs.1.2 hc e1 (e2 hr) (hs.2 (t+1))) (by simp)) ⟨⟨I.X8,(I.pin (ad,o) (.head _)).1⟩,λtk=>⟨.bl false,H,I.tok tk,rfl,q⟩⟩
  refine ff (X:=Cx.hnd X pins ad o) hC a1 a4 iG hA a3 a2 rfl rfl ps s O H Q I ?_;exact⟨.ref ad,hj,rfl,w.here rh (ZW.mpr rfl)⟩
theorem wJ (C:ZD X.Zi c U)(T:XT X.K X.mg xs ys ca da rel)(hk:k<xs.length)(hc:o.cls=.ref (ca k)):∀(as:List HA) (zs:List Expr),yz c ys j as zs=true->PA (Cx.hnd X pins ad o) zs (THs X.K j ad λZ=>hvs (rel k) Z as)
 | [],zs,h=>by
  have h:zs.isEmpty=true:=h;cases zs with
  | nil =>rintro pos ps s O H Q I ⟨_,m,Z,st,v,rf,rh,e,w⟩;cases e;exact bD pos ps s O H Q I (w m H [] (Ext.refl _ _ _) rh (Z5.mpr rfl))
  | cons _ _=>cases h
 | a::as,zs,h=>by
  replace h:=aG h;obtain⟨x,r,rfl,h⟩:=h;simp only[bi] at h;obtain⟨⟨h1,h2⟩,h3⟩:=h;rintro pos ps s O H Q I ⟨hj,m,Z,st,v,rf,rh,e,w⟩;have e:(match hv (rel k) Z a,hvs (rel k) Z as with
   | some v,some vs=>some (v::vs)
   | _,_=>none)=some v:=e
  cases e1:hv (rel k) Z a with
  | none=>simp_all
  | some u =>
   cases e2:hvs (rel k) Z as with
   | none=>simp_all
   | some us =>rw[e1,e2] at e;cases e;refine Yy (K4 C T hk hc a x h2) (wJ C T hk hc as r h3) h1 pos ps s O H Q I ⟨hj,m,Z,st,u,rf,rh,e1,λm1 H1 y x1 r1 r2=>⟨hj,m1,Z,st,us,rf.mono x1,r1,e2,λm2 H2 ys x2 r3 r4=>?_⟩⟩;exact w m2 H2 _ (x1.trans x2) r3 (Z7.mpr ⟨r2.mono x2,r4⟩)
end
end FW
namespace FW
open L2 HX
open PySem.W (findIn mroIn typeIn clsIn)
inductive Wt where
 | nil|st (s:S) (r:Wt)
 | T_ (f:Nat) (es:Es) (i j:Nat) (a1 a2:List HA) (r:Wt)
noncomputable def fG (U UR:Nat->ZX)(n:Nat)(rel:Nat->Nat->Bool):Wt->Fr->AH->aQ->Prop
 | .nil,Z,st,D=>D.nx Z st
 | .st s r,Z,st,D=>wpS U s Z st { D with nx:=λZ1 st1=>fG U UR n rel r Z1 st1 D }
 | .T_ f es i j a1 a2 r,Z,st,D=>bT U es Z st λvs st1=>UR f vs st1 (il (λv st2=>fG U UR n rel r Z st2 D) λk _ st2=>k<n/\rel k 0=true/\i<Z.length/\∃b1 b2,(∀Z,hvs (rel k) Z a1=some b1)/\(∀Z,hvs (rel k) Z a2=some b2)/\b1.length+b2.length<=100 /\
   D.rt (.ref (st2.length+2)) (st2++[.lst b1]++[.lst b2]++[.lst (b1++b2)]))
theorem f_ {U UR:Nat->ZX}{n:Nat}{rel:Nat->Nat->Bool}(G:bj U)(G':bj UR):∀(s:Wt) {Z:Fr}{st:AH}{D D':aQ},gS D D'->fG U UR n rel s Z st D->fG U UR n rel s Z st D'
 | .nil,Z,st,D,D',hD,h=>hD.nx _ _ h
 | .st s r,Z,st,D,D',hD,h=>by
  rw[fG] at h |-
  exact wpS_mono G s (D:={ D with nx:=λZ1 st1=>fG U UR n rel r Z1 st1 D }) (D':={ D' with nx:=λZ1 st1=>fG U UR n rel r Z1 st1 D' }) ⟨λ_ _ z=>f_ G G' r hD z,hD.rt⟩ h
 | .T_ f es i j a1 a2 r,Z,st,D,D',hD,h=>by
  rw[fG] at h |-
  exact aD G es (λvs st1 z=>G' _ _ _ _ _ (bU (λv st2 z=>f_ G G' r hD z) λk kv st2 ⟨a,b,c,b1,b2,e1,e2,e3,d⟩=>⟨a,b,c,b1,b2,e1,e2,e3,hD.rt _ _ d⟩) z) h
noncomputable def CW (x:Stmt)(f:List Stmt->List ExceptHandler->Bool):Bool:=match x with | .Try b hs [] [] _=>f b hs|_=>false
def zV {x:Stmt}{f:List Stmt->List ExceptHandler->Bool}(h:CW x f=true):∃b hs p,x=.Try b hs [] [] p/\f b hs=true:=by unfold CW at h;grind
noncomputable def Jo (x:ExceptHandler)(f:Expr->Option Str->List Stmt->Bool):Bool:=match x with | .ExceptHandler (some e) n ss _=>f e n ss|_=>false
def BM {x:ExceptHandler}{f:Expr->Option Str->List Stmt->Bool}(h:Jo x f=true):∃e n ss p,x=.ExceptHandler (some e) n ss p/\f e n ss=true:=by unfold Jo at h;grind
noncomputable def xA (x:Expr)(f:Str->Expr->List Expr->Bool):Bool:=gB x λg as=>c_ as λa r=>f g a r
def vj {x:Expr}{f:Str->Expr->List Expr->Bool}(h:xA x f=true):∃g gp a as p,x=.Call (.Name g gp) (a::as) [] p/\f g a as=true:=by replace h:=du h;obtain⟨g,gp,as,cp,rfl,h⟩:=h;replace h:=aG h;obtain⟨a,r,rfl,h⟩:=h;exact⟨_,_,_,_,_,rfl,h⟩
noncomputable def CT (x:Stmt)(f:Expr->Expr->Str->Stmt->Stmt->Bool):Bool:=CW x λb hs=>X_ b λb=>Ih b λv=>X_ hs λk=>Jo k λe n ss=>eU n λn=>Uw ss λs1 s2=>f v e n s1 s2
def wm {x:Stmt}{f:Expr->Expr->Str->Stmt->Stmt->Bool}(h:CT x f=true):∃v vp e n s1 s2 hp pos,x=.Try [.Expr v vp] [.ExceptHandler (some e) (some n) [s1,s2] hp] [] [] pos/\f v e n s1 s2=true:=by replace h:=zV h;obtain⟨b,hs,p,rfl,h⟩:=h;replace h:=br h;obtain⟨b,rfl,h⟩:=h;replace h:=uu h;obtain⟨v,vp,rfl,h⟩:=h;replace h:=br h;obtain⟨k,rfl,h⟩:=h;replace h:=BM h;obtain⟨e,n,ss,q,rfl,h⟩:=h;replace h:=bM h;obtain⟨n,rfl,h⟩:=h;replace h:=iV h;obtain⟨s1,s2,rfl,h⟩:=h;exact⟨_,_,_,_,_,_,_,_,rfl,h⟩
noncomputable def A1 (c:Cfg)(ys:List Str)(i j:Nat)(a1 a2:List HA)(s1 s2:Stmt):Bool :=
 nW s1 (λt v=>aK t (λy _=>c.N[i]? == some y && c.loc y) && kW v λzs=>yz c ys j a1 zs) &&
 Bv s2 λv=>eU v λv=>uD v λl o w=>o == .Add && aK l (λy _=>c.N[i]? == some y && c.XH y) && kW w λzs=>yz c ys j a2 zs
noncomputable def jS (c:Cfg)(F:Xf)(ys:List Str):Wt->List Stmt->Bool
 | .nil,x=>x.isEmpty
 | .st s r,x=>c_ x λy z=>Ec c s y && jS c F ys r z
 | .T_ f es i j a1 a2 r,x=>c_ x λy z=>CT y (λv e n s1 s2=>aK e (λq _=>ys[0]? == some q && c.X7 q) && c.N[j]? == some n && c.names.lookup n == some .local && i != j && A1 c ys i j a1 a2 s1 s2
   && xA v λg a as=>c.fn f g && F.rz.contains f && ao a && as.all ao && dO c es (a::as)) && jS c F ys r z
section
variable {X:Cx}{c:Cfg}{F:Xf}{U UR:Nat->ZX}{ca:CA}{da:Nat->Addr}{rel:Nat->Nat->Bool}{ys:List Str}{pins:List (Addr × Obj)}{E:Value->Shared->Prop}
theorem XG.Uh {P:Program}{w:World}{K:W.Frag}{mg:Str->Option Value}{base:Heap}(G:XG P w K mg base c F UR ca){k:Nat}{x:Str}(e:F.xs[k]?=some x):∀h,K.In h->Dw h (ca k):=λh X=>by obtain⟨e1,e2⟩:=G.cls k x e;exact OwnCls.Uh (r9 X e1 e2)
def Inv.Ti {ps:List (Addr × Obj)}{O:L2.St}{H:Hp}{s:Shared}(I:L2.Inv (Cx.pin X pins E) ps O H s):L2.Inv X.Zi (pins++ps) O H s :=
 ⟨⟨I.ok.mod,I.ok.kind,I.ok.glob,I.ok.blt,I.ok.above,I.ok.inj,I.ok.has,I.ok.cab,I.ok.hd,I.ok.frames,I.ok.stk,I.ok.VD,I.ok.bs,I.ok.WW,I.ok.Yo,I.ok.Yl,I.ok.Y4,I.ok.Wm⟩,I.os,I.bare,I.base,I.loc,I.cell,I.free,I.ZF,λp hp=>I.pin p (by simp[*]),I.hok,I.len⟩
def Inv.Th {ps:List (Addr × Obj)}{O:L2.St}{H:Hp}{s:Shared}(I:L2.Inv X.Zi (pins++ps) O H s):L2.Inv (Cx.pin X pins E) ps O H s :=
 ⟨⟨I.ok.mod,I.ok.kind,I.ok.glob,I.ok.blt,I.ok.above,I.ok.inj,I.ok.has,I.ok.cab,I.ok.hd,I.ok.frames,I.ok.stk,I.ok.VD,I.ok.bs,I.ok.WW,I.ok.Yo,I.ok.Yl,I.ok.Y4,I.ok.Wm⟩,I.os,I.bare,I.base,I.loc,I.cell,I.free,I.ZF,λp hp=>I.pin p (by rw[<-MZ];exact hp),I.hok,I.len⟩
theorem PA.pin {es:List Expr}{t:TA}(h:PA X.Zi es t):PA (Cx.pin X pins E) es t:=λpos ps s O H Q I w =>
 wpAny_mono (h pos (pins++ps) s O H Q (Inv.Ti I) w) (λ_ _ ⟨v,H',I',r,q⟩=>⟨v,H',Inv.Th I',r,q⟩) λ_ _ z=>ac z
def RF.Rm {K:W.Frag}{m:List Addr}{H:Hp}{Z:Fr}{O:L2.St}(h:RF K m H Z O)(j:Nat)(x:Option V):RF K m H (Z.set j none) (O.set j x):=by
 refine⟨by simp[h.len],λi v e=>?_⟩;by_cases hj:j=i
 ·subst hj;rw[QU] at e
  simp_all
 ·rw[NJ hj] at e |-
  exact h.at_ i v e
def Kb {xs:List Str}{cb:Nat->Addr}{k i j:Nat}{ad:Addr}{o:Obj}{a1 a2:List HA}{s1 s2:Stmt}(C:ZD X.Zi c U)(T:XT X.K X.mg xs ys cb da rel)(hk:k<xs.length)(hc:o.cls=.ref (cb k))(hij:i≠j)(h:A1 c ys i j a1 a2 s1 s2=true) :
  Xk (Cx.hnd X pins ad o) [s1,s2] (λD O H=>O[j]?=some (some (.ref ad))/\∃m Z st b1 b2,RF X.K m H Z O/\RH X.K m H st/\i<Z.length/\(∀Z,hvs (rel k) Z a1=some b1)/\(∀Z,hvs (rel k) Z a2=some b2)/\b1.length+b2.length<=100 /\
   post X.K m H D.rt (.ref (st.length+2)) (st++[.lst b1]++[.lst b2]++[.lst (b1++b2)])):=by
 replace h:=(MG _ _).mp h;obtain⟨h1,h2⟩:=h;replace h1:=fg h1;obtain⟨t1,v1,p1,rfl,h1⟩:=h1;rw[MG] at h1;obtain⟨h1,h3⟩:=h1;replace h1:=ak h1;obtain⟨y1,q1,rfl,h1⟩:=h1;replace h3:=fE h3;obtain⟨z1,q2,rfl,h3⟩:=h3;replace h2:=qg h2;obtain⟨v2,p2,rfl,h2⟩:=h2;replace h2:=bM h2;obtain⟨v2,rfl,h2⟩:=h2;replace h2:=iW h2;obtain⟨l2,o2,w2,q3,rfl,h2⟩:=h2;simp only[bi,beq_iff_eq] at h1 h2;obtain⟨⟨rfl,h4⟩,h5⟩:=h2;replace h4:=ak h4;obtain⟨y4,q4,rfl,h4⟩:=h4;rw[MG,OO] at h4;replace h5:=fE h5;obtain⟨z2,q5,rfl,h5⟩:=h5;have NN:∀ {i:Nat}{y:Str},c.N[i]?=some y->X.N[i]?=some y:=λz=>by rw[show X.N=c.N from C.N];exact z
 obtain⟨g1,g2⟩:=C.Xv h1.2;obtain⟨u1,u2,u3⟩:=C.WN h4.2;have S1:=sZ (X:=Cx.hnd X pins ad o) (i:=i) (pos:=p1) (pos':=q1) C.VJ (NN h1.1) g1 (oU (pos:=q2) (wJ (pins:=pins) (ad:=ad) C T hk hc a1 z1 h3)) (cf rfl) g2;have S2:=B_ (X:=Cx.hnd X pins ad o) (pos:=p2) (Bq (pos:=q3) (wb .Add) (o_ (X:=Cx.hnd X pins ad o) (pos:=q4) (NN h4.1) u1 u2 u3) (oU (pos:=q5) (wJ (pins:=pins) (ad:=ad) C T hk hc a2 z2 h5)));rintro ps s O H D I ⟨hj,m,Z,st,b1,b2,rf,rh,hl,e1,e2,hlen,w⟩;refine oz S1 (oz S2 yA) ps s O H D I ?_;have small:∀ {l:Nat},l<=100->l<=sizeLine:=λz=>MX z (by rw[sizeLine_eq];decide);refine⟨hj,m,Z,st,b1,rf,rh,e1 Z,λm1 H1 Vy x1 r1 k1=>⟨by rw[<-k1.len];exact small (by lia),λp hp=>?_⟩⟩;have x2:=Ext.new1 (o:=.lst Vy) r1 hp;refine⟨.ref p,by rw[NG (by rw[<-rf.len];exact hl)],by simp[*],m1++[p],_,st++[.lst b1],b2,((rf.mono x1).mono x2).set i (R.last (p:=p) r1.len),r1.newL hp k1,e2 _,λm3 H3 xs3 x3 r3 k3=>⟨by rw[<-k3.len];exact small (by lia),λp4 Ny=>?_⟩⟩;have x4:=Ext.new1 (o:=.lst xs3) r3 Ny;refine⟨m3++[p4],st++[.lst b1]++[.lst b2],.ref st.length,.ref (st.length+1),r3.newL Ny k3,((R.last (K:=X.K) (H:=upd H1 p (.lst Vy)) (p:=p) r1.len).mono x3).mono x4,R.last (by rw[r3.len];simp),b1,b2,by simp,by simp,by lia,λm5 H5 x5 y5 r5 k5=>?_⟩;have ln:(st++[Cell.lst b1]++[Cell.lst b2]).length=st.length+2:=by simp
 rw[ln] at k5;exact w m5 _ _ ((((x1.trans x2).trans x3).trans x4).trans y5) r5 k5
def EM (C:ZD X.Zi c U)(G:XG X.prog X.w X.K X.mg X.base c F UR ca)(T:XT X.K X.mg F.xs ys ca da rel)(hE:W.excIn X.K (da 0) iA "ValueError.__new__"=true)(hst:X.stack=X.env::X.outer)(hfr:X.env.frame=some X.env.locals)
  {i j f:Nat}{es:Es}{a1 a2:List HA}{q n g:Str}{a:Expr}{as:List Expr}{s1 s2:Stmt}{p0 p1 p2 p4 p5 p6:Pos} (h0:ys[0]?=some q) (h1:c.X7 q=true) (h2:c.N[j]?=some n) (h3:c.names.lookup n=some .local) (hij:i≠j) (h4:A1 c ys i j a1 a2 s1 s2=true)
  (b1:c.fn f g=true) (b2:F.rz.contains f=true) (b3:ao a=true) (b4:as.all ao=true) (b5:dO c es (a::as)=true) :
  ∀(pins:List (Addr × Obj)) (s:Shared) (O:L2.St) (H:Hp) (D:L2.Ends),L2.Inv X.Zi pins O H s->(∃m Z st,RF X.K m H Z O/\RH X.K m H st/\bT U es Z st λvs st1=>UR f vs st1 (il (λv st2=>Zb X.K m H D.nx Z st2)
   λk _ st2=>k<F.xs.length/\rel k 0=true/\i<Z.length/\∃b1 b2,(∀Z,hvs (rel k) Z a1=some b1)/\(∀Z,hvs (rel k) Z a2=some b2)/\b1.length+b2.length<=100/\post X.K m H D.rt (.ref (st2.length+2)) (st2++[.lst b1]++[.lst b2]++[.lst (b1++b2)]))) ->
   wpAny (model X.prog X.w) X.A (exec (.Try [.Expr (.Call (.Name g p0) (a::as) [] p1) p2] [.ExceptHandler (some (.Name q p4)) (some n) [s1,s2] p5] [] [] p6) X.env) (SP X.Zi pins D) X.Zi.xe s:=by
 rintro pins s O H D I ⟨m,Z,st,rf,rh,wq⟩;obtain⟨k1',k2,k3,_⟩:=C.SN b1;have RK:=b1;unfold Cfg.fn at RK;simp only[bi,beq_iff_eq,decide_eq_true_eq] at RK;obtain⟨ps,HF⟩:=G.fn f g RK.1.2 RK.1.1 b2;obtain⟨fa,fd,Fn,fm,fk,fb⟩:=HF.ex;obtain⟨q1,q2,q3⟩:=C.Xd h1;let Wx:XC->Hp->Prop:=λCl H'=>∃k m' st',Cl.1=ca k/\k<F.xs.length/\rel k 0=true/\Ext X.K m H m' H'/\RH X.K m' H' st'/\i<Z.length/\∃b1 b2,(∀Z,hvs (rel k) Z a1=some b1)/\(∀Z,hvs (rel k) Z a2=some b2)/\b1.length+b2.length<=100/\post X.K m H D.rt (.ref (st'.length+2)) (st'++[.lst b1]++[.lst b2]++[.lst (b1++b2)]);let Xe:Value->Shared->Prop:=λe s'=>∃s1 H1,L2.Inv X.Zi pins O H1 s1/\WQ X.prog X.w X.stack H1 s1 (λv dx H'=>∃C,v=.ref C/\Wx (C,dx) H') e s';have hy:=T.y 0 q h0;have hN:X.N=c.N:=C.N;refine wpAny_Try_except (wpAny_mono (wpAny_execs_cons (ZP (Q:=SP (Cx.pin X.Zi pins Xe) [] D) (E:=Xe) ?_ λfl s1 z=>?_)) (λ_ _ z=>z) λe s1 z=>?_)
 ·have hE1:PE (Cx.pin X.Zi pins Xe) (.Call (.Name g p0) (a::as) [] p1) (λO' H Q=>O'=O/\jh (gC X.K ca (UR f)) [] (λv dx H'=>∃C,v=.ref C/\Wx (C,dx) H') (V3 X.K (bT U es)) O' H Q) :=
   ue (Y:=Cx.pin X.Zi pins Xe) Fn k3 k1' fm fk fb .nil (λps H1 s1 e s' I1 z=>⟨s1,H1,Inv.YT I1,z⟩) (PA.pin (X:=X.Zi) (i_ es C _ b5)) k2 (ay b3) (fD b4)
  refine xZ (X:=Cx.pin X.Zi pins Xe) hE1 (cf rfl) [] s O H D (Inv.pinned I _) ?_;refine⟨rfl,m,Z,st,rf,rh,aD C.mono es (λvs st1 k m1 H1 Vy e1 r1 r2=>⟨m1,st1,vs,gJ r2,r1,G.mono _ _ _ _ _ (bU (λv st2 z m2 H2 x2 e2 r3 r4=>z m2 _ _ (e1.trans e2) r3 (rf.mono (e1.trans e2))) λk kv st2 ⟨z1,z2,z3⟩ m2 H2 e2 r3=>?_) k⟩) wq⟩;exact⟨ca k,rfl,k,m2,st2,rfl,z1,z2,e1.trans e2,r3,z3⟩
 ·cases fl with
  | next=>exact wpAny_execs_nil (wpAny_execs_nil (SP.YT z))
  | brk=>exact SP.YT z
  | cont=>exact SP.YT z
  | ret u=>exact SP.YT z
 ·obtain⟨s2,H2,I2,cx⟩:=z;refine Do (X:=X.Zi) (Wx:=Wx) I2 cx hst hfr q1 q2 hy.1 hE (λCl H' z=>?_) C.VJ (by rw[show X.Zi.N=X.N from rfl,hN];exact h2) (C.Uk n h3) (C.Uk n h3) λad Cl H' o s3 z oc _ J=>?_
  ·obtain⟨k,m',st',ec,z1,z2,_⟩:=z;refine⟨by rw[ec];exact G.Uh (M4 z1),?_⟩;rw[ec];have hr:=(T.rl k 0 z1 (MT.mp h0).1).1;rw[z2] at hr;unfold mroIn at hr;obtain⟨cd,e3,e4⟩:=Option.bind_eq_some_iff.mp hr;unfold clsIn at e3;split at e3
   ·rename_i ho;cases e3;refine⟨_,_,ho,rfl,?_⟩;split at e4
    ·cases e4
    ·exact NC e4
   ·cases e3
  ·obtain⟨k,m',st',ec,z1,z2,z3,z4,z5,c1,c2,e1,e2,z6,z7⟩:=z;refine Kb (X:=X.Zi) C T z1 (oc.1.trans (by rw[ec])) hij h4 [] s3 _ H' _ J ⟨?_,m',Z.set j none,st',c1,c2,(rf.mono z3).Rm j _,z4,by simp_all,e1,e2,z6,λm5 H5 x5 x6 r5 r6=>z7 m5 H5 x5 (z3.trans x6) r5 r6⟩;have hl:=I2.len;rw[QU,MK rfl,MK];rw[hl,show X.Zi.N=X.N from rfl,hN];exact(MT.mp h2).1
theorem As (C:ZD X.Zi c U)(G:XG X.prog X.w X.K X.mg X.base c F UR ca)(T:XT X.K X.mg F.xs ys ca da rel)(hE:W.excIn X.K (da 0) iA "ValueError.__new__"=true)(hst:X.stack=X.env::X.outer)(hfr:X.env.frame=some X.env.locals) :
  ∀(e:Wt) (x:List Stmt),jS c F ys e x=true->Xk X.Zi x (V4 X.K (fG U UR F.xs.length rel e))
 | .nil,x,h=>by
  rw[jS] at h;cases x with
  | nil =>rintro pins s O H D I ⟨m,Z,st,rf,rh,w⟩;exact wpAny_execs_nil ⟨_,_,I,Zb.here w rh rf⟩
  | cons _ _=>cases h
 | .st e es,x,h=>by
  rw[jS] at h;replace h:=aG h;obtain⟨y,ys,rfl,h⟩:=h;simp only[bi] at h;rintro pins s O H D I ⟨m,Z,st,rf,rh,w⟩;rw[fG] at w;refine wpAny_execs_cons (ZP (Jv C e _ h.1 pins s O H { D with nx:=λO1 H1=>V4 X.K (fG U UR F.xs.length rel es) D O1 H1 } I ⟨m,Z,st,rf,rh,wpS_mono C.mono e (D:={ AE X.K m H D with nx:=λZ1 st1=>fG U UR F.xs.length rel es Z1 st1 (AE X.K m H D) }) (D':=AE X.K m H { D with nx:=λO1 H1=>V4 X.K (fG U UR F.xs.length rel es) D O1 H1 }) ⟨λZ1 st1 k m1 H1 O1 e1 r1 f1=>⟨m1,Z1,st1,f1,r1,f_ C.mono G.mono es (AE.ext e1) k⟩,λ_ _ q=>q⟩ w⟩) λf s1 q=>?_);cases f with
  | next =>obtain⟨O',H',I',q⟩:=q;exact As C G T hE hst hfr es _ h.2 pins s1 O' H' D I' q
  | ret v=>exact q
  | brk=>exact q
  | cont=>exact q
 | .T_ f es i j a1 a2 r,x,h=>by
  rw[jS] at h;replace h:=aG h;obtain⟨y,zs,rfl,h⟩:=h;rw[MG] at h;obtain⟨h,hr⟩:=h;replace h:=wm h;obtain⟨v,vp,e,n,s1,s2,hp,pos,rfl,h⟩:=h;simp only[bi,beq_iff_eq,bne_iff_ne] at h;obtain⟨⟨⟨⟨⟨h1,h2⟩,h3⟩,hij⟩,h4⟩,h7⟩:=h;replace h1:=ak h1;obtain⟨q,qp,rfl,h1⟩:=h1;rw[MG,OO] at h1;replace h7:=vj h7;obtain⟨g,gp,a,as,cp,rfl,h7⟩:=h7;simp only[bi] at h7;obtain⟨⟨⟨⟨b1,b2⟩,b3⟩,b4⟩,b5⟩:=h7;rintro pins s O H D I ⟨m,Z,st,rf,rh,wq⟩;rw[fG] at wq;refine wpAny_execs_cons (ZP (EM C G T hE hst hfr h1.1 h1.2 h2 h3 hij h4 b1 b2 b3 b4 b5 pins s O H { D with nx:=λO1 H1=>V4 X.K (fG U UR F.xs.length rel r) D O1 H1 } I ⟨m,Z,st,rf,rh,aD C.mono es (λvs st1 z=>G.mono _ _ _ _ _ (bU (λv st2 z m1 H1 O1 e1 r1 f1=>⟨m1,_,st2,f1,r1,f_ C.mono G.mono r (AE.ext e1) z⟩) λk kv st2 z=>z) z) wq⟩) λfl s1 q=>?_);cases fl with
  | next =>obtain⟨O',H',I',q⟩:=q;exact As C G T hE hst hfr r _ hr pins s1 O' H' D I' q
  | ret v=>exact q
  | brk=>exact q
  | cont=>exact q
end
def Et {P:Program}{w:World}{K:W.Frag}{mg:Str->Option Value}{base:Heap}{x:Str}{st:Stmt}{N ps:List Str}{sp:ZX}{code:Wt}{c:Cfg}{Fx:Xf}{U UR:Nat->ZX}{ca:CA}{da:Nat->Addr}{rel:Nat->Nat->Bool}{ys:List Str}(F:At K mg x st ps)(S:ar N ps (af st))(hN:c.N=N)(hn:c.names=(af st).names)
  (hc:jS c Fx ys code (ai st)=true) (G:Wj P w K mg base c U) (GX:XG P w K mg base c Fx UR ca) (T:XT K mg Fx.xs ys ca da rel) (hE:W.excIn K (da 0) iA "ValueError.__new__"=true) (len:∀as st Q,sp as st Q->as.length=ps.length)
  (h:∀as st Q,sp as st Q->fG U UR Fx.xs.length rel code (frame N.length as) st (au st Q)):V1 P w K mg base (c.lim+1) x ps (fK K sp):=by
 refine F.ok S (λvs H Q E ⟨m,st,as,r1,r2,q⟩=>by rw[<-r1.len];solve_by_elim) λf cdv A outer s H vs Q E hr ⟨m,st',as,r1,r2,q⟩=>?_;have C:=sH (E:=E) (H:=H) (outer:=outer) (U:=U) S hN hn hr G;refine⟨_,As C GX T hE rfl rfl code _ hc,m,frame N.length as,st',kl r1,r2,f_ G.mono GX.mono code ?_ (h as st' _ q)⟩;exact⟨λZ st2 k m' H' O' e r f=>eM r2 k m' H' .non e r (Zo.mpr rfl),λv st2 k=>eM r2 k⟩
end FW
namespace FW
open L2 HX
open PySem.W (findIn mroIn typeIn clsIn)
structure JX (P:Program)(w:World)(K:W.Frag)(mg:Str->Option Value)(base:Heap)(c:Cfg)(F:Xf)(U UR:Nat->ZX)(ca:CA):Prop where
 g:Wj P w K mg base c U
 x:XG P w K mg base c F UR ca
section
variable {P:Program}{w:World}{K:W.Frag}{mg:Str->Option Value}{base h:Heap}{U UR:Nat->ZX}{c c':Cfg}{F:Xf}{ca:CA}{da:Nat->Addr}{rel:Nat->Nat->Bool}{ys:List Str}{x:Str}{st:Stmt}{N ps:List Str}{sp:ZX}
def XG.skip (G:XG P w K mg base c F UR ca)(h1:c'.fns=c.fns)(h2:c'.lim=c.lim+1)(hr:F.rz.contains c.lim=false):XG P w K mg base c' F UR ca :=
 ⟨λf x hf e r=>by
  rw[h2] at hf;rw[h1] at e;by_cases z:f=c.lim
  ·simp_all
  ·exact G.fn f x (by lia) e r,G.cls,G.mono⟩
def XG.next (G:XG P w K mg base c F UR ca)(h1:c'.fns=c.fns)(h2:c'.lim=c.lim+1)(hx:c.fns[c.lim]?=some x)(H:V2 P w K mg base (c.lim+1) x ps (gC K ca (UR c.lim))):XG P w K mg base c' F UR ca :=
 ⟨λf y hf e r=>by
  rw[h2] at hf;rw[h1] at e;by_cases z:f=c.lim
  ·subst z;rw[hx] at e;cases e;exact⟨ps,H⟩
  ·exact G.fn f y (by omega) e r,G.cls,G.mono⟩
theorem JX.nx {code:Ss}(J:JX P w K mg base c F U UR ca)(X:K.In h)(Gn:h.Ns mainGlobals mg)(d:DI K x st)(S:ar N ps (af st))(hc:aT c code (ai st)=true)
  (len:∀ {as st Q},sp as st Q->as.length=ps.length) (hw:∀ {as st Q},sp as st Q->aO U code (frame N.length as) st (au st Q))
  (hb:∀(kV doc pm:Value) (an:Option Addr) (cdv ct:Value) (us:List Value),us.length=ps.length->bindArgs (W.fnOf x x (cg st) (ai st) (af st) .none kV doc pm an cdv ct) ⟨us,[]⟩=pure (ps.zip us))
  (hN:c.N=N:=by rfl) (hn:c.names=(af st).names:=by rfl) (h1:c'.fns=c.fns:=by rfl) (h2:c'.lim=c.lim+1:=by rfl) (h3:c'.YB=c.YB:=by rfl) (h4:c'.gl=c.gl:=by rfl) (hx:c.fns[c.lim]?=some x:=by rfl) (hs:U c.lim=sp:=by rfl) (hr:F.rz.contains c.lim=false:=by rfl):JX P w K mg base c' F U UR ca :=
 ⟨J.g.nx X Gn d S hc len hw hb hN hn h1 h2 h3 h4 hx hs,J.x.skip h1 h2 hr⟩
def JX.R1 {code:Xp}(J:JX P w K mg base c F U UR ca)(X:K.In h)(Gn:h.Ns mainGlobals mg)(d:DI K x st)(S:ar N ps (af st))(hc:gX c F code (ai st)=true)
  (len:∀ {as st Q},sp as st Q->as.length=ps.length) (ms:∀ {as st Q Q'},(∀v st,Q v st->Q' v st)->sp as st Q->sp as st Q') (hw:∀ {as st Q},sp as st Q->dy U UR code (frame N.length as) st (ow st Q) (o6 st Q))
  (hb:∀(kV doc pm:Value) (an:Option Addr) (cdv ct:Value) (us:List Value),us.length=ps.length->bindArgs (W.fnOf x x (cg st) (ai st) (af st) .none kV doc pm an cdv ct) ⟨us,[]⟩=pure (ps.zip us))
  (hN:c.N=N:=by rfl) (hn:c.names=(af st).names:=by rfl) (h1:c'.fns=c.fns:=by rfl) (h2:c'.lim=c.lim+1:=by rfl) (h3:c'.YB=c.YB:=by rfl) (h4:c'.gl=c.gl:=by rfl) (hx:c.fns[c.lim]?=some x:=by rfl) (hs:U c.lim=W5 sp:=by rfl) (hs2:UR c.lim=sp:=by rfl):JX P w K mg base c' F U UR ca:=by
 obtain⟨f,oc,od,kV,dc,pm,an,cd,ct,sl,a,l,cc,k⟩:=d;have HX:=Eh (sp:=sp) (At.mk' X Gn hb a l cc k) S hN hn hc J.g J.x (λas st Q z=>len z) (λas st Q Q' z z2=>ms z z2) (λas st Q z=>hw z);refine⟨J.g.next h1 h2 h3 h4 hx (by rw[hs];exact HX.ok λ_ _ _ _ z z2=>ms z z2),J.x.next h1 h2 hx (by rw[hs2];exact HX)⟩
def JX.nxT {code:Wt}(J:JX P w K mg base c F U UR ca)(T:XT K mg F.xs ys ca da rel)(hE:W.excIn K (da 0) iA "ValueError.__new__"=true)(X:K.In h)(Gn:h.Ns mainGlobals mg)(d:DI K x st)(S:ar N ps (af st))(hc:jS c F ys code (ai st)=true)
  (len:∀ {as st Q},sp as st Q->as.length=ps.length) (hw:∀ {as st Q},sp as st Q->fG U UR F.xs.length rel code (frame N.length as) st (au st Q))
  (hb:∀(kV doc pm:Value) (an:Option Addr) (cdv ct:Value) (us:List Value),us.length=ps.length->bindArgs (W.fnOf x x (cg st) (ai st) (af st) .none kV doc pm an cdv ct) ⟨us,[]⟩=pure (ps.zip us))
  (hN:c.N=N:=by rfl) (hn:c.names=(af st).names:=by rfl) (h1:c'.fns=c.fns:=by rfl) (h2:c'.lim=c.lim+1:=by rfl) (h3:c'.YB=c.YB:=by rfl) (h4:c'.gl=c.gl:=by rfl) (hx:c.fns[c.lim]?=some x:=by rfl) (hs:U c.lim=sp:=by rfl) (hr:F.rz.contains c.lim=false:=by rfl):JX P w K mg base c' F U UR ca:=by
 obtain⟨f,oc,od,kV,dc,pm,an,cd,ct,sl,a,l,cc,k⟩:=d;subst hs;exact⟨J.g.next h1 h2 h3 h4 hx (Et (At.mk' X Gn hb a l cc k) S hN hn hc J.g J.x T hE (λ_ _ _=>len) (λ_ _ _=>hw)),J.x.skip h1 h2 hr⟩
abbrev CI (K:W.Frag)(x:Str)(C:Addr):Prop:=W.nsIn K mainGlobals x=some (some (.ref C))/\findIn K (.ref C) "__getattribute__"=some (some (.builtin "BaseException.__getattribute__"))/\findIn K (.ref C) "__getattr__"=some none/\findIn K (.ref C) "__class__"=some (some (.builtin "object.__class__"))/\mroIn K C (.type "object")=some true/\mroIn K C (.type "BaseException")=some true/\typeIn K (.ref C)=some (.type "type")/\(∃cd,clsIn K C=some cd)
def R_ {C:Addr}{cd:ClassData}(a:W.nsIn K mainGlobals x=some (some (.ref C)))(b:findIn K (.ref C) "__getattribute__"=some (some (.builtin "BaseException.__getattribute__")))(c:findIn K (.ref C) "__getattr__"=some none)(d:findIn K (.ref C) "__class__"=some (some (.builtin "object.__class__")))(e:mroIn K C (.type "object")=some true)(f:mroIn K C (.type "BaseException")=some true)(g:typeIn K (.ref C)=some (.type "type"))(h:clsIn K C=some cd):CI K x C:=⟨a,b,c,d,e,f,g,cd,h⟩
def CI.cl {C:Addr}(c:CI K x C):Wu K C:=⟨c.2.1,c.2.2.1,c.2.2.2.1,c.2.2.2.2.1,c.2.2.2.2.2.1,c.2.2.2.2.2.2.1,c.2.2.2.2.2.2.2⟩
end
end FW
namespace FW
open PySem L2 HX
noncomputable def Iw (U UR:Nat->ZX)(ss:Xp)(D:aQ)(Wx:XW):aQ:={ D with nx:=λZ1 st1=>dy U UR ss Z1 st1 D Wx }
noncomputable def Ky (U UR:Nat->ZX)(n:Nat)(rel:Nat->Nat->Bool)(ss:Wt)(D:aQ):aQ:={ D with nx:=λZ1 st1=>fG U UR n rel ss Z1 st1 D }
section
variable {U UR:Nat->ZX}{Z:Fr}{st:AH}{D:aQ}{Wx:XW}{Q:EK}{n:Nat}{rel:Nat->Nat->Bool}
def Ha {ss:Xp}:(Iw U UR ss D Wx).nx Z st=dy U UR ss Z st D Wx:=rfl
def Gq {ss:Xp}{v:PV}:(Iw U UR ss D Wx).rt v st=D.rt v st:=rfl
def Hg {ss:Wt}{v:PV}:(Ky U UR n rel ss D).rt v st=D.rt v st:=rfl
def GJ:dy U UR .nil Z st D Wx=D.nx Z st:=rfl
def A4 {s:XS}{ss:Xp}:dy U UR (.cons s ss) Z st D Wx=Yt U UR s Z st (Iw U UR ss D Wx) Wx:=rfl
def KQ {s:S}:Yt U UR (.st s) Z st D Wx=wpS U s Z st D:=rfl
def KG {t:T}{a b:Xp}:Yt U UR (.Wn t a b) Z st D Wx=YW U t Z st λk st1=>if k=true then dy U UR a Z st1 D Wx else dy U UR b Z st1 D Wx:=rfl
def Bl {i f:Nat}{it:It}{y:Str}:Yt U UR (.Yx i f it y) Z st D Wx=gP U it Z st λxs ZR st1=>xs.length<100000/\o3 (UR f) ZR xs [] st1 (λvs st2=>D.nx (Z.set i (some (.ref st2.length))) (st2++[.lst vs])) Wx:=rfl
def Ap {i f:Nat}{a:E}{es:Es}:Yt U UR (.Xy i a f es) Z st D Wx=Z_ U a Z st λx st1=>bT U es Z st1 λvs st2=>UR f vs st2 (il (λv st3=>∃xs,x=.tup xs/\xs.length<100000/\D.nx (Z.set i (some (.tup (xs++[v])))) st3) Wx):=rfl
def yk {k:Nat}:Yt U UR (.raise k) Z st D Wx=Wx k .non st:=rfl
def FO {i f:Nat}{es:Es}:Yt U UR (.Xz i f es) Z st D Wx=bT U es Z st λvs st1=>UR f vs st1 (il (λv st2=>D.nx (Z.set i (some v)) st2) Wx):=rfl
def Hi {st0:AH}{v:PV}:(ow st0 Q).rt v st=Xl st0 (λv s=>Q (okR v) s) v st:=rfl
def Fm {st0:AH}{k:Nat}{v:PV}:o6 st0 Q k v st=Xl st0 (λu s=>Q (RP k u) s) v st:=rfl
def GR {s:S}{r:Wt}:fG U UR n rel (.st s r) Z st D=wpS U s Z st (Ky U UR n rel r D):=rfl
def Dq {f i j:Nat}{es:Es}{a1 a2:List HA}{r:Wt}:fG U UR n rel (.T_ f es i j a1 a2 r) Z st D=bT U es Z st λvs st1=>UR f vs st1 (il (λv st2=>fG U UR n rel r Z st2 D) λk _ st2=>k<n/\rel k 0=true/\i<Z.length/\∃b1 b2,(∀Z,hvs (rel k) Z a1=some b1)/\(∀Z,hvs (rel k) Z a2=some b2)/\b1.length+b2.length<=100 /\
   D.rt (.ref (st2.length+2)) (st2++[.lst b1]++[.lst b2]++[.lst (b1++b2)])):=rfl
end
def jU {sp:ZX}(ms:∀ {as st Q Q'},(∀v st,Q v st->Q' v st)->sp as st Q->sp as st Q'){as:List PV}{st:AH}{Q Q':EK}(h:∀v st,Q v st->Q' v st)(q:W5 sp as st Q):W5 sp as st Q':=ms (bU h λ_ _ _ z=>z) q
end FW
namespace My
open PySem L2 HX FW
noncomputable def top (i:Nat):Stmt:=PySem.Challenge.pw_hourstairs_k96_questions_told.main.body.getD i (.Pass ⟨0,0,0,0⟩)
def ba {st:AH}{v:PV}(h:v.ZQ st.length=true):∃n,di st v=some n:=by
 cases v with
 | ref k =>
  rw[PV.ZQ] at h;have hk:=NY h;have e:st[k]?=some st[k]:=M4 hk;cases q:st[k] with
  | lst xs=>exact ⟨"list",by simp [di,e,q]⟩
 | _=>exact⟨_,rfl⟩
noncomputable def rW:PV->Bool
 | .int _=>true
 | _=>false
def w_ {st:AH}{v:PV}{n:String}(h:di st v=some n):rW v=(a9 "int" n && !a9 "bool" n):=by
 cases v with
 | ref k =>unfold di at h;simp only at h;split at h <;> cases h <;> rfl
 | _=>cases h;rfl
noncomputable def bN:PV->Bool
 | .tup [.int n,.int d]=>decide (0<=n/\1<=d/\Nat.gcd n.natAbs d.natAbs=1)
 | _=>false
def eh {st:AH}{v:PV}{n:String}(h:di st v=some n):(a9 "tuple" n=true->∃xs,v=.tup xs)/\(a9 "tuple" n=false->bN v=false):=by
 cases v with
 | tup xs=>cases h;exact⟨λ_=>⟨xs,rfl⟩,λz=>absurd z (by decide)⟩
 | ref k =>unfold di at h;simp only at h;split at h <;> cases h <;> exact⟨λz=>absurd z (by decide),λ_=>rfl⟩
 | _=>cases h;exact⟨λz=>absurd z (by decide),λ_=>rfl⟩
def n8 {x y:PV}:bN (.tup [x,y])=(match x,y with | .int n,.int d=>decide (0<=n/\1<=d/\Nat.gcd n.natAbs d.natAbs=1)|_,_=>false):=by cases x <;> cases y <;> rfl
def ux {xs:List PV}(hl:xs.length≠2):bN (.tup xs)=false:=by
 match xs,hl with
 | [],_=>rfl
 | [x],_=>cases x <;> rfl
 | [_,_],hl=>exact absurd rfl hl
 | x::y::_::_,_=>cases x <;> cases y <;> rfl
theorem uL {k:Nat}:∀ {xs:List PV}{x:PV},PV.Zw k xs=true->x∈xs->x.ZQ k=true
 | [],x,_,h=>nomatch h
 | y::ys,x,z,h=>by
  rw[PV.Zw,MG] at z;rcases MU.mp h with rfl|h
  ·exact z.1
  ·exact uL z.2 h
def u5 {n d:Int}(h0:0<=n)(h1:1<=d):decide (((Nat.gcd n.toNat d.toNat:Nat):Int)=1)=decide (0<=n/\1<=d/\Nat.gcd n.natAbs d.natAbs=1):=by grind
def xB {n d:Nat}(h:0<d)(h2:d<2 ^ 8000):Yj (Nat.gcd n d:Nat):=by
 have h3:0<Nat.gcd n d:=PZ _ h;have h4:Nat.gcd n d<=d:=Nat.gcd_le_right _ h;refine⟨by simp[*],?_⟩;have h5:((Nat.gcd n d:Nat):Int).natAbs=Nat.gcd n d:=rfl;rw[h5];have:Nat.gcd n d<2 ^ 8000:=P1 h4 h2;have:=(QR (by lia)).mpr this
 lia
noncomputable abbrev pc (q r:Int):Cell:=.lst [.int q,.int r]
def HL {q r:Int}{k:Nat}:(pc q r).ZQ k=true:=by solve_by_elim
def KU:zk 10 12:=⟨by decide,by decide,by decide⟩
def FI:zk 10 18:=⟨by decide,by decide,by decide⟩
def x_ {j:Int}(h:0<j)(h2:j<2 ^ 200):Yj j:=Yj.of h (Int.lt_of_lt_of_le h2 (by
 solve_by_elim))
def yD {i j:Int}(h1:-(2 ^ 64)<i)(h2:i<2 ^ 64):Vm i j:=.inr (.inl ⟨h1,h2⟩)
def Hl {i j:Int}(h1:-(2 ^ 64)<j)(h2:j<2 ^ 64):Vm i j:=.inr (.inr ⟨h1,h2⟩)
def CK {ns:List Int}{k:Nat}(h:k<ns.length):YL (ns.map PV.int) (k:Int)=some (.int (ns.getD k 0)):=by
 refine aN ?_
 simp_all
def Ew {n d:Nat}(h:0<d):Nat.gcd (n/Nat.gcd n d) (d/Nat.gcd n d)=1:=Nat.gcd_div_gcd_div_gcd_of_pos_right h
def Ee {n d:Nat}(h:0<d):0<d/Nat.gcd n d:=Nat.div_pos (Nat.gcd_le_right _ h) (PZ _ h)
def iR {i:Int}(h0:-1000000000001<i)(h1:i<1000000000001):i.natAbs.log2<1920:=by
 by_cases h:i.natAbs=0
 ·rw[h];decide
 ·have:i.natAbs<2 ^ 64:=by omega
  have:=(QR h).mpr this
  lia
def vO {n i:Nat}{v:PV}(h:(cZ 0 ((n:Int).toNat))[i]?=some v):v=.int i/\i<n:=by
 unfold cZ at h;rw[M5] at h;have hi:i<n:=by
  by_cases hi:i<n
  ·exact hi
  ·simp_all
 simp_all
def qJ {st:AH}{a b:Int}:mQ st (.tup [.int a,.int b])=some (.tuple [.int a,.int b]):=by solve_by_elim
def lQ (a b:Int):SeqAt.shaped (.tuple [.int a,.int b])=true:=by
 solve_by_elim
def CQ (a b c d:Int):PyData.eqv (.tuple [.int a,.int b]) (.tuple [.int c,.int d])=(decide (a=c) && decide (b=d)):=by simp[PyData.eqv,PyData.eqvAll,Bool.beq_eq_decide_eq]
def BG {st:AH}{a b c d:Int}{k:Bool->Prop}(h:k (decide (a=c) && decide (b=d))):Ye st (.tup [.int a,.int b]) (.tup [.int c,.int d]) k :=
 ⟨_,_,qJ,qJ,lQ _ _,lQ _ _,by rw[CQ];exact h⟩
def b_:ZX:=λas st Q=>∃v,as=[v]/\v.ZQ st.length=true/\Q (.bl (rW v)) st
def pv {as st Q Q'}(h:∀v st,Q v st->Q' v st)(q:b_ as st Q):b_ as st Q':=by obtain⟨v,e,b,q⟩:=q;exact⟨v,e,b,h _ _ q⟩
def sf {as st Q}(q:b_ as st Q):as.length=1:=by obtain⟨v,rfl,_⟩:=q;rfl
def aX:ZX:=λas st Q=>∃n d:Nat,as=[.int n,.int d]/\Q (.int (Nat.gcd n d:Nat)) st
def i5 {as st Q Q'}(h:∀v st,Q v st->Q' v st)(q:aX as st Q):aX as st Q':=by obtain⟨n,d,e,q⟩:=q;exact⟨n,d,e,h _ _ q⟩
def jB {as st Q}(q:aX as st Q):as.length=2:=by obtain⟨n,d,rfl,_⟩:=q;rfl
def bA:ZX:=λas st Q=>∃v,as=[v]/\v.ZQ st.length=true/\Q (.bl (bN v)) st
def lI {as st Q Q'}(h:∀v st,Q v st->Q' v st)(q:bA as st Q):bA as st Q':=by obtain⟨v,e,b,q⟩:=q;exact⟨v,e,b,h _ _ q⟩
def mD {as st Q}(q:bA as st Q):as.length=1:=by obtain⟨v,rfl,_⟩:=q;rfl
noncomputable abbrev fr (p:Nat × Nat):PV:=.tup [.int p.1,.int p.2]
noncomputable def mx (n d:Nat):Nat × Nat:=(n/Nat.gcd n d,d/Nat.gcd n d)
def vg {n d:Nat}(h:0<d):0<(mx n d).2:=Ee h
def tO {n d:Nat}(h:0<d):Nat.gcd (mx n d).1 (mx n d).2=1:=Ew h
def BX (n d:Nat):(mx n d).1<=n:=Nat.div_le_self _ _
def Av (n d:Nat):(mx n d).2<=d:=Nat.div_le_self _ _
def zS {n d:Nat}(h:Nat.gcd n d=1):mx n d=(n,d):=by simp[mx,h]
def H_ {a b c d:Nat}(h1:Nat.gcd a b=1)(h2:Nat.gcd c d=1)(hb:0<b)(hd:0<d)(h:a*d=c*b):a=c/\b=d:=by
 have hbd:b ∣ d:=by have:b ∣ a*d:=⟨c,by rw[h,RA]⟩;exact Nat.Coprime.dvd_of_dvd_mul_left (show Nat.Coprime b a by unfold Nat.Coprime;rw[P9];exact h1) this
 have hdb:d ∣ b:=by have:d ∣ c*b:=⟨a,by rw[<-h,RA]⟩;exact Nat.Coprime.dvd_of_dvd_mul_left (show Nat.Coprime d c by unfold Nat.Coprime;rw[P9];exact h2) this
 have e:b=d:=Nat.dvd_antisymm hbd hdb;subst e;exact⟨Nat.eq_of_mul_eq_mul_right hb h,rfl⟩
structure Vn (p:Nat × Nat):Prop where
 pos:0<p.2
 one:Nat.gcd p.1 p.2=1
def Vn.low {n d:Nat}(h:0<d):Vn (mx n d):=⟨vg h,tO h⟩
theorem Vn.ext {p q:Nat × Nat}(h1:Vn p)(h2:Vn q)(h:p.1*q.2=q.1*p.2):p=q:=by obtain⟨e1,e2⟩:=H_ h1.one h2.one h1.pos h2.pos h;exact Prod.ext e1 e2
def Vn.Qu {p:Nat × Nat}(h:Vn p):bN (fr p)=true:=by show bN (.tup [.int _,.int _])=true;rw[n8];refine M1 ⟨QP _,Int.ofNat_le.mpr h.pos,?_⟩;rw[Int.natAbs_natCast,Int.natAbs_natCast];exact h.one
structure Sz (k:Nat)(p:Nat × Nat):Prop where
 a:p.1<2 ^ k
 b:p.2<2 ^ k
 pos:0<p.2
def Sz.mono {j k:Nat}{p:Nat × Nat}(h:Sz j p)(hk:j<=k):Sz k p:=⟨ML h.a (N1 (by decide) hk),ML h.b (N1 (by decide) hk),h.pos⟩
def JC (p q:Nat × Nat):Prop:=p.1*q.2<q.1*p.2
noncomputable instance (p q:Nat × Nat):Decidable (JC p q):=inferInstanceAs (Decidable (_<_))
def PK (q r:Int):Prop:=0<=q/\0<=r/\r<8589934592
def W8 (st:AH)(p:Nat):Prop:=∃q r,st[p]?=some (pc q r)/\PK q r
def W8.lt {st:AH}{p:Nat}(h:W8 st p):p<st.length:=by obtain⟨q,r,e,_⟩:=h;exact iZ e
def W8.app {st g:AH}{p:Nat}(h:W8 st p):W8 (st++g) p:=by obtain⟨q,r,e,z⟩:=h;exact⟨q,r,av e,z⟩
structure Gr (st:AH)(p:Nat)(st':AH):Prop where
 len:st.length<=st'.length
 old:∀i,i<st.length->i≠p->st'[i]?=st[i]?
 Zc:W8 st' p
 was:p<st.length
def Gr.refl {st:AH}{p:Nat}(h:W8 st p):Gr st p st:=⟨MJ _,λ_ _ _=>rfl,h,h.lt⟩
theorem Gr.trans {st s1 s2:AH}{p:Nat}(a:Gr st p s1)(b:Gr s1 p s2):Gr st p s2:=⟨MX a.len b.len,λi h1 h2=>(b.old i (ML h1 a.len) h2).trans (a.old i h1 h2),b.Zc,a.was⟩
theorem Gr.app {st s1 g:AH}{p:Nat}(a:Gr st p s1):Gr st p (s1++g) :=
 ⟨by rw[MS];exact MX a.len (PJ _ _),λi h1 h2=>by rw[M0 (ML h1 a.len)];exact a.old i h1 h2,a.Zc.app,a.was⟩
theorem Gr.set {st s1:AH}{p:Nat}(a:Gr st p s1){q r:Int}(z:PK q r):Gr st p (s1.set p (pc q r)) :=
 ⟨by rw[Q2];exact a.len,λi h1 h2=>by rw[NJ (Ne.symm h2)];exact a.old i h1 h2,⟨q,r,NG a.Zc.lt,z⟩,a.was⟩
def Gr.get {st s1:AH}{p n:Nat}{c:Cell}(a:Gr st p s1)(h:st[n]?=some c)(hn:n≠p):s1[n]?=some c:=(a.old n (iZ h) hn).trans h
def Gr.tmp {st s1:AH}{p:Nat}{v:PV}{Q:EK}(a:Gr st p s1)(hv:v.ZQ st.length=true)(k:∀s2,Gr st p s2->s2.length=st.length->Q v s2):V5 st Q v s1:=by
 have hl:(s1.take st.length).length=st.length:=by rw[M6];exact QD a.len
 have hg:∀i,i<st.length->(s1.take st.length)[i]?=s1[i]?:=λi hi=>by rw[PR hi]
 obtain⟨q,r,e,z⟩:=a.Zc;refine⟨s1.take st.length,s1.drop st.length,(PB _ _).symm,hl,λi hi=>?_,hv,k _ ⟨by simp[*],λi h1 h2=>(hg i h1).trans (a.old i h1 h2),⟨q,r,(hg p a.was).trans e,z⟩,a.was⟩ hl⟩;by_cases hp:i=p
 ·subst hp;exact .inr ⟨pc q r,(hg i a.was).trans e,HL⟩
 ·exact .inl ((hg i hi).trans (a.old i hi hp))
def Kn:zk 10 11:=⟨by decide,by decide,by decide⟩
def kn {L:List PV}{P:PV->Prop}(h:∀v∈L,P v){y:Int}(y0:0<=y)(y1:y<L.length):∃v,YL L y=some v/\P v:=by
 obtain⟨m,rfl⟩:∃m:Nat,y=m:=⟨y.toNat,by lia⟩;have hm:m<L.length:=by omega
 exact⟨L[m],aN (M4 hm),h _ (OJ hm)⟩
def Gr.ne {st s1:AH}{p:Nat}(a:Gr st p s1):s1.length≠p:=λe=>by have:=a.Zc.lt;simp_all
def BB {xs:List PV}{v:PV}:YL (xs++[v]) (-1)=some v:=by
 have e:(-1+((xs.length:Int)+1)).toNat=xs.length:=by omega
 simp only[YL,Wb,List.length_append,List.length_singleton];simp;rw[MK (by lia),e];simp
def gH {st st':AH}{n:Nat}:vL st (.ref n) st'=(st'[n]?=st[n]?):=rfl
def B9 {L:List PV}:dN L (some 1) none=L.drop 1:=by
 unfold dN;have:=HT.Zg L.length 0 1;rw[show ((1:Nat):Int)=(1:Int) from rfl] at this;rw[HT.Y7,this];cases L with
 | nil=>rfl
 | cons x xs =>simp
def zW {v:PV}(h:bN v=true):∃n d:Nat,v=fr (n,d)/\0<d:=by unfold bN at h;grind
noncomputable def dg (n:Nat):List Nat:=(Nat.toDigits 10 n).map Char.toNat
noncomputable abbrev nt (n:Nat):Str:=Str.ofString (toString ((n:Nat):Int))
def fI (n:Nat):(nt n).cps.toList=dg n:=W.KIN.signs_num n
def IL (n:Nat):PySem.NumText.digitsVal (dg n)=n:=W.KIN.val_back n
def fw {n:Nat}(h:n<10):dg n=[48+n]:=by
 unfold dg;rw[Nat.toDigits_of_lt_base h];have:∀d:Nat,d<10->(Nat.digitChar d).toNat=48+d:=by decide
 simp[*]
def mZ {n:Nat}(h:¬n<10):dg n=dg (n/10)++[48+n % 10]:=by
 have hm:n % 10<10:=QZ n (by decide);have t:Nat.toDigits 10 (n/10)++Nat.toDigits 10 (n % 10)=Nat.toDigits 10 (10*(n/10)+n % 10):=Nat.toDigits_append_toDigits (by decide) (by simp_all) hm;rw[Nat.div_add_mod] at t;have e:=fw hm;unfold dg at e |-
 rw[<-t,NM,e]
def xa (n:Nat):∀c∈dg n,48<=c/\c<=57:=by
 induction n using Nat.strongRecOn with
 | _ n ih =>
  by_cases h:n<10
  ·rw[fw h];intro c hc;rw[MF] at hc
   lia
  ·rw[mZ h];intro c hc;rcases MN.mp hc with hc|hc
   ·exact ih _ (by lia) c hc
   grind
def xO (n:Nat):∃c r,dg n=c::r/\(c=48->n=0):=by
 induction n using Nat.strongRecOn with
 | _ n ih =>
  by_cases h:n<10
  ·exact⟨_,_,fw h,λe=>by simp_all⟩
  ·obtain⟨c,r,e,k⟩:=ih (n/10) (by omega);refine⟨c,r++[48+n % 10],by rw[mZ h,e];rfl,λz=>?_⟩;grind
theorem Bh:∀(k n:Nat),n<10 ^ (k+1)->(dg n).length<=k+1
 | 0,n,h=>by rw[fw h];solve_by_elim
 | k+1,n,h=>by
  by_cases h1:n<10
  ·rw[fw h1];simp
  ·rw[mZ h1,MS];have:n/10<10 ^ (k+1):=by rw[RB] at h;omega
   have:=Bh k _ this;simp[*]
def cu {x y:Str}(h:x.cps.toList=y.cps.toList):x=y:=by
 obtain⟨⟨a⟩⟩:=x
 solve_by_elim
def aE (x y:Str):(x++y).cps.toList=x.cps.toList++y.cps.toList:=by show (x.cps++y.cps).toList=_;simp
def aj (x:Str):x.length=x.cps.toList.length:=by solve_by_elim
def jI {n:Nat}(h:n<10 ^ 12):(nt n).length<=12:=by rw[aj,fI];exact Bh 11 n h
def Bp (cs:List Nat):PySem.NumText.digitsVal (48::cs)=PySem.NumText.digitsVal cs:=by
 solve_by_elim
def BJ {x y:Str}(h:47 ∉ x.cps.toList)(h2:47 ∉ y.cps.toList):l_ (x++("/":Str)++y) "/"=[.str x,.str "/",.str y]:=by
 have el:(x++("/":Str)++y).cps.toList=x.cps.toList++47::y.cps.toList:=by rw[aE,aE,MZ];rfl
 generalize x++("/":Str)++y=z at el;have f:=N7 z 47;rw[M1 (by simp[*])] at f;unfold l_;cases e:Builtin.Str.occurrences z "/" 0 z.length 1 with
 | nil =>
  have e':Builtin.Str.occurrences z ⟨#[47]⟩ 0 z.length 1=[]:=e
  simp_all
 | cons i r =>
  have e':Builtin.Str.occurrences z ⟨#[47]⟩ 0 z.length 1=i::r:=e;have sp:=(NZ z 47 i).mp (PySem.StrLaws.occ_spec z ⟨#[47]⟩ 0 z.length 1 i (by rw[e'];solve_by_elim));rw[el] at sp;have hi:i=x.cps.toList.length:=by
   by_cases h3:i<x.cps.toList.length
   ·rw[M0 h3] at sp;exact absurd (MW sp) h
   ·rw[MY (by simp_all)] at sp;cases q:i-x.cps.toList.length with
    | zero=>grind
    | succ k =>rw[q,List.getElem?_cons_succ] at sp;exact absurd (MW sp) h2
  subst hi;have s1:Builtin.Str.strSub z 0 x.cps.toList.length=x:=cu (by rw[M_,el];simp);have s2:Builtin.Str.strSub z (x.cps.toList.length+1) z.length=y:=cu (by rw[M_,aj,el];rw[List.drop_append,OH (by simp),QC,show x.cps.toList.length+1-x.cps.toList.length=1 by simp,List.drop_succ_cons,QQ];exact NP (by simp;lia))
  show [PV.str (Builtin.Str.strSub z 0 x.cps.toList.length),PV.str "/",PV.str (Builtin.Str.strSub z (x.cps.toList.length+1) z.length)]=_;rw[s1,s2]
def Gz {n:Nat}:47 ∉ (nt n).cps.toList:=λh=>by
 rw[fI] at h;have:=xa n _ h
 simp_all
noncomputable def ft (n d:Nat):Str:=if d=1 then nt n else nt n++("/":Str)++nt d
def Jh {n d:Nat}(hn:n<10 ^ 12)(hd:d<10 ^ 12):(ft n d).length<=25:=by
 unfold ft;have:=jI hn;have:=jI hd;split
 ·lia
 ·rw[aj,aE,aE,MS,MS,<-aj,<-aj,<-aj];show (nt n).length+1+(nt d).length<=25
  lia
noncomputable def aM (z:Str):Bool:=!z.cps.toList.isEmpty && z.cps.toList.all (λc=>decide (48<=c/\c<=57)) && (decide (z="0") || !decide (z.cps.toList.head?=some 48))
noncomputable def aU (z:Str):Nat:=PySem.NumText.digitsVal z.cps.toList
noncomputable def ly (z:Str):Bool:=!(Builtin.Str.occurrences z "/" 0 z.length 1).isEmpty
noncomputable def ib (z:Str):Str:=match Builtin.Str.occurrences z "/" 0 z.length 1 with
 | i::_=>Builtin.Str.strSub z 0 i
 | []=>z
noncomputable def fQ (z:Str):Str:=match Builtin.Str.occurrences z "/" 0 z.length 1 with
 | i::_=>Builtin.Str.strSub z (i+1) z.length
 | []=>Str.empty
noncomputable def U_:PV->Option (Nat × Nat)
 | .str z=>if aM (ib z)=true then (if ly z=true then (if aM (fQ z)=true/\2<=aU (fQ z)/\Nat.gcd (aU (ib z)) (aU (fQ z))=1 then some (aU (ib z),aU (fQ z)) else none) else some (aU (ib z),1)) else none
 | _=>none
noncomputable def frR:Option (Nat × Nat)->PV
 | some (n,d)=>okR (.tup [.int n,.int d])
 | none=>RN 0
noncomputable def TV:Option (Nat × Nat)->PV
 | some (n,d)=>.tup [.int n,.int d]
 | none=>.non
def Kx (st:AH)(x:PV):Prop:=x.ZQ st.length=true/\∀z,x=.str z->z.length<=5000
def xK (z:Str):l_ z "/"=if ly z=true then [.str (ib z),.str "/",.str (fQ z)] else [.str z,.str Str.empty,.str Str.empty]:=by
 unfold l_ ly ib fQ;cases Builtin.Str.occurrences z "/" 0 z.length 1 with
 | nil=>rfl
 | cons i r=>rfl
def yi {z:Str}(h:ly z=false):ib z=z:=by
 unfold ly at h;unfold ib
 simp_all
def tL (z:Str):(ib z).length<=z.length:=by
 unfold ib;cases Builtin.Str.occurrences z "/" 0 z.length 1 with
 | nil=>simp
 | cons i r=>show (Builtin.Str.strSub z 0 i).length<=_;rw[aj,M_,aj z,M6,NH];lia
def tS (z:Str):(fQ z).length<=z.length:=by
 unfold fQ;cases Builtin.Str.occurrences z "/" 0 z.length 1 with
 | nil=>exact OV _
 | cons i r=>show (Builtin.Str.strSub z _ _).length<=_;rw[aj,M_,aj z,M6,NH];simp
def iF {z:Str}(h:aM z=true):(∀c∈z.cps.toList,48<=c/\c<=57)/\z.cps.toList≠[]:=by unfold aM at h;rw[MG,MG,NK] at h;refine⟨λc hc=>NY (h.1.2 c hc),λe=>?_⟩;rw[e] at h;exact absurd h.1.1 (by decide)
def Jz {z:Str}(h:aM z=true):47 ∉ z.cps.toList:=λm=>by have:=(iF h).1 47 m;omega
theorem kG {c:Nat}:∀ {l:List Nat},c ∉ l->PyProof.Rows.cnt c l=0
 | [],_=>rfl
 | n::r,h=>by rw[NX,MM (λe=>h (by rw[e];solve_by_elim)),kG (λm=>h (MD _ m))];rfl
def tX {z:Str}(h:1<(Builtin.Str.occurrences z "/" 0 z.length (z.length+1)).length):ly z=true/\aM (fQ z)=false:=by
 have hc:((Builtin.Str.occurrences z "/" 0 z.length (z.length+1)).length:Int)=PyProof.Rows.cnt 47 z.cps.toList:=PyProof.Rows.count_cnt z 47;rcases PySem.StrLaws.occ_head z "/" 1 (MJ _) with ⟨e,hn⟩|⟨i,r,e,ha,hf⟩
 ·exfalso;have:47 ∉ z.cps.toList:=λm=>by obtain⟨j,hj⟩:=List.getElem?_of_mem m;exact hn j ((NZ z 47 j).mpr hj)
  rw[kG this] at hc
  simp_all
 ·refine⟨by unfold ly;rw[e];rfl,?_⟩;cases q:aM (fQ z) with
  | false=>rfl
  | true =>
   exfalso;have hm:=Jz q;have hi:=(NZ z 47 i).mp ha;unfold fQ at hm;rw[e] at hm;have hm:47 ∉ (Builtin.Str.strSub z (i+1) z.length).cps.toList:=hm;rw[M_,aj,NP (by simp)] at hm;have h1:47 ∉ z.cps.toList.take i:=λm=>by
    obtain⟨j,hj⟩:=List.getElem?_of_mem m;have hj2:j<i:=by have:=(MT.mp hj).1;rw[M6] at this;omega
    rw[PR hj2] at hj;exact hf j hj2 ((NZ z 47 j).mpr hj)
   have el:z.cps.toList=z.cps.toList.take i++47::z.cps.toList.drop (i+1):=by obtain⟨hl,he⟩:=MT.mp hi;rw[<-he,<-PN hl,PB]
   rw[el,N0,NX,kG h1,kG hm,MK rfl] at hc
   lia
theorem nG:∀(l:List Nat) (a:Nat),l.foldl (λacc c=>acc*10+(c-48)) a=a*10 ^ l.length+PySem.NumText.digitsVal l
 | [],a=>by simp[PySem.NumText.digitsVal]
 | c::l,a=>by
  unfold PySem.NumText.digitsVal;rw[List.foldl_cons,List.foldl_cons,nG l,nG l (0*10+(c-48)),NT,RB,Nat.add_mul,Nat.zero_mul,Nat.zero_add,RA (10 ^ l.length) 10,<-Nat.mul_assoc]
  lia
def xP (a b:List Nat):PySem.NumText.digitsVal (a++b)=PySem.NumText.digitsVal a*10 ^ b.length+PySem.NumText.digitsVal b:=by show (a++b).foldl _ 0=_;rw[List.foldl_append];exact nG b _
def Di (a:List Nat)(c:Nat):PySem.NumText.digitsVal (a++[c])=PySem.NumText.digitsVal a*10+(c-48):=by show (a++[c]).foldl _ 0=_;rw[List.foldl_append];rfl
theorem xb:∀ {l:List Nat},(∀c∈l,48<=c/\c<=57)->PySem.NumText.digitsVal l<10 ^ l.length
 | [],_=>by decide
 | c::l,h=>by
  have e:=xP [c] l;have hc:=h c (MP ..);have:=xb (l:=l) λd hd=>h d (MD _ hd);have e1:PySem.NumText.digitsVal [c]=c-48:=by show 0*10+(c-48)=_;omega
  rw[List.singleton_append,e1] at e;rw[e,NT,RB];have:(c-48)*10 ^ l.length<=9*10 ^ l.length:=Nat.mul_le_mul_right _ (by simp_all)
  lia
def DB {n k:Nat}(h:n<10 ^ k)(hk:k<=5000):n<2 ^ 20000:=by have h1:(10:Nat) ^ k<=10 ^ 5000:=N1 (by decide) hk;grind
def wN (z:Str)(l u:Option Int):b6 z l u=PySem.StrLaws.sliceText z l u:=rfl
def AV {z:Str}{k:Nat}(h:k<=z.length):(b6 z none (some (k:Int))).cps.toList=z.cps.toList.take k:=by rw[wN,PySem.StrLaws.sliceText_to ⟨QP _,by rw[aj] at h;simp_all⟩];simp
def EJ {z:Str}{a b:Nat}(hab:a<=b)(h:b<=z.length):(b6 z (some (a:Int)) (some (b:Int))).cps.toList=(z.cps.toList.drop a).take (b-a):=by rw[wN,PySem.StrLaws.sliceText_nat z hab h]
def AS {as st Q Q'}(h:∀v st,Q v st->Q' v st)(q:jf as st Q):jf as st Q':=by obtain⟨n,e,h1,q⟩:=q;exact⟨n,e,h1,λz=>h _ _ (q z)⟩
def Fh {as st Q}(q:jf as st Q):as.length=1:=by obtain⟨n,rfl,_⟩:=q;rfl
noncomputable def jn (s:List Nat):List (List Nat)->List Nat
 | []=>[]
 | [x]=>x
 | x::y::r=>x++(s++jn s (y::r))
noncomputable abbrev tl (z:Str):List Nat:=z.cps.toList
theorem gL (y:Str):∀ps:List Str,tl (Str.join y ps)=jn (tl y) (ps.map tl)
 | []=>rfl
 | [x]=>rfl
 | x::z::r=>by show tl (x++y++Str.join y (z::r))=tl x++(tl y++jn (tl y) ((z::r).map tl));rw[<-gL y (z::r)];show (x++y++_).cps.toList=_;rw[aE,aE,MZ]
noncomputable abbrev Ym (p:Nat × Nat):Str:=ft p.1 p.2
noncomputable abbrev sV (ns:List Str):List PV:=ns.map PV.str
structure Fq (p:Nat × Nat):Prop where
 a:p.1<10 ^ 12
 b:p.2<10 ^ 12
 po:0<p.2
 g:Nat.gcd p.1 p.2=1
structure Nm (z:Str):Prop where
 pos:0<z.length
 len:z.length<=8
 VH:∀c∈tl z,97<=c/\c<=122
def Lt (a b:Str):Prop:=tl a<tl b
noncomputable abbrev ZV:List (Str × Int):=[("at",1),("by",1),("all",0),("few",1),("quick",2)]
def Hu (n:Nat):Prop:=n<2 ^ 4000
mutual
noncomputable def kE:PV->Bool
 | .int i=>decide (i.natAbs<2 ^ 4000)
 | .str z=>decide (z.length<=1000)
 | .tup xs=>decide (xs.length<=50) && oD xs
 | .non=>true
 | .bl _=>true
 | .ref _=>true
 | _=>false
noncomputable def oD:List PV->Bool
 | []=>true
 | x::xs=>kE x && oD xs
end
def Any (st:AH)(v:PV):Prop:=v.ZQ st.length=true/\kE v=true
noncomputable abbrev YF:Str:="abcdefghijklmnopqrstuvwxyz"
noncomputable def I0 (c:Nat):Bool:=!(Builtin.Str.occurrences YF ⟨#[c]⟩ 0 YF.length 1).isEmpty
noncomputable def aI:PV->Bool
 | .str z=>decide (0<z.length) && decide (z.length<=8) && z.cps.toList.all I0
 | _=>false
noncomputable def W7:List PV->Bool
 | .str a::.str b::r=>decide (a.cps.toList<b.cps.toList) && W7 (.str b::r)
 | _=>true
noncomputable def cW:PV->Bool
 | .tup xs=>xs.all aI && W7 xs
 | _=>false
noncomputable def yV:PV->PV->Bool
 | .tup [.int a,.int b],.tup [.int c,.int d]=>decide (a*d<c*b)
 | _,_=>false
noncomputable def R9:List PV->Bool
 | [p,q]=>!yV q p
 | _=>true
noncomputable def dF:PV->Bool
 | .tup (.str w::a::b::r)=>match ZV.lookup w with
  | some k=>decide ((r.length:Int)=k+1) && aI a && aI b && cW (r.getLastD .non) && r.dropLast.all bN && R9 r.dropLast
  | none=>false
 | _=>false
def Xj (y:PV):Prop:=∀a b,y=.tup [a,b]->∃i j,a=.int i/\b=.int j
structure Qx (st:AH)(x:PV):Prop where
 any:Any st x
 str:∀xs,x=.tup xs->4<=xs.length->∃w r,xs=.str w::r
 mo:∀w a b ms n,x=.tup (.str w::a::b::(ms++[n]))->ZV.lookup w=some (ms.length:Int)->∀y∈ms,Xj y
structure Qd where
 w:Str
 a:Str
 b:Str
 ms:List (Nat × Nat)
 ns:List Str
noncomputable abbrev qV (q:Qd):PV:=.tup (.str q.w::.str q.a::.str q.b::(q.ms.map fr++[.tup (sV q.ns)]))
noncomputable def Xm (ns:List Str):List Str:=if ns=[] then [] else "without"::ns
noncomputable def qW (q:Qd):List Str:=q.w::q.a::q.b::(q.ms.map Ym++Xm q.ns)
noncomputable def qT (q:Qd):Str:=Txt.join " " (qW q)
structure Zk (q:Qd):Prop where
 w:ZV.lookup q.w=some (q.ms.length:Int)
 a:Nm q.a
 b:Nm q.b
 ms:∀p∈q.ms,Fq p
 up:∀p r,q.ms=[p,r]->¬JC r p
 ns:∀z∈q.ns,Nm z
 nl:q.ns.length<=3
 so:q.ns.Pairwise Lt
noncomputable def Yi (z:Str):Option (Nat × Nat):=U_ (.str z)
noncomputable def fB:List Str->Option (List (Nat × Nat))
 | []=>some []
 | z::r=>match Yi z with
  | some p=>(fB r).map (p::·)
  | none=>none
noncomputable def YK:List Str->Option (List Str)
 | []=>some []
 | w::r=>if w="without"/\r≠[] then some r else none
noncomputable abbrev c6 (ws:List Str)(ms:List (Nat × Nat))(ns:List Str):PV:=.tup (sV (ws.take 3)++ms.map fr++[.tup (sV ns)])
noncomputable def Vu (ws:List Str)(ms:List (Nat × Nat)):Option (List Str)->Option PV
 | none=>none
 | some ns=>if dF (c6 ws ms ns)=true then some (c6 ws ms ns) else none
noncomputable def Va (ws:List Str)(m:Nat):Option (List (Nat × Nat))->Option PV
 | none=>none
 | some ms=>Vu ws ms (YK (ws.drop (3+m)))
noncomputable def T7 (ws:List Str):Option Int->Option PV
 | none=>none
 | some k=>Va ws k.toNat (fB ((ws.drop 3).take k.toNat))
noncomputable def Yq (ws:List Str):Option PV:=T7 ws (ZV.lookup (ws.headD ""))
noncomputable def Wh:PV->Option PV
 | .str z=>Yq (Txt.split z " ")
 | _=>none
noncomputable def R6:Option PV->PV
 | some v=>okR v
 | none=>RN 0
noncomputable def T8:Option PV->PV
 | some v=>v
 | none=>.non
noncomputable def woR:Option (List Str)->PV
 | some ns=>okR (.tup (sV ns))
 | none=>RN 0
structure v7 (z:Str):Prop where
 len:z.length<=640
 num:(Txt.split z " ").length<=40
 ok:PyData.strOk z=true
def TF (st:AH)(x:PV):Prop:=x.ZQ st.length=true/\∀z,x=.str z->v7 z
noncomputable def Tt:List Str->Option (Nat × Nat)
 | [a]=>if aM a=true then some (aU a,1) else none
 | [a,b]=>if aM a=true/\aM b=true/\2<=aU b then some (aU a,aU b) else none
 | _=>none
noncomputable def X6 (z:Str):Option (Nat × Nat):=Tt (Txt.split z "/")
noncomputable abbrev HP:List PV:=[.bl true,.bl false,.bl false,.bl false,.bl false,.bl true]
noncomputable def Br:Option PV->List PV
 | some _=>[]
 | none=>HP
abbrev Mo (s:ZX):Prop:=∀ {as:List PV}{st:AH}{Q Q':EK},(∀v st,Q v st->Q' v st)->s as st Q->s as st Q'
abbrev Ln (s:ZX)(n:Nat):Prop:=∀ {as:List PV}{st:AH}{Q:EK},s as st Q->as.length=n
local macro_rules | `(tactic| walk_at "MO")=>`(tactic| (intro as st Q Q' h q;repeat (first|exact h _ _ q|(obtain ⟨a,q⟩:=q;first|refine Exists.intro a ?_|refine And.intro a ?_)|(intro a;replace q:=q a))))
local macro_rules | `(tactic| walk_at "LN")=>`(tactic| (intro as st Q q;repeat (obtain ⟨a,q⟩:=q;try exact congrArg List.length a)))
def bt:ZX:=λas st Q=>∃p q:Nat × Nat,as=[fr p,fr q]/\(Hu p.1/\Hu p.2)/\(Hu q.1/\Hu q.2)/\Q (.bl (decide (p.1*q.2<q.1*p.2))) st
def i9:Mo bt:=by walk_at "MO"
def j_:Ln bt 2:=by walk_at "LN"
noncomputable abbrev eE:=bt
def me {as st Q Q'}(h:∀v st,Q v st->Q' v st)(q:bt as st Q):bt as st Q':=i9 h q
def m_ {as st Q}(q:bt as st Q):as.length=2:=j_ q
def bQ:ZX:=λas st Q=>∃n:Nat,as=[.int n]/\n<10 ^ 12/\Q (.str (nt n)) st
def lq:Mo bQ:=by walk_at "MO"
def mJ:Ln bQ 1:=by walk_at "LN"
def bz:ZX:=λas st Q=>∃p,as=[fr p]/\Fq p/\Q (.str (Ym p)) st
def jy:Mo bz:=by walk_at "MO"
def jL:Ln bz 1:=by walk_at "LN"
def bc:ZX:=λas st Q=>∃z:Str,as=[.str z]/\z.length<=5000/\Q (.bl (aM z)) st
def i2:Mo bc:=by walk_at "MO"
def jq:Ln bc 1:=by walk_at "LN"
def aW:ZX:=λas st Q=>∃z:Str,as=[.str z]/\z.length<=5000/\Q (if aM z=true then okR (.int (aU z)) else RN 0) st
def ej:Mo aW:=by walk_at "MO"
def mM:Ln aW 1:=by walk_at "LN"
def aA:ZX:=λas st Q=>∃x:PV,as=[x]/\Kx st x/\Q (frR (U_ x)) st
def c7:Mo aA:=by walk_at "MO"
def jR:Ln aA 1:=by walk_at "LN"
def bL:ZX:=λas st Q=>∃v,as=[v]/\Any st v/\Q (.bl (aI v)) st
def ki:Mo bL:=by walk_at "MO"
def lZ:Ln bL 1:=by walk_at "LN"
noncomputable abbrev cJ:=bL
def jM {as st Q Q'}(h:∀v st,Q v st->Q' v st)(q:bL as st Q):bL as st Q':=ki h q
def lK {as st Q}(q:bL as st Q):as.length=1:=lZ q
def dt:ZX:=λas st Q=>∃v,as=[v]/\Any st v/\Q (.bl (cW v)) st
def pD:Mo dt:=by walk_at "MO"
def tG:Ln dt 1:=by walk_at "LN"
def aP:ZX:=λas st Q=>∃x,as=[x]/\Qx st x/\Q (.bl (dF x)) st
def gb:Mo aP:=by walk_at "MO"
def g_:Ln aP 1:=by walk_at "LN"
noncomputable abbrev bO:=aP
def ie {as st Q Q'}(h:∀v st,Q v st->Q' v st)(q:aP as st Q):aP as st Q':=gb h q
def iD {as st Q}(q:aP as st Q):as.length=1:=g_ q
def aB:ZX:=λas st Q=>∃q,as=[qV q]/\Zk q/\Q (.str (qT q)) st
def fi:Mo aB:=by walk_at "MO"
def fO:Ln aB 1:=by walk_at "LN"
noncomputable abbrev e_:=aB
def oX {as st Q Q'}(h:∀v st,Q v st->Q' v st)(q:aB as st Q):aB as st Q':=fi h q
def pN {as st Q}(q:aB as st Q):as.length=1:=fO q
def aR:ZX:=λas st Q=>∃(n:Nat) (ws:List Str),as=[.ref n]/\st[n]?=some (.lst (sV ws))/\(∀z∈ws,PyData.strOk z=true)/\Q (woR (YK ws)) st
def dD:Mo aR:=by walk_at "MO"
def lC:Ln aR 1:=by walk_at "LN"
def aC:ZX:=λas st Q=>∃x,as=[x]/\TF st x/\Q (R6 (Wh x)) st
def de:Mo aC:=by walk_at "MO"
def ky:Ln aC 1:=by walk_at "LN"
def dv:ZX:=λas st Q=>∃(ns:List Int) (k:Nat),as=[.YM (ns.map .int),.int k]/\ns.length<=63/\k<64/\∀q r,PK q r->Q (.ref st.length) (st++[pc q r])
def pU:Mo dv:=by walk_at "MO"
def sj:Ln dv 2:=by walk_at "LN"
def cv:ZX:=λas st Q=>∃(p:Nat) (many:Int),as=[.ref p,.int many]/\W8 st p/\0<many/\many<2 ^ 200/\∀x st',0<=x->x<many->Gr st p st'->Q (.int x) st'
def nK:Mo cv:=by walk_at "MO"
def pH:Ln cv 2:=by walk_at "LN"
def dr:ZX:=λas st Q=>∃n d:Nat,as=[.int n,.int d]/\0<d/\d<2 ^ 8000/\Q (fr (mx n d)) st
def pS:Mo dr:=by walk_at "MO"
def sF:Ln dr 2:=by walk_at "LN"
def bR:ZX:=λas st Q=>∃p:Nat,as=[.ref p]/\W8 st p/\∀z st',Nm z->Gr st p st'->Q (.str z) st'
def lu:Mo bR:=by walk_at "MO"
def mP:Ln bR 1:=by walk_at "LN"
def bS:ZX:=λas st Q=>∃p:Nat,as=[.ref p]/\W8 st p/\∀f st',Fq f->Gr st p st'->Q (fr f) st'
def kR:Mo bS:=by walk_at "MO"
def mG:Ln bS 1:=by walk_at "LN"
def bu:ZX:=λas st Q=>∃p:Nat,as=[.ref p]/\W8 st p/\∀q st',Zk q->Gr st p st'->Q (qV q) st'
def jF:Mo bu:=by walk_at "MO"
def jZ:Ln bu 1:=by walk_at "LN"
def bb:ZX:=λas st Q=>∃v,as=[v]/\Any st v/\Xj v/\Q (.bl (bN v)) st
def i3:Mo bb:=by walk_at "MO"
def jJ:Ln bb 1:=by walk_at "LN"
def bX:ZX:=λas st Q=>∃(p:Nat) (q:Qd),as=[.ref p,qV q]/\W8 st p/\Zk q/\∀x st',Gr st p st'->Qx st' x->Q x st'
def my:Mo bX:=by walk_at "MO"
def oR:Ln bX 2:=by walk_at "LN"
def bP:ZX:=λas st Q=>∃(p:Nat) (q:Qd),as=[.ref p,qV q]/\W8 st p/\Zk q/\∀x st',Gr st p st'->TF st' x->Wh x=none->Q x st'
def kK:Mo bP:=by walk_at "MO"
def mK:Ln bP 2:=by walk_at "LN"
def aY:ZX:=λas st Q=>∃z:Str,as=[.str z]/\z.length<=640/\PyData.strOk z=true/\Q (TV (X6 z)) st
def ig:Mo aY:=by walk_at "MO"
def iz:Ln aY 1:=by walk_at "LN"
def cz:ZX:=λas st Q=>∃z:Str,as=[.str z]/\v7 z/\Q (T8 (Wh (.str z))) st
def nJ:Mo cz:=by walk_at "MO"
def pj:Ln cz 1:=by walk_at "LN"
def bH:ZX:=λas st Q=>∃(p:Nat) (z:Str),as=[.ref p,.str z]/\W8 st p/\z.length<=300/\(Txt.split z " ").length<=15/\PyData.strOk z=true/\∀y st',Gr st p st'->v7 y->Q (.str y) st'
def kz:Mo bH:=by walk_at "MO"
def kZ:Ln bH 2:=by walk_at "LN"
def bw:ZX:=λas st Q=>∃z:Str,as=[.str z]/\z.length<=1000/\PyData.strOk z=true/\∀b,Q (.bl b) st
def jA:Mo bw:=by walk_at "MO"
def jN:Ln bw 1:=by walk_at "LN"
def bE:ZX:=λas st Q=>∃x,as=[x]/\TF st x/\∀g:AH,Q (.ref (st.length+g.length)) (st++g++[.lst (Br (Wh x))])
def kA:Mo bE:=by walk_at "MO"
def lH:Ln bE 1:=by walk_at "LN"
def bI:ZX:=λas st Q=>∃z:Str,as=[.str z]/\v7 z/\Q (.bl true) st
def kj:Mo bI:=by walk_at "MO"
def kM:Ln bI 1:=by walk_at "LN"
noncomputable abbrev cO:PV:=(.str "without")
noncomputable abbrev wK:PV:=(gdV [("at",1),("by",1),("all",0),("few",1),("quick",2)])
noncomputable abbrev gW:PV:=(.int 8)
noncomputable abbrev nr:PV:=(.str "abcdefghijklmnopqrstuvwxyz")
noncomputable abbrev kD:PV:=(.int 10000000000000000000000000000000000000000000000000000000000000000)
noncomputable abbrev cB:PV:=(.int 64)
noncomputable abbrev o5:PV:=(.str "0123456789")
noncomputable def U:Nat->ZX
 | 0=>b_
 | 1=>aX
 | 2=>bA
 | 3=>bt
 | 4=>bQ
 | 5=>bz
 | 6=>bc
 | 7=>W5 aW
 | 8=>W5 aA
 | 9=>bL
 | 10=>dt
 | 11=>aP
 | 12=>aB
 | 13=>W5 aR
 | 14=>W5 aC
 | 15=>dv
 | 16=>cv
 | 17=>dr
 | 18=>eE
 | 19=>bR
 | 20=>bS
 | 21=>bu
 | 22=>cJ
 | 23=>bb
 | 24=>bO
 | 25=>bX
 | 26=>e_
 | 27=>bP
 | 28=>aY
 | 29=>cz
 | 30=>bH
 | 31=>bw
 | 32=>bE
 | 33=>bI
 | 34=>jf
 | _=>λ_ _ _=>False
def U_0:U 0=b_:=id rfl
def U_1:U 1=aX:=id rfl
def U_2:U 2=bA:=id rfl
def U_3:U 3=bt:=id rfl
def U_4:U 4=bQ:=id rfl
def U_5:U 5=bz:=id rfl
def U_6:U 6=bc:=id rfl
def U_7:U 7=W5 aW:=id rfl
def U_8:U 8=W5 aA:=id rfl
def U_9:U 9=bL:=id rfl
def Lr:U 10=dt:=id rfl
def KI:U 11=aP:=id rfl
def KA:U 12=aB:=id rfl
def Kj:U 13=W5 aR:=id rfl
def KN:U 14=W5 aC:=id rfl
def JF:U 15=dv:=id rfl
def Lp:U 16=cv:=id rfl
def KR:U 17=dr:=id rfl
def Lw:U 18=eE:=id rfl
def Lk:U 19=bR:=id rfl
def LA:U 20=bS:=id rfl
def Lj:U 21=bu:=id rfl
def J9:U 22=cJ:=id rfl
def Le:U 23=bb:=id rfl
def Lg:U 24=bO:=id rfl
def KD:U 25=bX:=id rfl
def K1:U 26=e_:=id rfl
def LC:U 27=bP:=id rfl
def Kc:U 28=aY:=id rfl
def Kz:U 29=cz:=id rfl
def Lf:U 30=bH:=id rfl
def Kg:U 31=bw:=id rfl
def KY:U 32=bE:=id rfl
def K8:U 33=bI:=id rfl
def Kr:U 34=jf:=id rfl
def Um:bj U:=by
 intro f vs st Q Q' h q
 match f,q with
 | 0,q=>exact pv (st:=st) h q
 | 1,q=>exact i5 (st:=st) h q
 | 2,q=>exact lI (st:=st) h q
 | 3,q=>exact i9 (st:=st) h q
 | 4,q=>exact lq (st:=st) h q
 | 5,q=>exact jy (st:=st) h q
 | 6,q=>exact i2 (st:=st) h q
 | 7,q=>exact jU (sp:=aW) ej h q
 | 8,q=>exact jU (sp:=aA) c7 h q
 | 9,q=>exact ki (st:=st) h q
 | 10,q=>exact pD (st:=st) h q
 | 11,q=>exact gb (st:=st) h q
 | 12,q=>exact fi (st:=st) h q
 | 13,q=>exact jU (sp:=aR) dD h q
 | 14,q=>exact jU (sp:=aC) de h q
 | 15,q=>exact pU (st:=st) h q
 | 16,q=>exact nK (st:=st) h q
 | 17,q=>exact pS (st:=st) h q
 | 18,q=>exact me (st:=st) h q
 | 19,q=>exact lu (st:=st) h q
 | 20,q=>exact kR (st:=st) h q
 | 21,q=>exact jF (st:=st) h q
 | 22,q=>exact jM (st:=st) h q
 | 23,q=>exact i3 (st:=st) h q
 | 24,q=>exact ie (st:=st) h q
 | 25,q=>exact my (st:=st) h q
 | 26,q=>exact oX (st:=st) h q
 | 27,q=>exact kK (st:=st) h q
 | 28,q=>exact ig (st:=st) h q
 | 29,q=>exact nJ (st:=st) h q
 | 30,q=>exact kz (st:=st) h q
 | 31,q=>exact jA (st:=st) h q
 | 32,q=>exact kA (st:=st) h q
 | 33,q=>exact kj (st:=st) h q
 | 34,q=>exact AS (st:=st) h q
 | _+35,q=>exact q.elim
noncomputable def UR:Nat->ZX
 | 7=>aW
 | 8=>aA
 | 13=>aR
 | 14=>aC
 | _=>λ_ _ _=>False
def J7:UR 7=aW:=id rfl
def Ld:UR 8=aA:=id rfl
def GU:UR 13=aR:=id rfl
def Hf:UR 14=aC:=id rfl
def URm:bj UR:=by
 intro f vs st Q Q' h q;unfold UR at q |-
 split at q
 ·exact ej (st:=st) h q
 ·exact c7 (st:=st) h q
 ·exact dD (st:=st) h q
 ·exact de (st:=st) h q
 simp[*]
noncomputable def FX:Xf:={ xs:=["NoText"],rz:=[7,8,13,14] }
noncomputable def Oz:List Str:=["HourError","NoText","NoTie","NotRight","NoDay","Overtaken"]
noncomputable def Kw (k i:Nat):Bool:=([true,true,false,false,false,false]:List Bool).getD (6*k+i) false
noncomputable def Md:List Str:=((["is_whole","common_divisor","is_fraction","is_below","number_text","fraction_text","is_number_text","read_number","read_fraction","is_name","is_names","is_question","question_text","read_without","read_question","_law_pot","_law_take","_law_low","_law_under","_law_called","_law_moment","_law_question","_law_is_name","_law_is_moment","_law_is_question","_law_other","_law_text","_law_spoilt","_law_told_moment","_law_read"]:List Str)++(["_law_altered","_law_is_plain","_law_refused","_law_as_read","law"]:List Str))
noncomputable def HS:List Str:=["isinstance","int","bool","tuple","len","str","divmod","all","range","zip","any","list","max","sorted","set","ValueError","min"]
noncomputable def Qk:List (Str × PV):=[("FIGURES",o5),("BLOCK_FIGURES",cB),("BLOCK",kD),("LETTERS",nr),("MOST_LETTERS",gW),("MOMENTS",wK),("WITHOUT_WORD",cO)]
noncomputable def Y5 (N:List Str)(s:Stmt)(k:Nat):Cfg:={ N:=N,names:=(af s).names,fns:=Md,lim:=k,YB:=HS,gl:=Qk }
local macro_rules | `(tactic| walk_at "SC")=>`(tactic| exact ⟨rfl,rfl,rfl,by decide +kernel,rfl,by decide +kernel,by decide +kernel⟩)
noncomputable abbrev gD:Stmt:=top 11
def uj:ar ["thing"] ["thing"] (af gD):=by walk_at "SC"
noncomputable def nA:Cfg:=Y5 ["thing"] gD 0
noncomputable def fT:Ss:=(.cons (.ret (.Zt true (.cons (.inst (.var 0) "int") (.cons (.not (.inst (.var 0) "bool")) .nil)))) .nil)
def vI:aT nA  fT (ai gD)=true:=by solve_by_elim
noncomputable abbrev cq:Stmt:=top 12
def jO:ar ["n","d"] ["n","d"] (af cq):=by walk_at "SC"
noncomputable def gm:Cfg:=Y5 ["n","d"] cq 1
noncomputable def cF:Ss:=(.cons (.Zh (.cmp .NotEq (.var 1) (.int 0)) (.cons (.par 0 1 (.var 1) (.bin .Mod (.var 0) (.var 1))) .nil)) (.cons (.ret (.var 0)) .nil))
def lG:aT gm  cF (ai cq)=true:=by solve_by_elim
noncomputable abbrev eD:Stmt:=top 13
def oJ:ar ["thing","n","d"] ["thing"] (af eD):=by walk_at "SC"
noncomputable def jo:Cfg:=Y5 ["thing","n","d"] eD 2
noncomputable def dW:Ss:=(.cons (.Zf (.Zt false (.cons (.not (.Y_ (.inst (.var 0) "tuple"))) (.cons (.cmp .NotEq (.blt .len (.cons (.var 0) .nil)) (.int 2)) .nil))) (.cons (.ret (.bl false)) .nil) .nil) (.cons (.set (.tup (.cons (.name 1) (.cons (.name 2) .nil))) (.var 0)) (.cons (.Zf (.Zt false (.cons (.not (.Y_ (.call 0 (.cons (.var 1) .nil)))) (.cons (.not (.Y_ (.call 0 (.cons (.var 2) .nil)))) .nil))) (.cons (.ret (.bl false)) .nil) .nil) (.cons (.ret (.Zt true (.cons (.cmp .GtE (.var 1) (.int 0)) (.cons (.cmp .GtE (.var 2) (.int 1)) (.cons (.cmp .Eq (.call 1 (.cons (.var 1) (.cons (.var 2) .nil))) (.int 1)) .nil))))) .nil))))
def pk:aT jo  dW (ai eD)=true:=by solve_by_elim
noncomputable abbrev gw:Stmt:=top 14
def tW:ar ["one","other"] ["one","other"] (af gw):=by walk_at "SC"
noncomputable def nM:Cfg:=Y5 ["one","other"] gw 3
noncomputable def fV:Ss:=(.cons (.ret (.cmp .Lt (.bin .Mult (.ix (.var 0) (.int 0)) (.ix (.var 1) (.int 1))) (.bin .Mult (.ix (.var 1) (.int 0)) (.ix (.var 0) (.int 1))))) .nil)
def vR:aT nM  fV (ai gw)=true:=by solve_by_elim
noncomputable abbrev eA:Stmt:=top 15
def oj:ar ["number","blocks","rest"] ["number"] (af eA):=by walk_at "SC"
noncomputable def jg:Cfg:=Y5 ["number","blocks","rest"] eA 4
noncomputable def dY:Ss:=(.cons (.set (.name 1) (.lst .nil)) (.cons (.Zh (.cmp .GtE (.var 0) (.gv "BLOCK" kD)) (.cons (.set (.tup (.cons (.name 0) (.cons (.name 2) .nil))) (.blt .divmod (.cons (.var 0) (.cons (.gv "BLOCK" kD) .nil)))) (.cons (.expr (.met .append (.var 1) (.cons .bad .nil))) .nil))) (.cons (.expr (.met .append (.var 1) (.cons (.blt .str1 (.cons (.var 0) .nil)) .nil))) (.cons (.ret (.Xg (.var 1))) .nil))))
def pJ:aT jg  dY (ai eA)=true:=by solve_by_elim
noncomputable abbrev cP:Stmt:=top 16
def kU:ar ["moment","n","d"] ["moment"] (af cP):=by walk_at "SC"
noncomputable def gZ:Cfg:=Y5 ["moment","n","d"] cP 5
noncomputable def cY:Ss:=(.cons (.set (.tup (.cons (.name 1) (.cons (.name 2) .nil))) (.var 0)) (.cons (.Zf (.cmp .Eq (.var 2) (.int 1)) (.cons (.ret (.call 4 (.cons (.var 1) .nil))) .nil) .nil) (.cons (.ret (.bin .Add (.bin .Add (.call 4 (.cons (.var 1) .nil)) (.str "/")) (.call 4 (.cons (.var 2) .nil)))) .nil)))
def mR:aT gZ  cY (ai cP)=true:=by solve_by_elim
noncomputable abbrev cw:Stmt:=top 17
def jY:ar ["text"] ["text"] (af cw):=by walk_at "SC"
noncomputable def gh:Cfg:=Y5 ["text"] cw 6
noncomputable def cE:Ss:=(.cons (.Zf (.Zt false (.cons (.cmp .Eq (.var 0) (.str "")) (.cons (.not (.Y_ (.tmp (.blt .all1 (.cons (.comp (.cmp .In (.var 0) (.gv "FIGURES" o5)) (.name 0) (.chars (.var 0)) .nil ["sign"] []) .nil))))) .nil))) (.cons (.ret (.bl false)) .nil) .nil) (.cons (.ret (.Zt false (.cons (.cmp .Eq (.var 0) (.str "0")) (.cons (.cmp .NotEq (.ix (.var 0) (.int 0)) (.str "0")) .nil)))) .nil))
def lr:aT gh  cE (ai cw)=true:=by solve_by_elim
noncomputable abbrev et:Stmt:=top 18
def nC:ar ["text","head","number","at"] ["text"] (af et):=by walk_at "SC"
noncomputable def ja:Cfg:=Y5 ["text","head","number","at"] et 7
noncomputable def dS:Xp:=(.cons (.Wn (.not (.Y_ (.call 6 (.cons (.var 0) .nil)))) (.cons (.raise 0) .nil) .nil) (.cons (.st (.set (.name 1) (.bin .Mod (.blt .len (.cons (.var 0) .nil)) (.gv "BLOCK_FIGURES" cB)))) (.cons (.st (.set (.name 2) (.blt .Yv (.cons (.bin .Add (.str "0") (.sl (.var 0) .no (.yes (.var 1)))) .nil)))) (.cons (.st (.Yg (.name 3) (.YS (.var 1) (.blt .len (.cons (.var 0) .nil)) (.gv "BLOCK_FIGURES" cB)) (.cons (.set (.name 2) (.bin .Add (.bin .Mult (.var 2) (.gv "BLOCK" kD)) (.tmp (.blt .Yv (.cons (.sl (.var 0) (.yes (.var 3)) (.yes (.bin .Add (.var 3) (.gv "BLOCK_FIGURES" cB)))) .nil))))) .nil))) (.cons (.st (.ret (.var 2))) .nil)))))
def pC:gX ja FX dS (ai et)=true:=by solve_by_elim
noncomputable abbrev cN:Stmt:=top 19
def k_:ar ["text","above","slash","below","n","d"] ["text"] (af cN):=by walk_at "SC"
noncomputable def hJ:Cfg:=Y5 ["text","above","slash","below","n","d"] cN 8
noncomputable def cS:Xp:=(.cons (.Wn (.not (.Y_ (.inst (.var 0) "str"))) (.cons (.raise 0) .nil) .nil) (.cons (.st (.set (.tup (.cons (.name 1) (.cons (.name 2) (.cons (.name 3) .nil)))) (.part (.var 0) "/"))) (.cons (.Xz 4 7 (.cons (.var 1) .nil)) (.cons (.st (.Zf (.cmp .Eq (.var 2) (.str "")) (.cons (.ret (.tup (.cons (.var 4) (.cons (.int 1) .nil)))) .nil) .nil)) (.cons (.Xz 5 7 (.cons (.var 3) .nil)) (.cons (.Wn (.Zt false (.cons (.cmp .Lt (.var 5) (.int 2)) (.cons (.cmp .NotEq (.call 1 (.cons (.var 4) (.cons (.var 5) .nil))) (.int 1)) .nil))) (.cons (.raise 0) .nil) .nil) (.cons (.st (.ret (.tup (.cons (.var 4) (.cons (.var 5) .nil))))) .nil)))))))
def mI:gX hJ FX cS (ai cN)=true:=by solve_by_elim
noncomputable abbrev iS:Stmt:=top 23
def wA:ar ["thing"] ["thing"] (af iS):=by walk_at "SC"
noncomputable def qu:Cfg:=Y5 ["thing"] iS 9
noncomputable def gQ:Ss:=(.cons (.Zf (.Zt false (.cons (.not (.Y_ (.inst (.var 0) "str"))) (.cons (.cmp .Eq (.var 0) (.str "")) (.cons (.cmp .Gt (.blt .len (.cons (.var 0) .nil)) (.gv "MOST_LETTERS" gW)) .nil)))) (.cons (.ret (.bl false)) .nil) .nil) (.cons (.ret (.tmp (.blt .all1 (.cons (.comp (.cmp .In (.var 0) (.gv "LETTERS" nr)) (.name 0) (.chars (.var 0)) .nil ["sign"] []) .nil)))) .nil))
def zo:aT qu  gQ (ai iS)=true:=by solve_by_elim
noncomputable abbrev gI:Stmt:=top 24
def vm:ar ["thing"] ["thing"] (af gI):=by walk_at "SC"
noncomputable def ou:Cfg:=Y5 ["thing"] gI 10
noncomputable def fW:Ss:=(.cons (.Zf (.Zt false (.cons (.not (.Y_ (.inst (.var 0) "tuple"))) (.cons (.not (.Y_ (.tmp (.blt .all1 (.cons (.comp (.call 9 (.cons (.var 0) .nil)) (.name 0) (.seq (.var 0)) .nil ["name"] []) .nil))))) .nil))) (.cons (.ret (.bl false)) .nil) .nil) (.cons (.ret (.tmp (.blt .all1 (.cons (.comp (.cmp .Lt (.var 0) (.var 1)) (.tup (.cons (.name 0) (.cons (.name 1) .nil))) (.zip (.var 0) (.sl (.var 0) (.yes (.int 1)) .no)) .nil ["ahead","name"] []) .nil)))) .nil))
def wc:aT ou  fW (ai gI)=true:=by solve_by_elim
noncomputable abbrev eB:Stmt:=top 28
def oa:ar ["thing","moments"] ["thing"] (af eB):=by walk_at "SC"
noncomputable def je:Cfg:=Y5 ["thing","moments"] eB 11
noncomputable def dP:Ss:=(.cons (.Zf (.Zt false (.cons (.not (.Y_ (.inst (.var 0) "tuple"))) (.cons (.cmp .Lt (.blt .len (.cons (.var 0) .nil)) (.int 4)) (.cons (.not (.Y_ (.inst (.ix (.var 0) (.int 0)) "str"))) .nil)))) (.cons (.ret (.bl false)) .nil) .nil) (.cons (.Zf (.Zt false (.cons (.un (.V9 true "MOMENTS" [("at",1),("by",1),("all",0),("few",1),("quick",2)]) (.ix (.var 0) (.int 0))) (.cons (.cmp .NotEq (.blt .len (.cons (.var 0) .nil)) (.bin .Add (.int 4) (.un (.VG "MOMENTS" [("at",1),("by",1),("all",0),("few",1),("quick",2)]) (.ix (.var 0) (.int 0))))) .nil))) (.cons (.ret (.bl false)) .nil) .nil) (.cons (.Zf (.Zt false (.cons (.not (.Y_ (.call 9 (.cons (.ix (.var 0) (.int 1)) .nil)))) (.cons (.not (.Y_ (.call 9 (.cons (.ix (.var 0) (.int 2)) .nil)))) (.cons (.not (.Y_ (.call 10 (.cons (.ix (.var 0) (.neg (.int 1))) .nil)))) .nil)))) (.cons (.ret (.bl false)) .nil) .nil) (.cons (.set (.name 1) (.sl (.var 0) (.yes (.int 3)) (.yes (.neg (.int 1))))) (.cons (.Zf (.not (.Y_ (.tmp (.blt .all1 (.cons (.comp (.call 2 (.cons (.var 0) .nil)) (.name 0) (.seq (.var 1)) .nil ["moment"] []) .nil))))) (.cons (.ret (.bl false)) .nil) .nil) (.cons (.ret (.not (.tmp (.blt .W9 (.cons (.comp (.call 3 (.cons (.var 1) (.cons (.var 0) .nil))) (.tup (.cons (.name 0) (.cons (.name 1) .nil))) (.zip (.var 1) (.sl (.var 1) (.yes (.int 1)) .no)) .nil ["moment","later"] []) .nil))))) .nil))))))
def pM:aT je  dP (ai eB)=true:=by solve_by_elim
noncomputable abbrev cR:Stmt:=top 29
def kX:ar ["question","names","words"] ["question"] (af cR):=by walk_at "SC"
noncomputable def hV:Cfg:=Y5 ["question","names","words"] cR 12
noncomputable def cT:Ss:=(.cons (.set (.name 1) (.blt .list1 (.cons (.ix (.var 0) (.neg (.int 1))) .nil))) (.cons (.set (.name 2) (.bin .Add (.blt .list1 (.cons (.sl (.var 0) .no (.yes (.int 3))) .nil)) (.comp (.call 5 (.cons (.var 0) .nil)) (.name 0) (.seq (.sl (.var 0) (.yes (.int 3)) (.yes (.neg (.int 1))))) .nil ["moment"] []))) (.cons (.Zf (.cmp .NotEq (.var 1) (.lst .nil)) (.cons (.aug 2 .Add (.bin .Add (.lst (.cons (.gv "WITHOUT_WORD" cO) .nil)) (.var 1))) .nil) .nil) (.cons (.ret (.XF .join (.str " ") (.var 2))) .nil))))
def mL:aT hV  cT (ai cR)=true:=by solve_by_elim
noncomputable abbrev dM:Stmt:=top 30
def mn:ar ["words"] ["words"] (af dM):=by walk_at "SC"
noncomputable def iE:Cfg:=Y5 ["words"] dM 13
noncomputable def dB:Xp:=(.cons (.st (.Zf (.cmp .Eq (.var 0) (.lst .nil)) (.cons (.ret (.tup .nil)) .nil) .nil)) (.cons (.Wn (.Zt false (.cons (.cmp .NotEq (.ix (.var 0) (.int 0)) (.gv "WITHOUT_WORD" cO)) (.cons (.cmp .Lt (.blt .len (.cons (.var 0) .nil)) (.int 2)) .nil))) (.cons (.raise 0) .nil) .nil) (.cons (.st (.ret (.tmp (.blt .tuple1 (.cons (.sl (.var 0) (.yes (.int 1)) .no) .nil))))) .nil)))
def pe:gX iE FX dB (ai dM)=true:=by solve_by_elim
noncomputable abbrev cK:Stmt:=top 31
def lE:ar ["text","words","behind","moments","question"] ["text"] (af cK):=by walk_at "SC"
noncomputable def h_:Cfg:=Y5 ["text","words","behind","moments","question"] cK 14
noncomputable def cU:Xp:=(.cons (.Wn (.not (.Y_ (.inst (.var 0) "str"))) (.cons (.raise 0) .nil) .nil) (.cons (.st (.set (.name 1) (.XF .split (.var 0) (.str " ")))) (.cons (.Wn (.un (.V9 true "MOMENTS" [("at",1),("by",1),("all",0),("few",1),("quick",2)]) (.ix (.var 1) (.int 0))) (.cons (.raise 0) .nil) .nil) (.cons (.st (.set (.name 2) (.bin .Add (.int 3) (.un (.VG "MOMENTS" [("at",1),("by",1),("all",0),("few",1),("quick",2)]) (.ix (.var 1) (.int 0)))))) (.cons (.Yx 3 8 (.seq (.sl (.var 1) (.yes (.int 3)) (.yes (.var 2)))) "word") (.cons (.Xy 4 (.blt .tuple1 (.cons (.bin .Add (.sl (.var 1) .no (.yes (.int 3))) (.var 3)) .nil)) 13 (.cons (.sl (.var 1) (.yes (.var 2)) .no) .nil)) (.cons (.Wn (.not (.Y_ (.call 11 (.cons (.var 4) .nil)))) (.cons (.raise 0) .nil) .nil) (.cons (.st (.ret (.var 4))) .nil))))))))
def mf:gX h_ FX cU (ai cK)=true:=by solve_by_elim
noncomputable abbrev gA:Stmt:=top 33
def uf:ar ["_law_script","_law_k","_law_cell"] ["_law_script","_law_k"] (af gA):=by walk_at "SC"
noncomputable def oO:Cfg:=Y5 ["_law_script","_law_k","_law_cell"] gA 15
noncomputable def fZ:Ss:=(.cons (.set (.name 2) (.ite (.cmp .Lt (.var 1) (.blt .len (.cons (.var 0) .nil))) (.ix (.var 0) (.var 1)) (.int 0))) (.cons (.ret (.lst (.cons (.blt .max2 (.cons (.int 0) (.cons (.bin .Sub (.var 2) (.bin .Pow (.int 10) (.int 18))) .nil))) (.cons (.bin .Mod (.bin .Add (.bin .Add (.bin .Mult (.bin .Mod (.var 2) (.int 2147483587)) (.int 39119)) (.bin .Mult (.int 7919) (.var 1))) (.int 41)) (.int 2147483629)) .nil)))) .nil))
def vX:aT oO  fZ (ai gA)=true:=by solve_by_elim
noncomputable abbrev fL:Stmt:=top 34
def sI:ar ["_law_pot_here","_law_many","_law_digit"] ["_law_pot_here","_law_many"] (af fL):=by walk_at "SC"
noncomputable def lP:Cfg:=Y5 ["_law_pot_here","_law_many","_law_digit"] fL 16
noncomputable def fz:Ss:=(.cons (.Zf (.cmp .Gt (.ix (.var 0) (.int 0)) (.int 0)) (.cons (.set (.tup (.cons (.sub (.var 0) (.int 0)) (.cons (.name 2) .nil))) (.blt .divmod (.cons (.ix (.var 0) (.int 0)) (.cons (.var 1) .nil)))) (.cons (.ret (.var 2)) .nil)) .nil) (.cons (.set (.sub (.var 0) (.int 1)) (.bin .Mod (.bin .Add (.bin .Mult (.ix (.var 0) (.int 1)) (.int 40487)) (.int 12289)) (.int 2147483629))) (.cons (.ret (.bin .Mod (.bin .FloorDiv (.bin .Mod (.bin .Mult (.ix (.var 0) (.int 1)) (.ix (.var 0) (.int 1))) (.int 2147483563)) (.int 13)) (.var 1))) .nil)))
def tM:aT lP  fz (ai fL)=true:=by solve_by_elim
noncomputable abbrev gN:Stmt:=top 35
def uI:ar ["_law_n","_law_d","_law_one","_law_other_here"] ["_law_n","_law_d"] (af gN):=by walk_at "SC"
noncomputable def n_:Cfg:=Y5 ["_law_n","_law_d","_law_one","_law_other_here"] gN 17
noncomputable def fU:Ss:=(.cons (.par 2 3 (.var 0) (.var 1)) (.cons (.Zh (.cmp .Gt (.var 3) (.int 0)) (.cons (.par 2 3 (.var 3) (.bin .Mod (.var 2) (.var 3))) .nil)) (.cons (.ret (.tup (.cons (.bin .FloorDiv (.var 0) (.var 2)) (.cons (.bin .FloorDiv (.var 1) (.var 2)) .nil)))) .nil)))
def wB:aT n_  fU (ai gN)=true:=by solve_by_elim
noncomputable abbrev e8:Stmt:=top 36
def pK:ar ["_law_one","_law_other_here"] ["_law_one","_law_other_here"] (af e8):=by walk_at "SC"
noncomputable def ko:Cfg:=Y5 ["_law_one","_law_other_here"] e8 18
noncomputable def eV:Ss:=(.cons (.ret (.cmp .Lt (.bin .Mult (.ix (.var 0) (.int 0)) (.ix (.var 1) (.int 1))) (.bin .Mult (.ix (.var 1) (.int 0)) (.ix (.var 0) (.int 1))))) .nil)
def rK:aT ko  eV (ai e8)=true:=by solve_by_elim
noncomputable abbrev eH:Stmt:=top 37
def nS:ar ["_law_pot_here"] ["_law_pot_here"] (af eH):=by walk_at "SC"
noncomputable def jd:Cfg:=Y5 ["_law_pot_here"] eH 19
noncomputable def dR:Ss:=(.cons (.Zf (.cmp .Eq (.call 16 (.cons (.var 0) (.cons (.int 3) .nil))) (.int 0)) (.cons (.ret (.tmp (.ix (.lst (.cons (.str "at") (.cons (.str "by") (.cons (.str "all") (.cons (.str "few") (.cons (.str "quick") (.cons (.str "without") (.cons (.str "a") (.cons (.str "abcdefgh") .nil))))))))) (.call 16 (.cons (.var 0) (.cons (.int 8) .nil)))))) .nil) .nil) (.cons (.ret (.tmp (.XF .join (.str "") (.comp (.ix (.str "abcdefghijklmnopqrstuvwxyz") (.call 16 (.cons (.var 1) (.cons (.int 26) .nil)))) (.name 0) (.Zy (.bin .Add (.int 1) (.call 16 (.cons (.var 0) (.cons (.int 8) .nil))))) .nil ["_law_k"] [0])))) .nil))
def ph:aT jd  dR (ai eH)=true:=by solve_by_elim
noncomputable abbrev eJ:Stmt:=top 38
def nV:ar ["_law_pot_here","_law_n"] ["_law_pot_here"] (af eJ):=by walk_at "SC"
noncomputable def ji:Cfg:=Y5 ["_law_pot_here","_law_n"] eJ 20
noncomputable def d_:Ss:=(.cons (.set (.name 1) (.call 16 (.cons (.var 0) (.cons (.tmp (.ix (.lst (.cons (.int 9) (.cons (.bin .Pow (.int 10) (.int 12)) .nil))) (.call 16 (.cons (.var 0) (.cons (.int 2) .nil))))) .nil)))) (.cons (.ret (.call 17 (.cons (.var 1) (.cons (.bin .Add (.int 1) (.call 16 (.cons (.var 0) (.cons (.tmp (.ix (.lst (.cons (.int 1) (.cons (.int 7) (.cons (.bin .Pow (.int 10) (.int 11)) .nil)))) (.call 16 (.cons (.var 0) (.cons (.int 3) .nil))))) .nil)))) .nil)))) .nil))
def pV:aT ji  d_ (ai eJ)=true:=by solve_by_elim
noncomputable abbrev cM:Stmt:=top 39
def kJ:ar ["_law_pot_here","_law_word","_law_moments","_law_names"] ["_law_pot_here"] (af cM):=by walk_at "SC"
noncomputable def hU:Cfg:=Y5 ["_law_pot_here","_law_word","_law_moments","_law_names"] cM 21
noncomputable def c8:Ss:=(.cons (.set (.name 1) (.tmp (.ix (.lst (.cons (.str "at") (.cons (.str "by") (.cons (.str "all") (.cons (.str "few") (.cons (.str "quick") .nil)))))) (.call 16 (.cons (.var 0) (.cons (.int 5) .nil)))))) (.cons (.set (.name 2) (.un .X4 (.comp (.call 20 (.cons (.var 1) .nil)) (.name 0) (.Zy (.un (.Yn [("all",0),("quick",2)] (some 1)) (.var 1))) .nil ["_law_k"] [0]))) (.cons (.Zf (.Zt true (.cons (.cmp .Eq (.var 1) (.str "quick")) (.cons (.Y_ (.call 18 (.cons (.ix (.var 2) (.int 1)) (.cons (.ix (.var 2) (.int 0)) .nil)))) .nil))) (.cons (.set (.name 2) (.un .X3 (.var 2))) .nil) .nil) (.cons (.set (.name 3) (.un .VM (.comp (.call 19 (.cons (.var 1) .nil)) (.name 0) (.Zy (.call 16 (.cons (.var 0) (.cons (.int 4) .nil)))) .nil ["_law_k"] [0]))) (.cons (.ret (.bin .Add (.bin .Add (.tup (.cons (.var 1) (.cons (.call 19 (.cons (.var 0) .nil)) (.cons (.call 19 (.cons (.var 0) .nil)) .nil)))) (.blt .tuple1 (.cons (.var 2) .nil))) (.tup (.cons (.blt .tuple1 (.cons (.var 3) .nil)) .nil)))) .nil)))))
def mC:aT hU  c8 (ai cM)=true:=by solve_by_elim
noncomputable abbrev dz:Stmt:=top 40
def mF:ar ["_law_thing"] ["_law_thing"] (af dz):=by walk_at "SC"
noncomputable def iC:Cfg:=Y5 ["_law_thing"] dz 22
noncomputable def dE:Ss:=(.cons (.Zf (.Zt false (.cons (.not (.Y_ (.inst (.var 0) "str"))) (.cons (.cmp .Eq (.var 0) (.str "")) (.cons (.cmp .Gt (.blt .len (.cons (.var 0) .nil)) (.int 8)) .nil)))) (.cons (.ret (.bl false)) .nil) .nil) (.cons (.ret (.un .Vs (.comp (.var 0) (.name 0) (.chars (.var 0)) (.cons (.cmp .NotIn (.var 0) (.str "abcdefghijklmnopqrstuvwxyz")) .nil) ["_law_sign"] []))) .nil))
def n6:aT iC  dE (ai dz)=true:=by solve_by_elim
noncomputable abbrev cm:Stmt:=top 41
def kg:ar ["_law_thing"] ["_law_thing"] (af cm):=by walk_at "SC"
noncomputable def gj:Cfg:=Y5 ["_law_thing"] cm 23
noncomputable def cD:Ss:=(.cons (.Zf (.Zt false (.cons (.not (.Y_ (.inst (.var 0) "tuple"))) (.cons (.cmp .NotEq (.blt .len (.cons (.var 0) .nil)) (.int 2)) .nil))) (.cons (.ret (.bl false)) .nil) .nil) (.cons (.Zf (.cmp .NotEq (.comp (.var 0) (.name 0) (.seq (.var 0)) (.cons (.Zt false (.cons (.not (.Y_ (.inst (.var 0) "int"))) (.cons (.Y_ (.inst (.var 0) "bool")) .nil))) .nil) ["_law_one"] []) (.lst .nil)) (.cons (.ret (.bl false)) .nil) .nil) (.cons (.ret (.Zt true (.cons (.cmp .GtE (.ix (.var 0) (.int 0)) (.int 0)) (.cons (.cmp .Gt (.ix (.var 0) (.int 1)) (.int 0)) (.cons (.cmp .Eq (.call 17 (.cons (.ix (.var 0) (.int 0)) (.cons (.ix (.var 0) (.int 1)) .nil))) (.var 0)) .nil))))) .nil)))
def kO:aT gj  cD (ai cm)=true:=by solve_by_elim
noncomputable abbrev bW:Stmt:=top 42
def i4:ar ["_law_thing","_law_many","_law_names"] ["_law_thing"] (af bW):=by walk_at "SC"
noncomputable def fo:Cfg:=Y5 ["_law_thing","_law_many","_law_names"] bW 24
noncomputable def bY:Ss:=(.cons (.Zf (.Zt false (.cons (.not (.Y_ (.inst (.var 0) "tuple"))) (.cons (.cmp .Lt (.blt .len (.cons (.var 0) .nil)) (.int 4)) (.cons (.cmp .NotIn (.ix (.var 0) (.int 0)) (.lst (.cons (.str "at") (.cons (.str "by") (.cons (.str "all") (.cons (.str "few") (.cons (.str "quick") .nil))))))) .nil)))) (.cons (.ret (.bl false)) .nil) .nil) (.cons (.set (.name 1) (.un (.Yn [("all",0),("quick",2)] (some 1)) (.ix (.var 0) (.int 0)))) (.cons (.set (.name 2) (.ix (.var 0) (.neg (.int 1)))) (.cons (.Zf (.Zt false (.cons (.cmp .NotEq (.blt .len (.cons (.var 0) .nil)) (.bin .Add (.int 4) (.var 1))) (.cons (.not (.Y_ (.inst (.var 2) "tuple"))) (.cons (.not (.Y_ (.call 22 (.cons (.ix (.var 0) (.int 1)) .nil)))) .nil)))) (.cons (.ret (.bl false)) .nil) .nil) (.cons (.Zf (.Zt false (.cons (.not (.Y_ (.tmp (.blt .all1 (.cons (.comp (.call 22 (.cons (.var 0) .nil)) (.name 0) (.seq (.bin .Add (.var 2) (.sl (.var 0) (.yes (.int 2)) (.yes (.int 3))))) .nil ["_law_one"] []) .nil))))) (.cons (.cmp .NotEq (.blt .list1 (.cons (.var 2) .nil)) (.un .VM (.var 2))) .nil))) (.cons (.ret (.bl false)) .nil) .nil) (.cons (.Zf (.not (.Y_ (.tmp (.blt .all1 (.cons (.comp (.call 23 (.cons (.var 0) .nil)) (.name 0) (.seq (.sl (.var 0) (.yes (.int 3)) (.yes (.neg (.int 1))))) .nil ["_law_one"] []) .nil))))) (.cons (.ret (.bl false)) .nil) .nil) (.cons (.ret (.Zt false (.cons (.cmp .Lt (.var 1) (.int 2)) (.cons (.not (.call 18 (.cons (.ix (.var 0) (.int 4)) (.cons (.ix (.var 0) (.int 3)) .nil)))) .nil)))) .nil)))))))
def jE:aT fo  bY (ai bW)=true:=by solve_by_elim
noncomputable abbrev eZ:Stmt:=top 43
def pG:ar ["_law_pot_here","_law_question_here","_law_word","_law_a","_law_b","_law_inner","_law_names","_law_some"] ["_law_pot_here","_law_question_here"] (af eZ):=by walk_at "SC"
noncomputable def kr:Cfg:=Y5 ["_law_pot_here","_law_question_here","_law_word","_law_a","_law_b","_law_inner","_law_names","_law_some"] eZ 25
noncomputable def eX:Ss:=(.cons (.set (.tup (.cons (.name 2) (.cons (.name 3) (.cons (.name 4) .nil)))) (.sl (.var 1) .no (.yes (.int 3)))) (.cons (.set (.name 5) (.sl (.var 1) (.yes (.int 3)) (.yes (.neg (.int 1))))) (.cons (.set (.name 6) (.ix (.var 1) (.neg (.int 1)))) (.cons (.set (.name 7) (.lst (.cons (.blt .list1 (.cons (.var 1) .nil)) (.cons (.sl (.var 1) .no (.yes (.neg (.int 1)))) (.cons (.bin .Add (.var 1) (.tup (.cons (.tup .nil) .nil))) (.cons (.sl (.var 1) (.yes (.int 1)) .no) (.cons (.tup .nil) (.cons .non (.cons (.int 7) (.cons (.var 2) .nil)))))))))) (.cons (.set (.name 7) (.bin .Add (.var 7) (.lst (.cons (.bin .Add (.bin .Add (.tup (.cons (.var 2) (.cons (.var 3) .nil))) (.var 5)) (.tup (.cons (.var 6) .nil))) (.cons (.bin .Add (.bin .Add (.tup (.cons (.var 2) (.cons (.var 3) (.cons (.var 4) (.cons (.tup (.cons (.int 1) (.cons (.int 2) .nil))) .nil))))) (.var 5)) (.tup (.cons (.var 6) .nil))) .nil))))) (.cons (.set (.name 7) (.bin .Add (.var 7) (.lst (.cons (.bin .Add (.bin .Add (.tup (.cons (.str "At") (.cons (.var 3) (.cons (.var 4) .nil)))) (.var 5)) (.tup (.cons (.var 6) .nil))) .nil)))) (.cons (.set (.name 7) (.bin .Add (.var 7) (.lst (.cons (.bin .Add (.bin .Add (.tup (.cons (.var 2) (.cons (.un .VP (.var 3)) (.cons (.var 4) .nil)))) (.var 5)) (.tup (.cons (.var 6) .nil))) (.cons (.bin .Add (.bin .Add (.tup (.cons (.var 2) (.cons (.var 3) (.cons (.str "abcdefghi") .nil)))) (.var 5)) (.tup (.cons (.var 6) .nil))) .nil))))) (.cons (.set (.name 7) (.bin .Add (.var 7) (.lst (.cons (.bin .Add (.bin .Add (.tup (.cons (.var 2) (.cons (.var 3) (.cons (.str "") .nil)))) (.var 5)) (.tup (.cons (.var 6) .nil))) (.cons (.bin .Add (.bin .Add (.tup (.cons (.var 2) (.cons (.var 3) (.cons (.int 7) .nil)))) (.var 5)) (.tup (.cons (.var 6) .nil))) .nil))))) (.cons (.set (.name 7) (.bin .Add (.var 7) (.lst (.cons (.bin .Add (.bin .Add (.tup (.cons (.var 2) (.cons (.var 3) (.cons (.var 4) .nil)))) (.var 5)) (.tup (.cons (.blt .list1 (.cons (.var 6) .nil)) .nil))) .nil)))) (.cons (.set (.name 7) (.bin .Add (.var 7) (.lst (.cons (.bin .Add (.bin .Add (.tup (.cons (.var 2) (.cons (.var 3) (.cons (.var 4) .nil)))) (.var 5)) (.tup (.cons (.bin .Add (.var 6) (.tup (.cons (.str "a") .nil))) .nil))) (.cons (.bin .Add (.bin .Add (.tup (.cons (.var 2) (.cons (.var 3) (.cons (.var 4) .nil)))) (.var 5)) (.tup (.cons (.tup (.cons (.str "b") (.cons (.str "a") .nil))) .nil))) .nil))))) (.cons (.set (.name 7) (.bin .Add (.var 7) (.lst (.cons (.bin .Add (.bin .Add (.tup (.cons (.var 2) (.cons (.var 3) (.cons (.var 4) .nil)))) (.var 5)) (.tup (.cons (.tup (.cons (.str "a") (.cons (.int 7) .nil))) .nil))) (.cons (.tup (.cons (.str "at") (.cons (.var 3) (.cons (.var 4) (.cons (.tup (.cons (.int 2) (.cons (.int 4) .nil))) (.cons (.var 6) .nil)))))) (.cons (.tup (.cons (.str "by") (.cons (.var 3) (.cons (.var 4) (.cons (.tup (.cons (.neg (.int 1)) (.cons (.int 2) .nil))) (.cons (.var 6) .nil)))))) .nil)))))) (.cons (.set (.name 7) (.bin .Add (.var 7) (.lst (.cons (.tup (.cons (.str "few") (.cons (.var 3) (.cons (.var 4) (.cons (.lst (.cons (.int 1) (.cons (.int 2) .nil))) (.cons (.var 6) .nil)))))) (.cons (.tup (.cons (.str "quick") (.cons (.var 3) (.cons (.var 4) (.cons (.tup (.cons (.int 7) (.cons (.int 2) .nil))) (.cons (.tup (.cons (.int 3) (.cons (.int 1) .nil))) (.cons (.var 6) .nil))))))) (.cons (.tup (.cons (.str "at") (.cons (.var 3) (.cons (.var 4) (.cons (.int 5) (.cons (.var 6) .nil)))))) .nil)))))) (.cons (.ret (.ix (.var 7) (.call 16 (.cons (.var 0) (.cons (.blt .len (.cons (.var 7) .nil)) .nil))))) .nil)))))))))))))
def s_:aT kr  eX (ai eZ)=true:=by solve_by_elim
noncomputable abbrev fN:Stmt:=top 44
def sX:ar ["_law_question_here","_law_words","_law_n","_law_d"] ["_law_question_here"] (af fN):=by walk_at "SC"
noncomputable def lR:Cfg:=Y5 ["_law_question_here","_law_words","_law_n","_law_d"] fN 26
noncomputable def fA:Ss:=(.cons (.set (.name 1) (.blt .list1 (.cons (.sl (.var 0) .no (.yes (.int 3))) .nil))) (.cons (.Yg (.tup (.cons (.name 2) (.cons (.name 3) .nil))) (.seq (.sl (.var 0) (.yes (.int 3)) (.yes (.neg (.int 1))))) (.cons (.expr (.met .append (.var 1) (.cons (.ite (.cmp .Eq (.var 3) (.int 1)) (.blt .str1 (.cons (.var 2) .nil)) (.bin .Add (.bin .Add (.blt .str1 (.cons (.var 2) .nil)) (.str "/")) (.blt .str1 (.cons (.var 3) .nil)))) .nil))) .nil)) (.cons (.Zf (.cmp .NotEq (.ix (.var 0) (.neg (.int 1))) (.tup .nil)) (.cons (.set (.name 1) (.bin .Add (.bin .Add (.var 1) (.lst (.cons (.str "without") .nil))) (.blt .list1 (.cons (.ix (.var 0) (.neg (.int 1))) .nil)))) .nil) .nil) (.cons (.ret (.XF .join (.str " ") (.var 1))) .nil))))
def uP:aT lR  fA (ai fN)=true:=by solve_by_elim
noncomputable abbrev eI:Stmt:=top 45
def oV:ar ["_law_pot_here","_law_question_here","_law_text_here","_law_bare","_law_word","_law_a","_law_b","_law_behind","_law_some"] ["_law_pot_here","_law_question_here"] (af eI):=by walk_at "SC"
noncomputable def jk:Cfg:=Y5 ["_law_pot_here","_law_question_here","_law_text_here","_law_bare","_law_word","_law_a","_law_b","_law_behind","_law_some"] eI 27
noncomputable def dQ:Ss:=(.cons (.set (.name 2) (.call 26 (.cons (.var 1) .nil))) (.cons (.set (.name 3) (.call 26 (.cons (.bin .Add (.sl (.var 1) .no (.yes (.neg (.int 1)))) (.tup (.cons (.tup .nil) .nil))) .nil))) (.cons (.set (.tup (.cons (.name 4) (.cons (.name 5) (.cons (.name 6) .nil)))) (.sl (.var 1) .no (.yes (.int 3)))) (.cons (.set (.name 7) (.sl (.var 2) (.yes (.blt .len (.cons (.var 4) .nil))) .no)) (.cons (.set (.name 8) (.lst (.cons (.str "") (.cons (.bin .Add (.var 2) (.str " ")) (.cons (.bin .Add (.str " ") (.var 2)) (.VL 2 "\n" 2 (.cons (.var 4) (.cons (.bin .Add (.bin .Add (.var 4) (.str " ")) (.var 5)) (.cons (.bin .Add (.str "how") (.var 7)) .nil))))))))) (.cons (.set (.name 8) (.bin .Add (.var 8) (.lst (.cons (.un .VP (.var 2)) (.cons (.bin .Add (.var 3) (.str " without")) (.cons (.bin .Add (.var 2) (.str " 7 7")) (.cons (.str "at a b") (.cons (.str "at a b 07") (.cons (.str "at a b 2/4") (.cons (.str "at a b 3/1") .nil)))))))))) (.cons (.set (.name 8) (.bin .Add (.var 8) (.lst (.cons (.str "at a b -1") (.cons (.str "quick a b 5 4") (.cons (.str "all a b without b a") (.cons (.str "by a b 5 without a a") .nil))))))) (.cons (.set (.name 8) (.bin .Add (.var 8) (.lst (.cons (.str "at A b 5") (.cons (.str "at abcdefghi b 5") (.cons (.str "at a b 5 without c1") (.cons (.str "at a bC 5") (.cons (.str "all a_ b") .nil)))))))) (.cons (.set (.name 8) (.bin .Add (.var 8) (.lst (.cons (.ix (.lst (.cons .non (.cons (.int 7) (.cons (.lst (.cons (.var 2) .nil)) (.cons (.tup (.cons (.var 2) .nil)) .nil))))) (.call 16 (.cons (.var 0) (.cons (.int 4) .nil)))) .nil)))) (.cons (.ret (.ix (.var 8) (.call 16 (.cons (.var 0) (.cons (.blt .len (.cons (.var 8) .nil)) .nil))))) .nil))))))))))
def pf:aT jk  dQ (ai eI)=true:=by decide +kernel
noncomputable abbrev bV:Stmt:=top 46
def i6:ar ["_law_word","_law_figures","_law_top","_law_below"] ["_law_word"] (af bV):=by walk_at "SC"
noncomputable def fq:Cfg:=Y5 ["_law_word","_law_figures","_law_top","_law_below"] bV 28
noncomputable def bZ:Ss:=(.cons (.set (.name 1) (.XF .split (.var 0) (.str "/"))) (.cons (.Zf (.Zt false (.cons (.cmp .Gt (.blt .len (.cons (.var 1) .nil)) (.int 2)) (.cons (.cmp .In (.str "") (.var 1)) .nil))) (.cons (.ret .non) .nil) .nil) (.cons (.Zf (.cmp .NotEq (.comp (.var 0) (.name 0) (.seq (.var 1)) (.cons (.cmp .NotEq (.XF .WL (.var 0) (.str "0123456789")) (.str "")) .nil) ["_law_one"] []) (.lst .nil)) (.cons (.ret .non) .nil) .nil) (.cons (.Zf (.cmp .NotEq (.comp (.var 0) (.name 0) (.seq (.var 1)) (.cons (.Zt true (.cons (.cmp .Eq (.ix (.var 0) (.int 0)) (.str "0")) (.cons (.cmp .NotEq (.var 0) (.str "0")) .nil))) .nil) ["_law_figure"] []) (.lst .nil)) (.cons (.ret .non) .nil) .nil) (.cons (.par 2 3 (.blt .Yv (.cons (.ix (.var 1) (.int 0)) .nil)) (.blt .Yv (.cons (.ix (.bin .Add (.var 1) (.lst (.cons (.str "1") .nil))) (.int 1)) .nil))) (.cons (.ret (.ite (.Zt false (.cons (.cmp .Eq (.var 3) (.int 0)) (.cons (.Zt true (.cons (.cmp .Eq (.blt .len (.cons (.var 1) .nil)) (.int 2)) (.cons (.cmp .Eq (.var 3) (.int 1)) .nil))) .nil))) .non (.tup (.cons (.var 2) (.cons (.var 3) .nil))))) .nil))))))
def js:aT fq  bZ (ai bV)=true:=by solve_by_elim
noncomputable abbrev fJ:Stmt:=top 47
def sS:ar ["_law_text_here","_law_words","_law_size","_law_moments","_law_rest","_law_thing"] ["_law_text_here"] (af fJ):=by walk_at "SC"
noncomputable def lW:Cfg:=Y5 ["_law_text_here","_law_words","_law_size","_law_moments","_law_rest","_law_thing"] fJ 29
noncomputable def fj:Ss:=(.cons (.set (.name 1) (.XF .split (.var 0) (.str " "))) (.cons (.set (.name 2) (.un (.Yn [("at",1),("by",1),("all",0),("few",1),("quick",2)] none) (.ix (.var 1) (.int 0)))) (.cons (.Zf (.Zt false (.cons (.cmp .Is (.var 2) .non) (.cons (.cmp .Lt (.blt .len (.cons (.var 1) .nil)) (.bin .Add (.int 3) (.var 2))) .nil))) (.cons (.ret .non) .nil) .nil) (.cons (.set (.name 3) (.comp (.call 28 (.cons (.var 0) .nil)) (.name 0) (.seq (.sl (.var 1) (.yes (.int 3)) (.yes (.bin .Add (.int 3) (.var 2))))) .nil ["_law_word"] [])) (.cons (.set (.name 4) (.sl (.var 1) (.yes (.bin .Add (.int 3) (.var 2))) .no)) (.cons (.Zf (.Zt false (.cons (.un .Yh (.var 3)) (.cons (.Zt true (.cons (.cmp .NotEq (.var 4) (.lst .nil)) (.cons (.Zt false (.cons (.cmp .NotEq (.ix (.var 4) (.int 0)) (.str "without")) (.cons (.cmp .Eq (.blt .len (.cons (.var 4) .nil)) (.int 1)) .nil))) .nil))) .nil))) (.cons (.ret .non) .nil) .nil) (.cons (.set (.name 5) (.bin .Add (.blt .tuple1 (.cons (.bin .Add (.sl (.var 1) .no (.yes (.int 3))) (.var 3)) .nil)) (.tup (.cons (.tmp (.blt .tuple1 (.cons (.sl (.var 4) (.yes (.int 1)) .no) .nil))) .nil)))) (.cons (.ret (.ite (.Y_ (.call 24 (.cons (.var 5) .nil))) (.var 5) .non)) .nil))))))))
def uK:aT lW  fj (ai fJ)=true:=by solve_by_elim
noncomputable abbrev dH:Stmt:=top 48
def mS:ar ["_law_pot_here","_law_text_here","_law_signs","_law_turn","_law_at","_law_sign","_law_way","_law_words","_law_other_here","_law_some"] ["_law_pot_here","_law_text_here"] (af dH):=by walk_at "SC"
noncomputable def ip:Cfg:=Y5 ["_law_pot_here","_law_text_here","_law_signs","_law_turn","_law_at","_law_sign","_law_way","_law_words","_law_other_here","_law_some"] dH 30
noncomputable def dG:Ss:=(.cons (.set (.name 2) (.bin .Add (.bin .Add (.str " /0123456789abtzA-_~;,") (.str "\n")) (.var 1))) (.cons (.Yg (.name 3) (.Zy (.bin .Add (.int 1) (.call 16 (.cons (.var 0) (.cons (.int 2) .nil))))) (.cons (.set (.name 4) (.call 16 (.cons (.var 0) (.cons (.bin .Add (.blt .len (.cons (.var 1) .nil)) (.int 1)) .nil)))) (.cons (.set (.name 5) (.ix (.var 2) (.call 16 (.cons (.var 0) (.cons (.blt .len (.cons (.var 2) .nil)) .nil))))) (.cons (.set (.name 6) (.call 16 (.cons (.var 0) (.cons (.int 3) .nil)))) (.cons (.set (.name 1) (.bin .Add (.bin .Add (.sl (.var 1) .no (.yes (.var 4))) (.tmp (.ix (.lst (.cons (.var 5) (.cons (.str "") (.cons (.var 5) .nil)))) (.var 6)))) (.sl (.var 1) (.yes (.bin .Add (.var 4) (.blt .Yv (.cons (.cmp .Gt (.var 6) (.int 0)) .nil)))) .no))) .nil))))) (.cons (.set (.name 7) (.XF .split (.var 1) (.str " "))) (.cons (.set (.name 4) (.call 16 (.cons (.var 0) (.cons (.blt .len (.cons (.var 7) .nil)) .nil)))) (.cons (.set (.name 8) (.call 16 (.cons (.var 0) (.cons (.blt .len (.cons (.var 7) .nil)) .nil)))) (.cons (.set (.name 9) (.lst (.cons (.var 7) (.cons (.var 7) (.cons (.bin .Add (.sl (.var 7) .no (.yes (.var 4))) (.sl (.var 7) (.yes (.bin .Add (.var 4) (.int 1))) .no)) (.cons (.bin .Add (.sl (.var 7) .no (.yes (.bin .Add (.var 4) (.int 1)))) (.sl (.var 7) (.yes (.var 4)) .no)) .nil)))))) (.cons (.expr (.met .append (.var 9) (.cons (.bin .Add (.sl (.var 7) .no (.yes (.var 4))) (.sl (.var 7) (.yes (.var 8)) .no)) .nil))) (.cons (.ret (.XF .join (.str " ") (.ix (.var 9) (.call 16 (.cons (.var 0) (.cons (.int 5) .nil)))))) .nil))))))))
def oE:aT ip  dG (ai dH)=true:=by solve_by_elim
noncomputable abbrev cQ:Stmt:=top 49
def lh:ar ["_law_text_here","_law_bare"] ["_law_text_here"] (af cQ):=by walk_at "SC"
noncomputable def gU:Cfg:=Y5 ["_law_text_here","_law_bare"] cQ 31
noncomputable def cV:Ss:=(.cons (.set (.name 1) (.tmp (.XF .join (.str "") (.comp (.tmp (.ix (.lst (.cons (.str " ") (.cons (.var 0) .nil))) (.blt .Yv (.cons (.cmp .In (.var 0) (.str "0123456789")) .nil)))) (.name 0) (.chars (.var 0)) .nil ["_law_sign"] [])))) (.cons (.ret (.cmp .Eq (.comp (.var 0) (.name 0) (.seq (.XF .split (.var 1) (.str " "))) (.cons (.cmp .Gt (.blt .len (.cons (.var 0) .nil)) (.int 12)) .nil) ["_law_word"] []) (.lst .nil))) .nil))
def mO:aT gU  cV (ai cQ)=true:=by solve_by_elim
noncomputable abbrev dI:Stmt:=top 51
def mh:ar ["_law_text_here","e","_law_found"] ["_law_text_here"] (af dI):=by walk_at "SC"
noncomputable def iq:Cfg:=Y5 ["_law_text_here","e","_law_found"] dI 32
noncomputable def dC:Wt:=(.T_ 14 (.cons (.var 0) .nil) 2 1 [(.iso 1),(.iso 2),(.iso 3),(.iso 4)] [(.iso 5),.RV] (.st (.ret (.lst .nil)) .nil))
def nQ:jS iq FX Oz dC (ai dI)=true:=by solve_by_elim
noncomputable abbrev dJ:Stmt:=top 50
def ma:ar ["_law_text_here","_law_found"] ["_law_text_here"] (af dJ):=by walk_at "SC"
noncomputable def iK:Cfg:=Y5 ["_law_text_here","_law_found"] dJ 33
noncomputable def dA:Ss:=(.cons (.set (.name 1) (.call 29 (.cons (.var 0) .nil))) (.cons (.Zf (.cmp .Is (.var 1) .non) (.cons (.ret (.cmp .Eq (.call 32 (.cons (.var 0) .nil)) (.lst (.cons (.bl true) (.cons (.bl false) (.cons (.bl false) (.cons (.bl false) (.cons (.bl false) (.cons (.bl true) .nil))))))))) .nil) .nil) (.cons (.ret (.Zt true (.cons (.cmp .Eq (.call 32 (.cons (.var 0) .nil)) (.lst .nil)) (.cons (.cmp .Eq (.call 14 (.cons (.var 0) .nil)) (.var 1)) .nil)))) .nil)))
def oW:aT iK  dA (ai dJ)=true:=by solve_by_elim
noncomputable abbrev lS:Stmt:=top 52
def JB:ar ["_law_script","_law_k","_law_pot_here","_law_question_here","_law_other_here","_law_told","_law_text_here","_law_some"] ["_law_script"] (af lS):=by walk_at "SC"
noncomputable def GF:Cfg:=Y5 ["_law_script","_law_k","_law_pot_here","_law_question_here","_law_other_here","_law_told","_law_text_here","_law_some"] lS 34
noncomputable def oG:Ss:=(.cons (.Yg (.name 1) (.Zy (.blt .max2 (.cons (.int 1) (.cons (.blt .min2 (.cons (.blt .len (.cons (.var 0) .nil)) (.cons (.int 20) .nil))) .nil)))) (.cons (.set (.name 2) (.call 15 (.cons (.var 0) (.cons (.var 1) .nil)))) (.cons (.set (.name 3) (.call 21 (.cons (.var 2) .nil))) (.cons (.set (.name 4) (.call 25 (.cons (.var 2) (.cons (.var 3) .nil)))) (.cons (.set (.name 5) (.call 11 (.cons (.var 4) .nil))) (.cons (.Zf (.Zt false (.cons (.cmp .IsNot (.call 11 (.cons (.var 3) .nil)) (.bl true)) (.cons (.not (.Y_ (.inst (.var 5) "bool"))) (.cons (.cmp .NotEq (.var 5) (.call 24 (.cons (.var 4) .nil))) .nil)))) (.cons (.ret (.bl false)) .nil) .nil) (.cons (.set (.name 6) (.call 12 (.cons (.var 3) .nil))) (.cons (.Zf (.Zt false (.cons (.cmp .NotEq (.var 6) (.call 26 (.cons (.var 3) .nil))) (.cons (.cmp .NotEq (.call 14 (.cons (.var 6) .nil)) (.var 3)) .nil))) (.cons (.ret (.bl false)) .nil) .nil) (.cons (.Zf (.cmp .NotEq (.call 32 (.cons (.call 27 (.cons (.var 2) (.cons (.var 3) .nil))) .nil)) (.lst (.cons (.bl true) (.cons (.bl false) (.cons (.bl false) (.cons (.bl false) (.cons (.bl false) (.cons (.bl true) .nil)))))))) (.cons (.ret (.bl false)) .nil) .nil) (.cons (.set (.name 7) (.call 30 (.cons (.var 2) (.cons (.var 6) .nil)))) (.cons (.Zf (.Zt false (.cons (.Zt true (.cons (.Y_ (.call 31 (.cons (.var 7) .nil))) (.cons (.not (.Y_ (.call 33 (.cons (.var 7) .nil)))) .nil))) (.cons (.cmp .NotEq (.call 14 (.cons (.var 6) .nil)) (.var 3)) .nil))) (.cons (.ret (.bl false)) .nil) .nil) .nil))))))))))) (.cons (.ret (.bl true)) .nil))
def La:aT GF  oG (ai lS)=true:=by decide +kernel
local macro_rules | `(tactic| walk_at "WP")=>do
 let l<-(("F7 qN BV BO FA FF FS Am Cj ye Fo Hm GA Bj F1 Ka yc Hb FZ Fs KS Gw GY Kk Fi FN FH F2 Gj FK F6 GQ KW KP Ae Ga BU GH Bg FY AU BE JY Lq Hh He CH B1 Fv Af GB Hk B6 FM wO Ad xQ J_ GS Fy GI Gb GC Al yS xF sJ Cy xC yI Az GG BS vb Ge j8 sC rm yo uw Fw GM G_ Hc Gv Hn CN BA B5 Ck Dc Gm JD Gd Fz Lb Kf Fl BP Ls JZ J1 Ho F0 qr tU qB pY FE Gy GK qS oo GZ F8 Gh FR Dl B3 CO F3 GE vt BC CU Dp yq FL Gx Gk Kp GN Cd Ha Gq Hg GJ A4 KQ KG yk FO Bl Ap Hi Fm GR Dq Fj Gi F_ Gf FP Lz frame U_0 U_1 U_2 U_3 U_4 U_5 U_6 U_7 U_8 U_9 Lr KI KA Kj KN JF Lp KR Lw Lk LA Lj J9 Le Lg KD K1 LC Kc Kz Lf Kg KY K8 Kr J7 Ld GU Hf Nat.add_assoc tH uE List.append_assoc List.length_append List.map_cons List.map_nil List.length_cons List.length_nil List.replicate List.cons_append List.nil_append List.append_nil List.getElem?_cons_zero List.getElem?_cons_succ List.set_cons_zero List.set_cons_succ Option.some.injEq Cell.lst.injEq PV.int.injEq PV.bl.injEq PV.ref.injEq PV.str.injEq PV.tup.injEq List.cons.injEq and_true true_and exists_eq_left' exists_eq_right exists_and_left exists_and_right exists_const Bool.not_true Bool.not_false Bool.not_not Bool.not_eq_true' decide_eq_true_eq decide_eq_false_iff_not false_and and_false or_false if_true if_false Bool.false_eq_true reduceCtorEq reduceIte not_false_eq_true Nat.add_zero Nat.zero_add Nat.reduceAdd Nat.reduceSub Nat.reduceLeDiff Int.reduceToNat Int.reducePow Int.reduceLT Int.reduceLE Int.reduceNeg Int.reduceSub AK yC exists_eq' ne_eq not_true_eq_false and_assoc Option.join_some decide_true decide_false C9 A3 Bool.and_true Bool.true_and Bool.and_false Bool.false_and".splitOn " ").toArray.mapM λs=>`(Lean.Parser.Tactic.simpLemma|$(Lean.mkIdent s.toName):ident))
 `(tactic|simp only[↓FG,↓FT,$l,*])
noncomputable def R0 (P:Fr->AH->Prop):aQ:={ nx:=P,rt:=λ_ _=>False }
def Ib {P:Fr->AH->Prop}{Z:Fr}{st:AH}:(R0 P).nx Z st=P Z st:=rfl
local macro_rules | `(tactic| walk_at "WPN")=>`(tactic| ((try walk_at "WP");repeat (simp only [Ib];try walk_at "WP")))
def cX {s:S}{ss:Ss}{Z:Fr}{st:AH}{D:aQ}(P:Fr->AH->Prop)(h1:wpS U s Z st (R0 P))(h2:∀Z' st',P Z' st'->aO U ss Z' st' D):aO U (.cons s ss) Z st D:=by
 cases ss with
 | nil=>exact wpS_mono (D:=R0 P) Um s ⟨λZ st z=>h2 Z st z,λ_ _ z=>ac z⟩ h1
 | cons s2 ss=>exact wpS_mono (D:=R0 P) (D':=RJ U (.cons s2 ss) D) Um s ⟨λZ st z=>h2 Z st z,λ_ _ z=>ac z⟩ h1
def kC (z y:Str):tl z=jn (tl y) ((Txt.split z y).map tl):=by rw[<-gL,P0]
theorem Gp {s p:List Nat}:∀ {ps:List (List Nat)},p∈ps->p <:+: jn s ps
 | [x],h=>by rw[MF.mp h];exact List.infix_refl _
 | x::y::r,h=>by
  rcases MU.mp h with rfl|h
  ·exact⟨[],s++jn s (y::r),rfl⟩
  ·exact(Gp (s:=s) h).trans ⟨x++s,[],by simp[jn]⟩
theorem nX {s:List Nat}{c:Nat}:∀ {ps:List (List Nat)},c∈jn s ps->c∈s\/∃p∈ps,c∈p
 | [x],h=>.inr ⟨x,MF.mpr rfl,h⟩
 | x::y::r,h=>by
  rcases MN.mp h with h|h
  ·exact .inr ⟨x,MP,h⟩
  ·rcases MN.mp h with h|h
   ·exact .inl h
   ·rcases nX h with h|⟨p,hp,h⟩
    ·exact .inl h
    ·exact .inr ⟨p,MD _ hp,h⟩
theorem B8 {s:List Nat}:∀ {ps:List (List Nat)},ps≠[]->(jn s ps).length+s.length=(ps.map List.length).sum+ps.length*s.length
 | [],h=>absurd rfl h
 | [x],_=>by simp[jn]
 | x::y::r,_=>by
  have:=B8 (s:=s) (ps:=y::r) (λe=>nomatch e);rw[jn,MS,MS,M3,List.sum_cons,NT,Nat.succ_mul]
  lia
def eP (z y:Str):Txt.split z y≠[]:=by
 unfold Txt.split;split
 ·simp
 ·split
  ·simp
  ·rw[PySem.StrLaws.partsBetween_eq];obtain⟨p,r,e⟩:=PySem.StrLaws.partsFrom_ne z y.length 0 (Builtin.Str.occurrences z y 0 z.length (z.length+1))
   simp_all
def uo {z y p:Str}(h:p∈Txt.split z y):tl p <:+: tl z:=by rw[kC z y];exact Gp (MR.mpr ⟨p,h,rfl⟩)
def eK {z y p:Str}(h:p∈Txt.split z y):p.length<=z.length:=by rw[aj,aj];exact(uo h).length_le
def qz (z y:Str):z.length+y.length=((Txt.split z y).map Str.length).sum+(Txt.split z y).length*y.length:=by have:=B8 (s:=tl y) (ps:=(Txt.split z y).map tl) (λe=>eP z y (Sh.mp e));rw[<-kC,<-aj,<-aj,N2,MI] at this;assumption
def oN {z y:Str}(h:1<=y.length):(Txt.split z y).length*y.length<=z.length+y.length:=by
 have:=qz z y
 simp_all
def f9 (y:Str)(ps:List Str):Txt.join y ps=Str.join y ps:=PySem.StrLaws.glued_eq_join y ps
theorem Ak:∀L:List (List Nat),jn [] L=L.flatten
 | []=>rfl
 | [x]=>by simp[jn]
 | x::y::r=>by rw[jn,Ak (y::r)];simp
def uA (S:List Str):tl (Txt.join "" S)=(S.map tl).flatten:=by rw[f9,gL];exact Ak _
def qQ {sep:Str}{S:List Str}{B:Nat}(hB:∀y∈S,y.length<=B)(h:S.length*B+S.length*sep.length<=16777216):JoinOk sep S=true:=by unfold JoinOk;rw[PySem.StrLaws.joinFits hB h];rfl
def HW {B:Nat}:∀ {S:List Str},(∀y∈S,y.length<=B)->(S.map (λx=>x.length)).sum<=S.length*B:=λ{S} h=>PySem.StrLaws.sumLen_le S h
def tj {sep:Str}{S:List Str}{B:Nat}(h:∀y∈S,y.length<=B):(Txt.join sep S).length<=S.length*B+S.length*sep.length:=by rw[f9];exact MX (PySem.StrLaws.join_length_le sep S) (Nat.add_le_add_right (HW h) _)
def V6 {x y:Str}{k:Nat}:PySem.StrLaws.At x y x.length k↔k+y.length<=x.length/\((tl x).drop k).take y.length=tl y:=by unfold PySem.StrLaws.At;rw[PySem.StrLaws.subAt_eq,OO]
def yE {x y:Str}{k c:Nat}{ys:List Nat}(hy:tl y=c::ys)(h:PySem.StrLaws.At x y x.length k):(tl x)[k]?=some c:=by obtain⟨_,h⟩:=V6.mp h;rw[hy] at h;have e:=NS (λl:List Nat=>l[0]?) h;grind
theorem jH {x y:Str}{c:Nat}{ys:List Nat}(hy:tl y=c::ys):∀(S:List Str) (cuts:List Nat) (a f:Nat),S≠[]->(∀p∈S,c ∉ tl p)->(tl x).drop a=jn (tl y) (S.map tl)->PySem.StrLaws.ChainG x y x.length a cuts f->(∀k,f<=k->¬PySem.StrLaws.At x y x.length k)->PySem.StrLaws.partsFrom x y.length a cuts=S
 | [],_,_,_,h,_,_,_,_=>absurd rfl h
 | [p],cuts,a,f,_,hf,e,hc,hn=>by
  have e:(tl x).drop a=tl p:=e;cases cuts with
  | nil =>show [Builtin.Str.strSub x a x.length]=[p];congr 1;refine cu ?_;rw[M_,NP (by rw[NH,aj];simp)];exact e
  | cons d r =>exfalso;obtain⟨h1,h2,_⟩:=hc;have:=yE hy h2;rw[show d=a+(d-a) by simp[*],<-List.getElem?_drop,e] at this;exact hf p (MF.mpr rfl) (MW this)
 | p::q::S,cuts,a,f,_,hf,e,hc,hn=>by
  have e:(tl x).drop a=tl p++(tl y++jn (tl y) ((q::S).map tl)):=e;have hl:=NS List.length e;rw[NH,MS,MS] at hl;have hlx:x.length=(tl x).length:=aj x;have Qp:y.length=(tl y).length:=aj y;have hy1:(tl y).length=ys.length+1:=by rw[hy];rfl
  have ha:PySem.StrLaws.At x y x.length (a+(tl p).length):=V6.mpr ⟨by grind,by rw[<-OP,e,List.drop_left,Qp,QM]⟩
  have hno:∀k,a<=k->k<a+(tl p).length->¬PySem.StrLaws.At x y x.length k:=λk h1 h2 hA=>by have:=yE hy hA;rw[show k=a+(k-a) by simp_all,<-List.getElem?_drop,e,M0 (by grind)] at this;exact hf p MP (MW this)
  cases cuts with
  | nil =>have hc:f=a:=hc;exact absurd ha (hn _ (by simp[*]))
  | cons d r =>
   obtain⟨h1,h2,h3,h4⟩:=hc;have hd:d=a+(tl p).length:=by
    by_cases g:d<a+(tl p).length
    ·solve_by_elim
    ·by_cases g2:a+(tl p).length<d
     ·exact absurd ha (h3 _ (by simp) g2)
     ·lia
   show Builtin.Str.strSub x a d::PySem.StrLaws.partsFrom x y.length (d+y.length) r=p::q::S;congr 1
   ·refine cu ?_;rw[M_];show ((tl x).drop a).take (d-a)=tl p;rw[e,show d-a=(tl p).length by simp[*],QM]
   ·refine jH hy (q::S) r _ f (λz=>nomatch z) (λp' hp=>hf p' (MD _ hp)) ?_ h4 hn;rw[hd,Qp,Nat.add_assoc,<-OP,e,<-MZ,List.drop_left' (by simp)]
def B4 (x:Str):1<=Builtin.Str.strKind x:=by
 unfold Builtin.Str.strKind;split
 ·simp
 ·split <;> decide
def gO {y:Str}{c:Nat}{ys:List Nat}(hy:tl y=c::ys)(hk:Builtin.Str.strKind y=1){S:List Str}(hS:S≠[])(hf:∀p∈S,c ∉ tl p):Txt.split (Str.join y S) y=S:=by
 have hj:tl (Str.join y S)=jn (tl y) (S.map tl):=gL y S;generalize Str.join y S=x at hj;have hy1:1<=y.length:=by rw[aj];show 1<=(tl y).length;rw[hy];simp
 obtain⟨f,hG,hn⟩:=PySem.StrLaws.occ_tight x y hy1;have none_:(∀k,¬PySem.StrLaws.At x y x.length k)->[x]=S:=λh=>by have:=jH (x:=x) hy S [] 0 0 hS hf (by assumption) rfl (λk _=>h k);rw[<-this];show [x]=[Builtin.Str.strSub x 0 x.length];rw[PySem.StrLaws.sub_whole]
 unfold Txt.split;split
 ·rename_i hc;rw[QE,decide_eq_true_eq,decide_eq_true_eq] at hc;have:=B4 x;exact none_ λk hA=>by
   have:=hA.1
   lia
 ·split
  ·rename_i he;rw[List.isEmpty_iff.mp he] at hG;have ef:f=0:=hG;simp[*]
  ·rw[PySem.StrLaws.partsBetween_eq];exact jH hy S _ 0 f hS hf (by assumption) hG hn
def Dv {p:Nat × Nat}{c:Nat}(h:c∈tl (Ym p)):47<=c/\c<=57:=by
 have hn:∀ {n:Nat},c∈(nt n).cps.toList->47<=c/\c<=57:=λ{n} h=>by
  rw[fI] at h;have:=xa n c h
  lia
 unfold Ym ft at h;split at h
 ·exact hn h
 ·have h:c∈(nt p.1++("/":Str)++nt p.2).cps.toList:=h;rw[aE,aE,MN,MN] at h;rcases h with (h|h)|h
  ·exact hn h
  ·have:c=47:=MF.mp h;simp[*]
  ·exact hn h
def sx (sep:Str)(S:List Str):tl (Txt.join sep S)=jn (tl sep) (S.map tl):=by rw[f9,gL]
def Cm (z:Str)(l u:Option Int):(b6 z l u).length<=z.length:=by
 unfold b6;split
 ·simp
 have sr:∀(A B:Int) (n:Nat),0<=A->B<=n->(sliceRange A B 1).length<=n:=by
  intro A B n h0 h1;unfold sliceRange;simp only[show ((1:Int) > 0)=True from by simp,if_true];split
  ·rw[MI,PC,Int.ediv_one];grind
  ·exact OV _
 rw[aj];show (List.filterMap (λx=>z.cps[x]?) (Builtin.Str.strSliceIndices l u 1 z.length)).toArray.toList.length<=z.length;rw[List.toList_toArray];refine MX (List.length_filterMap_le ..) ?_;unfold Builtin.Str.strSliceIndices;refine sr _ _ _ ?_ ?_
 ·cases l with
  | none=>simp
  | some i=>lia
 ·cases u with
  | none=>simp
  | some i=>grind
def iT (x y:Str):(x++y).length=x.length+y.length:=by rw[aj,aE,MS,<-aj,<-aj]
noncomputable def abc:List Nat:=[97,98,99,100,101,102,103,104,105,106,107,108,109,110,111,112,113,114,115,116,117,118,119,120,121,122]
def rp:("abcdefghijklmnopqrstuvwxyz":Str).cps.toList=abc:=by solve_by_elim
def tm {c:Nat}(h:c∈abc):97<=c/\c<=122:=by
 have:∀c∈abc,97<=c/\c<=122:=by decide
 exact this c h
def Nm.ok {z:Str}(h:Nm z):PyData.strOk z=true:=by
 show z.cps.all (·< 1114112)=true;rw[OX];intro c hc;have:=h.VH c (Array.mem_toList_iff.mpr hc)
 lia
def xf {S:List Str}(h:∀y∈S,y.length<=1)(l:S.length<=1000):JoinOk "" S=true:=by
 unfold JoinOk;have e0:S.length*1+S.length*(Str.ofString "").length<=16777216:=by
  have e:(Str.ofString "").length=0:=by decide +kernel
  rw[e];omega
 rw[PySem.StrLaws.joinFits h e0];rfl
def Nm.lets {S:List Str}(h:∀y∈S,∃c∈abc,y=⟨#[c]⟩)(l0:0<S.length)(l:S.length<=8):Nm (Txt.join "" S):=by
 have key:∀ {S:List Str},(∀y∈S,∃c∈abc,y=⟨#[c]⟩)->(S.map tl).flatten.length=S.length/\∀c∈(S.map tl).flatten,97<=c/\c<=122:=λ{S}=>by
  induction S with
  | nil=>simp
  | cons y S ih =>
   intro h;obtain⟨h1,h2⟩:=ih λz hz=>h z (MD _ hz);obtain⟨c,hc,rfl⟩:=h y MP;rw[M3,List.flatten_cons];refine⟨by rw[MS,h1];show 1+S.length=S.length+1;lia,λx hx=>?_⟩;rcases MN.mp hx with hx|hx
   ·rw[MF.mp (show x∈[c] from hx)];exact tm hc
   ·exact h2 x hx
 obtain⟨h1,h2⟩:=key h;rw[<-uA] at h1 h2;refine ⟨?_,?_,h2⟩ <;> rw [aj,show (Txt.join "" S).cps.toList.length=S.length from h1] <;> omega
def wg {as st Q}(h:b_ as st Q):aO U fT (frame 1 as) st (au st Q):=by
 obtain⟨v,rfl,hb,k⟩:=h;obtain⟨n,hn⟩:=ba hb;unfold fT;walk_at "WP";rw[w_ hn] at k;refine⟨n,hn,?_⟩;cases e:a9 "int" n with
 | false =>rw[e] at k;exact .inl k
 | true =>rw[e] at k;exact JT ⟨n,hn,.inl k⟩
def kP {as st Q}(h:aX as st Q):aO U cF (frame 2 as) st (au st Q):=by
 obtain⟨n,d,rfl,k⟩:=h;unfold cF;walk_at "WP";refine oi Um (λm Z s=>∃a b:Nat,Z=[some (.int a),some (.int b)]/\s=st/\Nat.gcd a b=Nat.gcd n d/\m=b) (n:=d) ⟨n,d,rfl,rfl,rfl,rfl⟩ ?_;rintro m Z s ⟨a,b,rfl,rfl,hg,rfl⟩;walk_at "WP";by_cases hb:(m:Int)=0
 ·rw[MM (λz=>z hb)];have:m=0:=by omega
  subst this;rw[Nat.gcd_zero_right] at hg;rw[hg];exact .inl k
 ·rw[MK hb];refine⟨by lia,a % m,QZ _ (by lia),m,rfl,a % m,?_,?_,rfl⟩
  ·simp
  ·rw[<-hg,P9 a m,Nat.gcd_rec m a,P9]
def AD {xs:List PV}(h:xs.length=2):∃x y,xs=[x,y]:=by
 match xs,h with
 | [x,y],_=>exact⟨x,y,rfl⟩
def A6 {k:Nat}{x y:PV}(h:(PV.tup [x,y]).ZQ k=true):x.ZQ k=true/\y.ZQ k=true:=by rw[PV.ZQ,PV.Zw,PV.Zw,PV.Zw,Bool.and_true,MG] at h;exact h
def pF {as st Q}(h:bA as st Q):aO U dW (frame 3 as) st (au st Q):=by
 obtain⟨v,rfl,hb,k⟩:=h;obtain⟨n,hn⟩:=ba hb;unfold dW;walk_at "WP";refine⟨n,hn,?_⟩;obtain⟨kt,kf⟩:=eh hn;cases e:a9 "tuple" n with
 | false =>rw[kf e] at k;exact .inl k
 | true =>
  obtain⟨xs,rfl⟩:=kt e;walk_at "WP";by_cases hl:xs.length=2
  ·obtain⟨x,y,rfl⟩:=AD hl;obtain⟨bx,by'⟩:=A6 hb;rw[n8] at k;walk_at "WP";refine⟨x,rfl,bx,?_⟩;cases x with
   | int i =>
    simp only[rW];walk_at "WP";refine⟨y,rfl,by',?_⟩;cases y with
    | int j =>
     simp only[rW];walk_at "WP";by_cases h0:0<=i
     ·rw[MK h0];by_cases h1:1<=j
      ·rw[MK h1];refine⟨i.toNat,j.toNat,?_,?_⟩
       ·rw[Int.toNat_of_nonneg h0,Int.toNat_of_nonneg (by lia)]
       ·walk_at "WP";rw[u5 h0 h1];exact .inl k
      ·rw[MM h1];simp only[h1,false_and,and_false,decide_false] at k;exact .inl k
     ·rw[MM h0];simp only[h0,false_and,decide_false] at k;exact .inl k
    | _=>solve_by_elim
   | _=>solve_by_elim
  ·rw[ux hl] at k;rw[MK (by lia)];exact .inl k
def nU {P:Prop}[Decidable P]{A B:Prop}(h1:P->A)(h2:¬P->B):(if P then A else B):=by simp_all
def si {a b:Nat}(h1:Hu a)(h2:Hu b):Vm (a:Int) (b:Int):=.inl ⟨ML h1 (N1 (by decide) (by decide)),ML h2 (N1 (by decide) (by decide))⟩
def wG {as st Q}(h:bt as st Q):aO U fV (frame 2 as) st (au st Q):=by obtain⟨p,q,rfl,⟨p1,p2⟩,⟨q1,q2⟩,k⟩:=h;unfold fV;walk_at "WP";refine⟨si p1 q2,si q1 p2,?_⟩;rw[<-OT,<-OT];simp only[Int.ofNat_lt];exact .inl k
def rJ {as st Q}(h:eE as st Q):aO U eV (frame 2 as) st (au st Q):=by obtain⟨p,q,rfl,⟨p1,p2⟩,⟨q1,q2⟩,k⟩:=h;unfold eV;walk_at "WP";refine⟨si p1 q2,si q1 p2,?_⟩;rw[<-OT,<-OT];simp only[Int.ofNat_lt];exact .inl k
def v9 {as st Q}(h:dv as st Q):aO U fZ (frame 3 as) st (au st Q):=by
 obtain⟨ns,m,rfl,hl,hm,k⟩:=h;unfold fZ;walk_at "WP";have fin:∀z:Int,PK (if 0<z-1000000000000000000 then z-1000000000000000000 else 0) ((z % 2147483587*39119+7919*(m:Int)+41) % 2147483629):=λz=>⟨by lia,by grind,by grind⟩;rw[MI];by_cases hk:m<ns.length
 ·rw[MK (by simp_all)];refine⟨_,CK hk,FI,?_⟩;walk_at "WP";exact⟨Hl (by decide) (by decide),yD (by decide) (by decide),.inl (k _ _ (fin _))⟩
 ·rw[MM (by simp[*])];exact⟨FI,yD (by decide) (by decide),yD (by decide) (by decide),.inl (k _ _ (by have:=fin 0;assumption))⟩
def ud {as st Q}(h:cv as st Q):aO U fz (frame 3 as) st (au st Q):=by
 obtain⟨p,many,rfl,⟨q,r,hp,hq,hr0,hr1⟩,hm,hm2,k⟩:=h;have g0:Gr st p st:=.refl ⟨q,r,hp,hq,hr0,hr1⟩;unfold fz;walk_at "WP";refine⟨_,ag hp,_,qS,?_⟩;walk_at "WP";by_cases hz:0<q
 ·rw[MK hz];refine⟨_,ag hp,_,qS,?_⟩;walk_at "WP";refine⟨x_ hm hm2,_,hp,0,rfl,?_⟩;exact .inl (k _ _ (Int.emod_nonneg _ (by lia)) (Int.emod_lt_of_pos _ hm) (g0.set ⟨Q3 (by omega) (by lia),hr0,hr1⟩))
 ·rw[MM hz];refine⟨_,ag hp,_,oo,?_⟩;walk_at "WP";refine⟨Hl (by decide) (by decide),_,hp,1,rfl,?_⟩;have hs:∀z,(st.set p (pc q z))[p]?=some (pc q z):=λz=>NG (iZ hp);refine⟨_,ag (hs _),_,oo,_,ag (hs _),_,oo,?_⟩;walk_at "WP";refine⟨yD (by grind) (by grind),x_ (by decide) (by decide),hm,?_⟩;exact .inl (k _ _ (Int.emod_nonneg _ (by omega)) (Int.emod_lt_of_pos _ hm) (g0.set ⟨hq,by grind,by grind⟩))
def ah {st:AH}{n:Nat}{xs:List PV}(h:st[n]?=some (.lst xs)):aS st (.ref n)=some xs:=by simp[aS,h]
def mU {α:Type}{xs:List α}{i:Nat}{x:α}(h:xs[i]?=some x):YL xs (i:Int)=some x:=aN h
def vC {as st Q}(h:dr as st Q):aO U fU (frame 4 as) st (au st Q):=by
 obtain⟨n,d,rfl,h0,h1,k⟩:=h;unfold fU;walk_at "WP";refine oi Um (λj Z s=>s=st/\∃a:Nat,Z=[some (.int n),some (.int d),some (.int a),some (.int j)]/\Nat.gcd a j=Nat.gcd n d) (n:=d) ⟨rfl,n,rfl,rfl⟩ ?_;rintro m Z s ⟨rfl,a,rfl,hg⟩;walk_at "WP";by_cases hb:(0:Int)<m
 ·rw[MK hb];exact⟨hb,a % m,QZ _ (by simp_all),m,rfl,by simp,by rw[<-hg,P9 a m,Nat.gcd_rec m a,P9]⟩
 ·rw[MM hb];have:m=0:=by omega
  subst this;rw[Nat.gcd_zero_right] at hg;subst hg;refine⟨xB h0 h1,xB h0 h1,?_⟩
  solve_by_elim
def BR (c:Nat):(!(Builtin.Str.occurrences "0123456789" ⟨#[c]⟩ 0 (Str.length "0123456789") 1).isEmpty)=decide (48<=c/\c<=57):=by
 have f:=N7 (Str.ofString "0123456789") c;refine f.trans ?_;have e:c∈(Str.ofString "0123456789").cps.toList↔48<=c/\c<=57:=by show c∈[48,49,50,51,52,53,54,55,56,57]↔_;simp only[List.mem_cons,List.not_mem_nil,or_false];omega
 exact decide_eq_decide.mpr e
noncomputable def inF:PV->Bool
 | .str x=>!(Builtin.Str.occurrences "0123456789" x 0 (Str.length "0123456789") 1).isEmpty
 | _=>false
def DY (z:Str):((bB z).map inF).all id=z.cps.toList.all (λc=>decide (48<=c/\c<=57)):=by unfold bB;rw[N2,List.all_map];congr 1;funext c;exact BR c
def Vr {z:Str}:z=Str.ofString ""↔z.cps.toList=[]:=⟨λh=>by rw[h];rfl,λh=>cu h⟩
def sign_zero {c:Nat}:(({ cps:=#[c] }:Str)=Str.ofString "0")↔c=48:=⟨λh=>by have:=NS (λz:Str=>z.cps.toList) h;exact List.head_eq_of_cons_eq this,λh=>by rw[h];rfl⟩
def ur {st:AH}{x:PV}{n:String}(h:di st x=some n):(a9 "str" n=true->∃z,x=.str z)/\(a9 "str" n=false->U_ x=none):=by
 cases x with
 | str z=>cases h;exact⟨λ_=>⟨z,rfl⟩,λz=>absurd z (by decide)⟩
 | ref k =>unfold di at h;simp only at h;split at h <;> cases h <;> exact⟨λz=>absurd z (by decide),λ_=>rfl⟩
 | _=>cases h;exact⟨λz=>absurd z (by decide),λ_=>rfl⟩
def lD {as st Q}(h:bc as st Q):aO U cE (frame 1 as) st (au st Q):=by
 obtain⟨z,rfl,hl,k⟩:=h;unfold cE;walk_at "WP";by_cases h0:z=Str.ofString ""
 ·rw[MK h0];have e:aM z=false:=by subst h0;rfl
  rw[e] at k;exact .inl k
 rw[MM h0];refine⟨by simp only[bB,List.length_map];rw[<-aj];lia,?_⟩;refine FW.comp_map Um (λv=>.bl (inF v)) trivial (λv hv=>?_) ?_
 ·obtain⟨c,hc,rfl⟩:=MR.mp hv
  solve_by_elim
 refine⟨_,ah aq,_,ck (f:=inF),.app rfl ?_⟩;rw[DY];obtain⟨c,r,hz⟩:∃c r,z.cps.toList=c::r:=by
  cases e:z.cps.toList with
  | nil=>exact absurd (Vr.mpr e) h0
  | cons c r=>solve_by_elim
 cases ha:z.cps.toList.all (λc=>decide (48<=c/\c<=57)) with
 | false =>
  walk_at "WP";have e:aM z=false:=by unfold aM;rw[ha];simp
  rw[e] at k;exact .inl k
 | true =>
  walk_at "WP";by_cases h1:z=Str.ofString "0"
  ·rw[MK h1];have e:aM z=true:=by subst h1;decide
   rw[e] at k;exact .inl k
  ·rw[MM h1];refine⟨by lia,c,by rw[hz];exact aN (xs:=c::r) (j:=0) rfl,?_⟩;have e:aM z=!decide (({ cps:=#[c] }:Str)=Str.ofString "0"):=by unfold aM;rw[ha,hz,M8 h1];simp[sign_zero]
   rw[<-e];exact .inl k
def Dk {z:Str}(h:aM z=true)(hl:z.length<=5000)(k:Nat):PySem.NumText.digitsVal (z.cps.toList.take k)<2 ^ 20000:=by have:=xb (l:=z.cps.toList.take k) λc hc=>(iF h).1 c (NQ hc);rw[aj] at hl;exact DB this (by grind)
def pL {as st Q}(h:aW as st Q):dy U UR dS (frame 4 as) st (ow st Q) (o6 st Q):=by
 obtain⟨z,rfl,hl,k⟩:=h;unfold dS;walk_at "WP";refine⟨z,rfl,hl,?_⟩;cases hz:aM z with
 | false =>
  rw[hz] at k
  solve_by_elim
 | true =>
  rw[hz,MK rfl] at k;walk_at "WP";have e64:((z.length:Int) % 64)=((z.length % 64:Nat):Int):=by omega
  rw[e64];have hh:z.length % 64<=z.length:=Nat.mod_le ..;obtain⟨nd,ne⟩:=iF hz;have hc:=AV hh;have hcl:(b6 z none (some ((z.length % 64:Nat):Int))).length=z.length % 64:=by rw[aj,hc,M6,<-aj];omega
  have h0:(Str.ofString "0").length=1:=rfl;have ef:(Str.ofString "0"++b6 z none (some ((z.length % 64:Nat):Int))).cps.toList=48::z.cps.toList.take (z.length % 64):=by rw [aE,hc];rfl
  have h1:(Str.ofString "0"++b6 z none (some ((z.length % 64:Nat):Int))).length=1+z.length % 64:=by rw [aj,ef,NT,M6,<-aj];omega
  have hr:=QA (x:=Str.ofString "0"++b6 z none (some ((z.length % 64:Nat):Int))) (by
   intro c hc;rw[ef] at hc;rcases MU.mp hc with rfl|hc
   ·decide
   ·exact nd c (NQ hc)) (by rw[ef];simp) (by grind)
  rw[ef,Bp] at hr;refine⟨by lia,by omega,by lia,by grind,_,hr,by omega,by grind,by grind,by simp,by lia,?_⟩;have hn:Wz ((z.length % 64:Nat):Int) z.length 64=z.length/64:=by unfold Wz;split <;> omega
  rw[hn];refine rM Um (λi Z s=>s=st/\∃c,Z=[some (.str z),some (.int ((z.length % 64:Nat):Int)),some (.int (PySem.NumText.digitsVal (z.cps.toList.take (z.length % 64+i*64)):Nat)),c]) ⟨rfl,none,by simp⟩ (λi v Z s hi hI=>?_) ?_
  ·obtain⟨rfl,c,rfl⟩:=hI;have hin:i<z.length/64:=by have:=(MT.mp hi).1;simpa[gR] using this
   have hv:v=.int ((z.length % 64+i*64:Nat):Int):=by unfold gR at hi;rw[M5,QF hin] at hi;rw[<-NC hi];simp
   subst hv;refine⟨trivial,?_⟩;have hb:z.length % 64+i*64+64<=z.length:=by omega
   have hm:=EJ (z:=z) (a:=z.length % 64+i*64) (b:=z.length % 64+i*64+64) (by simp) hb;rw[show z.length % 64+i*64+64-(z.length % 64+i*64)=64 by simp] at hm;have eb:((z.length % 64+i*64:Nat):Int)+64=((z.length % 64+i*64+64:Nat):Int):=by omega
   walk_at "WP";rw[eb];have hml:(b6 z (some ((z.length % 64+i*64:Nat):Int)) (some ((z.length % 64+i*64+64:Nat):Int))).length=64:=by rw[aj,hm,M6,NH,<-aj];omega
   have hr2:=QA (x:=b6 z (some ((z.length % 64+i*64:Nat):Int)) (some ((z.length % 64+i*64+64:Nat):Int))) (by intro c hc;rw[hm] at hc;exact nd c (M9 (NQ hc))) (λe=>by rw[aj,e] at hml;cases hml) (by simp_all)
   refine⟨.inl ⟨Dk hz hl _,by decide +kernel⟩,by lia,by simp_all,_,hr2,⟨s,[],(N5 _).symm,rfl,λ_ _=>.inl rfl,rfl,?_⟩⟩;walk_at "WP";have ev:PySem.NumText.digitsVal (z.cps.toList.take (z.length % 64+(i+1)*64))=PySem.NumText.digitsVal (z.cps.toList.take (z.length % 64+i*64))*10 ^ 64+PySem.NumText.digitsVal (b6 z (some ((z.length % 64+i*64:Nat):Int)) (some ((z.length % 64+i*64+64:Nat):Int))).cps.toList:=by rw[hm,show z.length % 64+(i+1)*64=(z.length % 64+i*64)+64 by lia,List.take_add,xP,show ((z.cps.toList.drop (z.length % 64+i*64)).take 64).length=64 by rw[<-hm,<-aj];exact hml,<-hm]
   rw[ev];rw[Int.natCast_add,OT];rfl
  ·rintro Z s ⟨rfl,c,rfl⟩;refine⟨trivial,?_⟩;walk_at "WP";have e:z.length % 64+(gR ((z.length % 64:Nat):Int) 64 (z.length/64)).length*64=z.length:=by simp only[gR,List.length_map,List.length_range];omega
   rw[e,aj,PL];exact .inl k
def AC (z:Str):U_ (.str z)=if aM (ib z)=true then (if ly z=true then (if aM (fQ z)=true/\2<=aU (fQ z)/\Nat.gcd (aU (ib z)) (aU (fQ z))=1 then some (aU (ib z),aU (fQ z)) else none) else some (aU (ib z),1)) else none:=rfl
def mH {as st Q}(h:aA as st Q):dy U UR cS (frame 6 as) st (ow st Q) (o6 st Q):=by
 obtain⟨x,rfl,⟨hb,hl⟩,k⟩:=h;unfold cS;walk_at "WP";obtain⟨n,hn⟩:=ba hb;obtain⟨k1,k2⟩:=ur hn;refine⟨n,hn,?_⟩;cases hk:a9 "str" n with
 | false =>rw[MK rfl];rw[k2 hk] at k;exact .inl k
 | true =>
  rw[MM (by decide)];obtain⟨z,rfl⟩:=k1 hk;have hl:=hl z rfl;refine⟨z,rfl,by omega,?_⟩;rw[xK];have hA:=tL z;have hB:=tS z;rw[AC] at k;cases hs:ly z with
  | false =>
   rw[MM (by decide)];rw[hs,yi hs] at k;refine⟨rfl,_,_,rfl,_,_,rfl,_,_,rfl,rfl,z,rfl,hl,?_⟩;cases hz:aM z with
   | true =>
    rw[hz] at k
    solve_by_elim
   | false =>rw[hz] at k;exact .inl k
  | true =>
   rw[MK rfl];rw[hs] at k;refine⟨rfl,_,_,rfl,_,_,rfl,_,_,rfl,rfl,_,rfl,by lia,?_⟩;cases hz:aM (ib z) with
   | false =>rw[hz] at k;exact .inl k
   | true =>
    rw[hz,MK rfl,MK rfl] at k;rw[MK rfl];simp only[mY];walk_at "WP";rw[MM (by decide)];refine⟨_,rfl,by lia,?_⟩;cases hy:aM (fQ z) with
    | false =>rw[hy,MM (λz=>absurd z.1 (by decide))] at k;exact .inl k
    | true =>
     rw[hy] at k;rw[MK rfl];simp only[mY];walk_at "WP";by_cases h2:aU (fQ z)<2
     ·rw[MM (λz=>by lia)] at k;rw[MK (by lia)];exact .inl k
     ·rw[MM (by lia)];refine⟨_,_,rfl,?_⟩;walk_at "WP";by_cases hg:Nat.gcd (aU (ib z)) (aU (fQ z))=1
      ·rw[MK ⟨rfl,by simp_all,hg⟩] at k;rw[hg]
       solve_by_elim
      ·rw[MM (λz=>hg z.2.2)] at k;rw[MK (by lia)];exact .inl k
def pR {as st Q}(h:bQ as st Q):aO U dY (frame 3 as) st (au st Q):=by obtain⟨n,rfl,hn,k⟩:=h;unfold dY;walk_at "WP";refine oi Um (λm Z s=>Z=[some (.int n),some (.ref st.length),none]/\s=st++[.lst []]) (n:=0) ⟨rfl,rfl⟩ ?_;rintro m Z s ⟨rfl,rfl⟩;walk_at "WP";rw[MM (by lia)];rw[n5];refine⟨⟨_,ah aq⟩,iR (by lia) (by lia),by decide,_,aq,MX (jI hn) (by decide),?_⟩;exact .inr (.app rfl k)
def mv {as st Q}(h:bz as st Q):aO U cY (frame 3 as) st (au st Q):=by
 obtain⟨⟨n,d⟩,rfl,⟨h1,h3,h2,h4⟩,k⟩:=h;replace h1:n<10 ^ 12:=h1;replace h2:0<d:=h2;replace h3:d<10 ^ 12:=h3;replace k:Q (.str (ft n d)) st:=k;unfold cY;walk_at "WP";by_cases hd:d=1
 ·subst hd;rw[MK (show (((1:Nat):Int))=1 from rfl)];exact⟨n,rfl,h1,.inl k⟩
 ·unfold ft at k;rw[MM hd] at k;rw[MM (by lia)];have:=jI h1;have:=jI h3;refine⟨n,rfl,h1,?_⟩;walk_at "WP";have e:(Str.ofString "/").length=1:=rfl;have e2:(nt n++Str.ofString "/").length=(nt n).length+1:=by rw [aj,aE,MS,<-aj];rfl
  refine⟨by lia,d,rfl,h3,?_⟩;walk_at "WP";exact⟨by lia,.inl k⟩
theorem qh:∀ {xs:List PV}{x:PV},oD xs=true->x∈xs->kE x=true
 | y::xs,x,h,hx=>by
  rw[oD,MG] at h;rcases MU.mp hx with rfl|hx
  ·exact h.1
  ·exact qh h.2 hx
theorem t7:∀ {xs:List PV},(∀x∈xs,kE x=true)->oD xs=true
 | [],_=>by rw[oD]
 | x::xs,h=>by rw[oD,MG];exact⟨h x MP,t7 λy hy=>h y (MD _ hy)⟩
theorem rS {k:Nat}:∀ {xs:List PV},(∀x∈xs,x.ZQ k=true)->PV.Zw k xs=true
 | [],_=>by rw[PV.Zw]
 | x::xs,h=>by rw[PV.Zw,MG];exact⟨h x MP,rS λy hy=>h y (MD _ hy)⟩
def ET {k:Nat}{xs:List PV}{x:PV}(h:(PV.tup xs).ZQ k=true)(hx:x∈xs):x.ZQ k=true:=uL (show PV.Zw k xs=true from by assumption) hx
def tD {xs:List PV}(h:kE (.tup xs)=true):xs.length<=50:=by
 rw[kE,MG] at h
 simp_all
def b9 {st:AH}{xs:List PV}{x:PV}(h:Any st (.tup xs))(hx:x∈xs):Any st x:=⟨ET h.1 hx,by have h:=h.2;rw[kE,MG] at h;exact qh h.2 hx⟩
def eC {st:AH}{xs:List PV}(l:xs.length<=50)(h:∀x∈xs,Any st x):Any st (.tup xs):=⟨by rw[PV.ZQ];exact rS λx hx=>(h x hx).1,by rw[kE,MG];exact⟨M1 l,t7 λx hx=>(h x hx).2⟩⟩
def cy {st:AH}{z:Str}(h:z.length<=1000):Any st (.str z):=⟨by rw[PV.ZQ],by rw[kE];exact M1 h⟩
def vf {z:Str}(h:kE (.str z)=true):z.length<=1000:=by rw[kE] at h;simp_all
def oZ {i:Int}(h:kE (.int i)=true):i.natAbs<2 ^ 4000:=by rw[kE] at h;simp_all
def gG {st:AH}{i:Int}(h:i.natAbs<2 ^ 4000):Any st (.int i):=⟨by rw[PV.ZQ],by rw[kE];exact M1 h⟩
def tF {st:AH}{p:Nat × Nat}(h1:Hu p.1)(h2:Hu p.2):Any st (fr p):=eC (show 2<=50 by decide) λx hx=>by
 simp only[List.mem_cons,List.not_mem_nil,or_false] at hx;rcases hx with rfl|rfl
 ·exact gG h1
 ·exact gG h2
def rQ {st:AH}{p:Nat × Nat}(h:Any st (fr p)):Hu p.1/\Hu p.2:=⟨oZ (b9 (x:=.int p.1) h (by simp)).2,oZ (b9 (x:=.int p.2) h (by simp)).2⟩
def jx {n:Nat}(h:n<10 ^ 12):Hu n:=ML h (MX (by decide:10 ^ 12<=2 ^ 64) (N1 (by decide) (by decide)))
def Oa {n:Nat}(h:Hu n):n<2 ^ 8000:=ML h (N1 (by decide) (by decide))
def YH {z:Str}:(z=("":Str))↔z.length=0:=by
 constructor
 ·solve_by_elim
 ·intro h;obtain⟨c⟩:=z;have h:c.size=0:=h;have:=Array.size_eq_zero_iff.mp h
  solve_by_elim
noncomputable def rF:PV->Bool
 | .str c=>!(Builtin.Str.occurrences YF c 0 YF.length 1).isEmpty
 | _=>false
def qd (z:Str):(bB z).map rF=z.cps.toList.map I0:=by unfold bB;rw[N2];rfl
def yL {st:AH}{v:PV}{n:String}(h:di st v=some n):(a9 "str" n=true->∃z,v=.str z)/\(a9 "str" n=false->aI v=false):=by
 cases v with
 | str z=>exact⟨λ_=>⟨z,rfl⟩,λe=>by cases h;cases e⟩
 | ref k =>refine⟨λe=>?_,λ_=>rfl⟩;unfold di at h;simp only at h;split at h <;> cases h <;> cases e
 | _=>cases h;exact⟨λe=>absurd e (by decide),λ_=>rfl⟩
def zT {as st Q}(h:bL as st Q):aO U gQ (frame 1 as) st (au st Q):=by
 obtain⟨v,rfl,⟨hb,ht⟩,k⟩:=h;obtain⟨n,hn⟩:=ba hb;unfold gQ;walk_at "WP";refine⟨n,hn,?_⟩;obtain⟨kt,kf⟩:=yL hn;cases e:a9 "str" n with
 | false =>rw[kf e] at k;exact .inl k
 | true =>
  obtain⟨z,rfl⟩:=kt e;have zl:=vf ht;walk_at "WP";by_cases h0:z=("":Str)
  ·rw[MK h0];have:aI (.str z)=false:=by have:=YH.mp h0;simp only[aI];rw[M8 (by simp_all)];rfl
   rw[this] at k;exact .inl k
  ·rw[MM h0];have l0:0<z.length:=QK λq=>h0 (YH.mpr q);refine⟨by lia,?_⟩;by_cases h8:(8:Int)<z.length
   ·rw[MK h8];have:aI (.str z)=false:=by simp only[aI];rw[M8 (show ¬z.length<=8 by lia),P7,QH]
    rw[this] at k;exact .inl k
   ·rw[MM h8];have cl:(bB z).length=z.length:=by simp[bB];rfl
    refine⟨by lia,comp_map Um (λx=>.bl (rF x)) trivial (λx hx=>?_) ?_⟩
    ·obtain⟨c,hc,rfl⟩:=MR.mp hx
     solve_by_elim
    ·refine⟨_,ah aq,_,ck (f:=rF),.app rfl (.inl ?_)⟩;rw[qd];have:aI (.str z)=(z.cps.toList.map I0).all id:=by simp only[aI];rw[M1 l0,M1 (show z.length<=8 by lia)];simp
     rw[<-this];exact k
def ny {as st Q}(h:cJ as st Q):aO U dE (frame 1 as) st (au st Q):=by
 obtain⟨v,rfl,⟨hb,ht⟩,k⟩:=h;obtain⟨n,hn⟩:=ba hb;unfold dE;walk_at "WP";refine⟨n,hn,?_⟩;obtain⟨kt,kf⟩:=yL hn;cases e:a9 "str" n with
 | false =>rw[kf e] at k;exact .inl k
 | true =>
  obtain⟨z,rfl⟩:=kt e;have zl:=vf ht;walk_at "WP";by_cases h0:z=("":Str)
  ·rw[MK h0];have:aI (.str z)=false:=by have:=YH.mp h0;simp only[aI];rw[M8 (by omega)];rfl
   rw[this] at k;exact .inl k
  rw[MM h0];have l0:0<z.length:=QK λq=>h0 (YH.mpr q);refine⟨by omega,?_⟩;by_cases hb8:(8:Int)<z.length
  ·rw[MK hb8];have:aI (.str z)=false:=by simp only[aI];rw[M8 (show ¬z.length<=8 by omega),P7,QH]
   rw[this] at k;exact .inl k
  rw[MM hb8];have h8:(decide (0<z.length) && decide (z.length<=8))=true:=by rw[M1 l0,M1 (show z.length<=8 by lia)];rfl
  have cl:(bB z).length=z.length:=by simp[bB];rfl
  refine⟨by omega,?_⟩;refine eG Um (λi acc s=>s=st/\acc=((bB z).take i).filter λx=>!rF x) ⟨rfl,rfl⟩ ?_ ?_
  ·rintro i x acc s hi ⟨rfl,rfl⟩;have hx:=MW hi;obtain⟨c,hc,ex⟩:=MR.mp hx;refine⟨trivial,?_⟩;subst ex;have tk:(bB z).take (i+1)=(bB z).take i++[.str ⟨#[c]⟩]:=by rw[OC,hi];rfl
   walk_at "WP";rw[tk,List.filter_append];refine nU (λq=>?_) λq=>?_
   ·rw[List.filter_cons_of_pos (by simpa[rF] using q),List.filter_nil]
   ·rw[List.filter_cons_of_neg (by simpa[rF] using q),List.filter_nil,N5]
  ·rintro acc s ⟨rfl,rfl⟩;refine⟨trivial,_,ah aq,?_⟩;have:aI (.str z)=(((bB z).take (bB z).length).filter λx=>!rF x).isEmpty:=by
    rw[PL];have e1:aI (.str z)=((bB z).map rF).all id:=by rw[qd];simp only[aI];rw[h8];simp
    rw[e1];generalize bB z=l
    induction l with
    | nil=>rfl
    | cons a r ih =>rw[M3,OB,ih,List.filter_cons];cases rF a <;> simp
   rw[<-this];exact .inr (.app rfl k)
noncomputable def ltV:PV->Bool
 | .tup [.str a,.str b]=>decide (a.cps.toList<b.cps.toList)
 | _=>false
theorem xw:∀ {xs:List PV},(∀x∈xs,∃z,x=.str z)->(cG xs (xs.drop 1)).all ltV=W7 xs
 | [],_=>rfl
 | [x],h=>by obtain⟨z,rfl⟩:=h x MP;rfl
 | x::y::r,h=>by obtain⟨a,rfl⟩:=h x MP;obtain⟨b,rfl⟩:=h y (MD _ MP);have ih:=xw (xs:=.str b::r) λz hz=>h z (MD _ hz);show (cG (.str a::.str b::r) (.str b::r)).all _=(decide (a.cps.toList<b.cps.toList) && W7 (.str b::r));rw[<-ih];rfl
def uF {x:PV}(h:aI x=true):∃z,x=.str z:=by
 cases x with
 | str z=>exact⟨z,rfl⟩
 | _=>cases h
def vZ {as st Q}(h:dt as st Q):aO U fW (frame 1 as) st (au st Q):=by
 obtain⟨v,rfl,ha,k⟩:=h;obtain⟨n,hn⟩:=ba ha.1;unfold fW;walk_at "WP";refine⟨n,hn,?_⟩;obtain⟨kt,_⟩:=eh hn;cases e:a9 "tuple" n with
 | false =>
  have:cW v=false:=by
   cases v with
   | tup xs=>cases hn;cases e
   | _=>rfl
  rw[this] at k;exact .inl k
 | true =>
  obtain⟨xs,rfl⟩:=kt e;have xl:=tD ha.2;walk_at "WP";refine⟨by lia,comp_map Um (λx=>.bl (aI x)) trivial (λx hx=>?_) ?_⟩
  ·walk_at "WP";exact⟨x,rfl,b9 ha hx,rfl,rfl⟩
  ·refine⟨_,ah aq,_,ck (f:=aI),.app rfl ?_⟩;have e1:(xs.map aI).all id=xs.all aI:=by simp
   rw[e1];cases h1:xs.all aI with
   | false =>
    have:cW (.tup xs)=false:=by simp only[cW];rw[h1];rfl
    rw[this] at k
    solve_by_elim
   | true =>
    have hs:∀x∈xs,∃z,x=.str z:=λx hx=>uF (NK.mp h1 x hx);walk_at "WP";rw[B9];have zl:(cG xs (xs.drop 1)).length<=xs.length:=by
     have:∀(a b:List PV),(cG a b).length<=a.length:=λa=>by
      induction a with
      | nil=>solve_by_elim
      | cons x a ih=>intro b;cases b with
       | nil=>simp[cG]
       | cons y b=>simp[cG];exact ih b
     exact this _ _
    refine⟨by lia,eG Um (λi acc s=>s=st/\acc=((cG xs (xs.drop 1)).take i).map λx=>PV.bl (ltV x)) ⟨rfl,rfl⟩ ?_ ?_⟩
    ·rintro i x acc s hi ⟨rfl,rfl⟩;have tk:(cG xs (xs.drop 1)).take (i+1)=(cG xs (xs.drop 1)).take i++[x]:=by rw[OC,hi];rfl
     obtain⟨a,b,e1,e2,rfl⟩:=km hi;obtain⟨za,rfl⟩:=hs a (MW e1);obtain⟨zb,rfl⟩:=hs b (M9 (MW e2));refine⟨trivial,?_⟩;walk_at "WP";rw[tk,NM];rfl
    ·rintro acc s ⟨rfl,rfl⟩;rw[PL];refine⟨trivial,_,ah aq,_,ck (f:=ltV),.app rfl (.inl ?_)⟩;have e2:((cG xs (xs.drop 1)).map ltV).all id=W7 xs:=by rw[<-xw hs,List.all_map];rfl
     rw[e2];have:cW (.tup xs)=W7 xs:=by simp only[cW];rw[h1];rfl
     simp_all
structure JP (ss L:List Str):Prop where
 so:PyProof.Rows.sortedS ss=true
 nd:ss.Nodup
 mem:∀i,i∈ss↔i∈L
theorem q0:∀ {l:List Str}{x:Str},PyProof.Rows.risingS x l=true->(x::l).Pairwise λa b:Str=>a.cps.toList<=b.cps.toList
 | [],x,_=>List.pairwise_singleton _ _
 | y::l,x,h=>by
  rw[PyProof.Rows.risingS,MG,PyProof.Rows.ltCps_eq] at h;have le:x.cps.toList<=y.cps.toList:=RE.mp (by lia);have pw:=q0 h.2;refine Sq.mpr ⟨λz hz=>?_,pw⟩;rcases MU.mp hz with rfl|hz
  ·exact le
  ·exact List.le_trans le ((Sq.mp pw).1 z hz)
def nR {a b:Str}(h:a.cps.toList<=b.cps.toList)(h':b.cps.toList<=a.cps.toList):a=b:=by
 have:=List.le_antisymm h h';obtain⟨⟨a⟩⟩:=a
 solve_by_elim
def v8 {l:List Str}(h:PyProof.Rows.sortedS l=true):l.Pairwise λa b:Str=>a.cps.toList<=b.cps.toList:=by
 cases l with
 | nil=>exact .nil
 | cons x l=>exact q0 h
def DV {a b:List Str}(pa:a.Pairwise λa b:Str=>a.cps.toList<=b.cps.toList)(pb:b.Pairwise λa b:Str=>a.cps.toList<=b.cps.toList)(na:a.Nodup)(nb:b.Nodup)(h:∀i,i∈a↔i∈b):a=b :=
 List.Perm.eq_of_pairwise (λa b _ _ h h'=>nR h h') pa pb ((List.perm_ext_iff_of_nodup na nb).mpr h)
theorem Wi:∀ {ss:List Str},W7 (sV ss)=true↔ss.Pairwise λa b:Str=>a.cps.toList<b.cps.toList
 | []=>by simp[W7]
 | [x]=>by simp[W7]
 | x::y::r=>by
  have ih:=Wi (ss:=y::r);show (decide (x.cps.toList<y.cps.toList) && W7 (sV (y::r)))=true↔_;rw[MG,decide_eq_true_eq,ih];constructor
  ·rintro⟨h1,h2⟩;refine Sq.mpr ⟨λz hz=>?_,h2⟩;rcases MU.mp hz with rfl|hz
   ·exact h1
   ·exact List.lt_trans h1 ((Sq.mp h2).1 z hz)
  ·intro h;rw[Sq] at h;exact⟨h.1 y MP,h.2⟩
def IU {ss tt:List Str}(h:JP tt ss):W7 (sV ss)=decide (ss=tt):=by
 rw[N9,Wi,decide_eq_true_eq];constructor
 ·intro p;refine DV (p.imp λh=>List.le_of_lt h) (v8 h.so) ?_ h.nd λi=>(h.mem i).symm;exact p.imp λh e=>by subst e;exact List.lt_irrefl _ h
 ·rintro rfl;have:=(v8 h.so).and h.nd;exact this.imp λ{a b} ⟨le,ne⟩=>by
   by_cases q:a.cps.toList<b.cps.toList
   ·exact q
   ·exact absurd (nR le (RE.mp q)) ne
theorem gq:∀ {ss:List Str},PV.Y8 (sV ss)=some (ss.map PyData.str)
 | []=>by solve_by_elim
 | x::r=>by rw[show sV (x::r)=PV.str x::sV r from rfl,PV.Y8,gq,PV.toD];rfl
theorem o9:∀ {ss:List Str},(∀z∈ss,PyData.strOk z=true)->PyData.canLayAll0 (ss.map PyData.str)=true/\PyData.depthAll (ss.map PyData.str)=0
 | [],_=>⟨by solve_by_elim,by solve_by_elim⟩
 | x::r,h=>by
  obtain⟨h1,h2⟩:=o9 (ss:=r) λz hz=>h z (MD _ hz);refine⟨?_,?_⟩
  ·simp only[List.map_cons,PyData.canLayAll0,PyData.canLay0,h x List.mem_cons_self,Bool.true_and];exact h1
  assumption
def lY {ss:List Str}(h:∀z∈ss,PyData.strOk z=true):SeqAt.shaped (.list (ss.map PyData.str))=true:=by obtain⟨h1,h2⟩:=o9 h;simp only[SeqAt.shaped,PyData.canLay0,h1,PyData.depth,h2];rfl
theorem nv:∀ {ss tt:List Str},PyData.eqvAll (ss.map PyData.str) (tt.map PyData.str)=decide (ss=tt)
 | [],[]=>by solve_by_elim
 | [],_::_=>by solve_by_elim
 | _::_,[]=>by solve_by_elim
 | x::r,y::t=>by rw[M3,M3,PyData.eqvAll,nv (ss:=r) (tt:=t),N9];simp[PyData.eqv]
def eS {st:AH}{n m:Nat}{ss tt:List Str}{k:Bool->Prop}(h1:st[n]?=some (.lst (sV ss)))(h2:st[m]?=some (.lst (sV tt)))(o1:∀z∈ss,PyData.strOk z=true)(o2:∀z∈tt,PyData.strOk z=true)(h:k (decide (ss=tt))):Ye st (.ref n) (.ref m) k:=by refine⟨.list (ss.map PyData.str),.list (tt.map PyData.str),by simp only[mQ,h1,gq];rfl,by simp only[mQ,h2,gq];rfl,lY o1,lY o2,?_⟩;rw[show PyData.eqv (.list (ss.map PyData.str)) (.list (tt.map PyData.str))=PyData.eqvAll (ss.map PyData.str) (tt.map PyData.str) by solve_by_elim,nv];exact h
theorem i8:∀ {xs:List PV},xs.all aI=true->∃ss:List Str,xs=sV ss
 | [],_=>⟨[],rfl⟩
 | x::r,h=>by rw[OB,MG] at h;obtain⟨z,rfl⟩:=uF h.1;obtain⟨ss,rfl⟩:=i8 h.2;exact⟨z::ss,rfl⟩
theorem qw {α β:Type}{f:α->β}:∀ {ss:List β}{ps:List α},ss.Perm (ps.map f)->∃qs:List α,qs.Perm ps/\qs.map f=ss
 | [],ps,h=>by
  simp_all
 | x::ss,ps,h=>by obtain⟨p,hp,e⟩:=MR.mp (h.mem_iff.mp MP);obtain⟨a,b,rfl⟩:=List.append_of_mem hp;subst e;rw[NM,M3] at h;have h2:=(h.trans List.perm_middle).cons_inv;rw[<-NM] at h2;obtain⟨qs,h3,h4⟩:=qw h2;exact⟨p::qs,(h3.cons p).trans List.perm_middle.symm,by simp[*]⟩
def Iq {l:List Str}(h:PyProof.Rows.sortedS l=true)(nd:l.Nodup):l.Pairwise Lt:=((v8 h).and nd).imp λ{a b} ⟨le,ne⟩=>by
 by_cases q:a.cps.toList<b.cps.toList
 ·exact q
 ·exact absurd (nR le (RE.mp q)) ne
def pQ {as st Q}(h:bR as st Q):aO U dR (frame 1 as) st (au st Q):=by
 obtain⟨p,rfl,hp,k⟩:=h;unfold dR;walk_at "WP";refine⟨p,3,rfl,hp,by decide,by decide,λx s1 x0 x1 g1=>?_⟩;walk_at "WP";refine nU (λc=>?_) λc=>?_
 ·have G:Gr s1 p (s1++[Cell.lst [PV.str "at",.str "by",.str "all",.str "few",.str "quick",.str "without",.str "a",.str "abcdefgh"]]):=(Gr.refl g1.Zc).app;refine⟨p,8,rfl,G.Zc,by decide,by decide,λy s2 y0 y1 g2=>?_⟩;obtain ⟨v,ev,z,rfl,hz⟩:=kn (L:=[PV.str "at",.str "by",.str "all",.str "few",.str "quick",.str "without",.str "a",.str "abcdefgh"]) (P:=λv=>∃z,v=.str z/\Nm z) (λv hv=>by simp only[List.mem_cons,List.not_mem_nil,or_false] at hv;rcases hv with e|e|e|e|e|e|e|e <;> exact⟨_,e,by decide +kernel,by decide +kernel,by decide +kernel⟩) (y:=y) y0 y1
  refine⟨_,ag (g2.get aq g1.ne),_,ev,(G.trans g2).tmp (by rw[PV.ZQ]) λs5 g5 _=>.inl (k _ _ hz (g1.trans g5))⟩
 ·refine⟨p,8,rfl,g1.Zc,by decide,by decide,λy s2 y0 y1 g2=>?_⟩;walk_at "WP";obtain⟨N,hN⟩:∃N:Nat,1+y=N:=⟨(1+y).toNat,by omega⟩;rw[hN];have hj:(cZ 0 (N:Int).toNat).length=N:=by simp[cZ]
  refine⟨by omega,by omega,by omega,?_⟩;refine eG Um (λi acc s=>Gr s1 p s/\∃S:List Str,acc=sV S/\S.length=i/\∀y∈S,∃c∈abc,y=(⟨#[c]⟩:Str)) ⟨g2,[],rfl,rfl,λy hy=>(nomatch hy)⟩ ?_ ?_
  ·rintro i v acc s hi ⟨g,S,rfl,hl,hS⟩;refine⟨trivial,?_⟩;walk_at "WP";refine⟨p,26,rfl,g.Zc,by decide,by decide,λx s3 x0 x1 g3=>?_⟩;obtain⟨j,rfl⟩:∃j:Nat,x=j:=⟨x.toNat,by omega⟩;have hj:j<abc.length:=by show j<26;omega
   refine ⟨by decide +kernel,abc[j],aN (by rw [show (Str.ofString "abcdefghijklmnopqrstuvwxyz").cps.toList=abc from rp];exact M4 hj),g.trans g3,S++[⟨#[abc[j]]⟩],by simp [sV],by simp [hl],λy hy=>?_⟩;rcases MN.mp hy with hy|hy
   ·exact hS y hy
   ·rw[MF] at hy;exact⟨_,OJ hj,hy⟩
  ·rintro acc s ⟨g,S,rfl,hl,hS⟩;refine⟨trivial,?_⟩;rw[hj] at hl;refine⟨S,ah aq,xf (λy hy=>by obtain⟨c,_,rfl⟩:=hS y hy;exact MJ 1) (by omega),?_⟩;exact g.app.tmp (by rw[PV.ZQ]) λs5 g5 _=>.inl (k _ _ (.lets hS (by omega) (by omega)) (g1.trans g5))
def IY {n d:Nat}(hd:0<d)(h1:n<10 ^ 12)(h2:d<10 ^ 12):Fq (mx n d):=⟨P1 (BX n d) h1,P1 (Av n d) h2,vg hd,tO hd⟩
def pB {as st Q}(h:bS as st Q):aO U d_ (frame 2 as) st (au st Q):=by
 obtain⟨p,rfl,hp,k⟩:=h;unfold d_;walk_at "WP";have g0:Gr st p (st++[Cell.lst [PV.int 9,PV.int 1000000000000]]):=(Gr.refl hp).app;refine⟨KU,p,2,rfl,g0.Zc,by decide,by decide,λy s2 y0 y1 g2=>?_⟩;obtain⟨v,ev,m,rfl,m0,m1⟩:=kn (L:=[PV.int 9,PV.int 1000000000000]) (P:=λv=>∃m:Int,v=.int m/\0<m/\m<=10 ^ 12) (λv hv=>by
  simp only[List.mem_cons,List.not_mem_nil,or_false] at hv;rcases hv with rfl|rfl
  ·simp
  simp) (y:=y) y0 y1
 refine⟨_,ag (g2.get aq λe=>by have:=hp.lt;simp_all),_,ev,(g0.trans g2).tmp (by rw[PV.ZQ]) λs3 g3 _=>?_⟩;refine⟨p,m,rfl,g3.Zc,m0,by lia,λx s4 x0 x1 g4=>?_⟩;walk_at "WP";have G4:=g3.trans g4;have g5:Gr s4 p (s4++[Cell.lst [PV.int 1,PV.int 7,PV.int 100000000000]]):=(Gr.refl G4.Zc).app;refine⟨Kn,p,3,rfl,g5.Zc,by decide,by decide,λy s6 y0 y1 g6=>?_⟩;obtain⟨v,ev,d,rfl,d0,d1⟩:=kn (L:=[PV.int 1,PV.int 7,PV.int 100000000000]) (P:=λv=>∃m:Int,v=.int m/\0<m/\m<=10 ^ 11) (λv hv=>by
  simp only[List.mem_cons,List.not_mem_nil,or_false] at hv;rcases hv with rfl|rfl|rfl
  ·simp
  ·simp
  simp) (y:=y) y0 y1
 refine⟨_,ag (g6.get aq G4.ne),_,ev,(g5.trans g6).tmp (by rw[PV.ZQ]) λs7 g7 _=>?_⟩;have G7:=G4.trans g7;refine⟨p,d,rfl,G7.Zc,d0,by lia,λw s8 w0 w1 g8=>?_⟩;walk_at "WP";obtain⟨n,rfl⟩:∃n:Nat,x=n:=⟨x.toNat,by lia⟩;obtain⟨e,he⟩:∃e:Nat,1+w=e:=⟨(1+w).toNat,by grind⟩;rw[he];refine⟨n,e,rfl,by lia,Oa (jx (by lia)),?_⟩;exact .inl (k _ _ (IY (by omega) (by lia) (by omega)) (G7.trans g8))
def md {as st Q}(h:bu as st Q):aO U c8 (frame 4 as) st (au st Q):=by
 obtain⟨p,rfl,hp,k⟩:=h;have pl:=hp.lt;unfold c8;refine cX (λZ s=>Gr st p s/\∃(w:Str) (m:Nat),ZV.lookup w=some (m:Int)/\m<=2/\(m=2↔w="quick")/\U8 [("all",0),("quick",2)] (some 1) w=.int m/\Z=[some (.ref p),some (.str w),none,none]) ?_ ?_
 ·walk_at "WPN";have g0:Gr st p (st++[Cell.lst [PV.str "at",.str "by",.str "all",.str "few",.str "quick"]]):=(Gr.refl hp).app;refine⟨p,5,rfl,g0.Zc,by decide,by decide,λy s2 y0 y1 g2=>?_⟩;obtain ⟨v,ev,w,m,rfl,h1,h2,h3,h4⟩:=kn (L:=[PV.str "at",.str "by",.str "all",.str "few",.str "quick"]) (P:=λv=>∃(w:Str) (m:Nat),v=.str w/\ZV.lookup w=some (m:Int)/\m<=2/\(m=2↔w="quick")/\U8 [("all",0),("quick",2)] (some 1) w=.int m) (λv hv=>by
   simp only[List.mem_cons,List.not_mem_nil,or_false] at hv;rcases hv with rfl|rfl|rfl|rfl|rfl
   ·exact⟨_,1,rfl,by solve_by_elim,by decide,by decide +kernel,rfl⟩
   ·exact⟨_,1,rfl,by solve_by_elim,by decide,by decide +kernel,rfl⟩
   ·exact⟨_,0,rfl,by solve_by_elim,by decide,by decide +kernel,rfl⟩
   ·exact⟨_,1,rfl,by solve_by_elim,by decide,by decide +kernel,rfl⟩
   ·exact⟨_,2,rfl,by solve_by_elim,by decide,by simp,rfl⟩) (y:=y) y0 y1
  exact⟨_,ag (g2.get aq λe=>by simp_all),_,ev,(g0.trans g2).tmp (by rw[PV.ZQ]) λs3 g3 _=>⟨g3,w,m,h1,h2,h3,h4,rfl⟩⟩
 rintro _ s ⟨g,w,m,hw,hm,hq,hk,rfl⟩;refine cX (λZ s=>Gr st p s/\∃(n:Nat) (ms:List (Nat × Nat)),st.length<=n/\s[n]?=some (.lst (ms.map fr))/\ms.length=m/\(∀f∈ms,Fq f)/\Z=[some (.ref p),some (.str w),some (.ref n),none]) ?_ ?_
 ·walk_at "WPN";have hj:(cZ 0 (m:Int).toNat).length=m:=by simp[cZ]
  refine⟨m,hk,by simp,by lia,by lia,?_⟩;refine eG Um (λi acc s=>Gr st p s/\∃ms:List (Nat × Nat),acc=ms.map fr/\ms.length=i/\∀f∈ms,Fq f) ⟨g,[],rfl,rfl,λy hy=>(nomatch hy)⟩ ?_ ?_
  ·rintro i v acc s hi ⟨g,S,rfl,hl,hS⟩;refine⟨trivial,?_⟩;walk_at "WPN";refine⟨p,rfl,g.Zc,λf s3 hf g3=>⟨g.trans g3,S++[f],by simp,by simp[hl],λy hy=>?_⟩⟩;rcases MN.mp hy with hy|hy
   ·exact hS y hy
   ·rw[MF.mp hy];exact hf
  ·rintro acc s ⟨g,S,rfl,hl,hS⟩;rw[hj] at hl;refine⟨trivial,S.map λp=>((p.1:Int),(p.2:Int)),by rw[N2];exact ah aq,by simp_all,λqs hqs=>?_⟩;obtain⟨ms,h1,rfl⟩:=qw hqs;refine⟨g.app,_,by have:=g.len;lia,ms,?_,by rw[h1.length_eq];exact hl,λf hf=>hS f (h1.mem_iff.mp hf),rfl⟩;simp
 rintro _ s ⟨g,n,ms,hn,en,hl,hf,rfl⟩;refine cX (λZ s=>Gr st p s/\∃(n:Nat) (ms:List (Nat × Nat)),st.length<=n/\s[n]?=some (.lst (ms.map fr))/\ms.length=m/\(∀f∈ms,Fq f)/\(∀p r,ms=[p,r]->¬JC r p)/\Z=[some (.ref p),some (.str w),some (.ref n),none]) ?_ ?_
 ·walk_at "WPN";refine nU (λc=>?_) λc=>?_
  ·have h2:=hq.mpr c;obtain⟨a,b,rfl⟩:∃a b,ms=[a,b]:=by
    match ms,hl.trans h2 with
    | [a,b],_=>exact⟨a,b,rfl⟩
   have fa:=hf a (by simp);have fb:=hf b (by simp);refine⟨_,ag en,_,aN (j:=1) rfl,_,ag en,_,aN (j:=0) rfl,b,a,rfl,⟨jx fb.a,jx fb.b⟩,⟨jx fa.a,jx fa.b⟩,?_⟩;walk_at "WPN";refine nU (λz=>?_) λz=>?_
   ·refine⟨_,ah en,g.app,_,by have:=g.len;omega,[b,a],aq,hl,λf hf'=>hf f (by grind),λx y e ht=>?_,rfl⟩;cases e;exact absurd (U3 z ht) (OY _)
   ·refine⟨g,n,hn,[a,b],en,hl,hf,λx y e ht=>?_,rfl⟩;cases e;exact z ht
  ·refine⟨g,n,hn,ms,en,hl,hf,λx y e=>?_,rfl⟩
   simp_all
 rintro _ s ⟨g,n,ms,hn,en,hl,hf,hu,rfl⟩;refine cX (λZ s=>Gr st p s/\∃(i:Nat) (ns:List Str),st.length<=i/\s[i]?=some (.lst (sV ns))/\s[n]?=some (.lst (ms.map fr))/\ns.length<=3/\(∀z∈ns,Nm z)/\ns.Pairwise Lt/\Z=[some (.ref p),some (.str w),some (.ref n),some (.ref i)]) ?_ ?_
 ·walk_at "WPN";refine⟨p,4,rfl,g.Zc,by decide,by decide,λx s2 x0 x1 g2=>?_⟩;obtain⟨N,rfl⟩:∃N:Nat,x=N:=⟨x.toNat,by lia⟩;have hj:(cZ 0 (N:Int).toNat).length=N:=by simp[cZ]
  refine⟨N,rfl,by simp,by lia,by lia,?_⟩;have en2:=g2.get en (by lia);refine eG Um (λi acc s=>Gr s2 p s/\∃S:List Str,acc=sV S/\S.length=i/\∀y∈S,Nm y) ⟨Gr.refl g2.Zc,[],rfl,rfl,λy hy=>(nomatch hy)⟩ ?_ ?_
  ·rintro i v acc s hi ⟨g,S,rfl,hl,hS⟩;refine⟨trivial,?_⟩;walk_at "WPN";refine⟨p,rfl,g.Zc,λf s3 hf g3=>⟨g.trans g3,S++[f],by simp[sV],by simp[hl],λy hy=>?_⟩⟩;rcases MN.mp hy with hy|hy
   ·exact hS y hy
   ·rw[MF.mp hy];exact hf
  ·rintro acc s3 ⟨g3,S,rfl,hl,hS⟩;rw[hj] at hl;have G:=(g.trans g2).trans g3;refine⟨trivial,S,ag aq,by lia,λss h1 h2 h3 h4=>⟨G.app,_,by have:=G.len;lia,ss,?_,?_,by lia,λz hz=>hS z ((h3 z).mp hz),Iq h1 h2,rfl⟩⟩
   ·simp
   ·exact av (g3.get en2 (by lia))
 rintro _ s ⟨g,i,ns,hi,ei,en,nl,nm,so,rfl⟩;walk_at "WP";refine⟨p,rfl,g.Zc,λa s1 ha g1=>⟨p,rfl,g1.Zc,λb s2 hb g2=>?_⟩⟩;have G:=g1.trans g2;refine⟨_,ag (G.get en (by lia)),by rw[MI];lia,_,ag (G.get ei (by lia)),by rw[MI];lia,?_⟩;exact .inl (k ⟨w,a,b,ms,ns⟩ _ ⟨by rw[hw,hl],ha,hb,hf,hu,nm,nl,so⟩ (g.trans G))
theorem kT {w:Str}{k:Int}:∀ {l:List (Str × Int)},l.lookup w=some k->(w,k)∈l
 | [],e=>nomatch e
 | (a,b)::l,e=>by
  rw[PH] at e;cases c:w == a with
  | true =>
   simp_all
  | false =>rw[c] at e;exact MD _ (kT e)
def fe {w:Str}{k:Int}(e:ZV.lookup w=some k):k=0\/k=1\/k=2:=by
 have:=kT e;simp only[ZV,List.mem_cons,Prod.mk.injEq,List.not_mem_nil,or_false] at this
 lia
noncomputable abbrev W3:List Str:=["at","by","all","few","quick"]
def Dx {w:Str}{k:Int}(e:ZV.lookup w=some k):(W3.any λj=>j == w)=true/\U8 [("all",0),("quick",2)] (some 1) w=.int k:=by have:=kT e;simp only[ZV,List.mem_cons,Prod.mk.injEq,List.not_mem_nil,or_false] at this;rcases this with⟨rfl,rfl⟩|⟨rfl,rfl⟩|⟨rfl,rfl⟩|⟨rfl,rfl⟩|⟨rfl,rfl⟩ <;> exact⟨by solve_by_elim,rfl⟩
def DT {w:Str}(e:ZV.lookup w=none):(W3.any λj=>j == w)=false:=by
 cases h:W3.any λj=>j == w with
 | false=>rfl
 | true =>
  obtain⟨x,hx,hw⟩:=PM.mp h;have hw:=eq_of_beq hw
  simp_all
def iX {w:Str}{a b n:PV}{ms:List PV}(h:ZV.lookup w=some (ms.length:Int)):dF (.tup (.str w::a::b::(ms++[n])))=(aI a && aI b && cW n && ms.all bN && R9 ms):=by simp only[dF,h];simp
def fu {w:Str}{a b n:PV}{ms:List PV}(h:ZV.lookup w≠some (ms.length:Int)):dF (.tup (.str w::a::b::(ms++[n])))=false:=by
 simp only[dF];cases e:ZV.lookup w with
 | none=>rfl
 | some k =>simp only[];rw[M8 (λz=>h (by simp_all))];rfl
def iL {xs:List PV}(h:xs.length<4):dF (.tup xs)=false:=by
 match xs,h with
 | [],_=>rfl
 | [x],_=>cases x <;> rfl
 | [x,y],_=>cases x <;> rfl
 | [x,y,z],_ =>
  cases x with
  | str w =>
   simp only[dF];cases e:ZV.lookup w with
   | none=>rfl
   | some k =>have:=fe e;simp only[];rw[M8 (by show ¬((0:Nat):Int)=k+1;lia)];rfl
  | _=>rfl
def yK {xs:List PV}(h:¬xs.length<4):∃x a b ms n,xs=x::a::b::(ms++[n]):=by
 match xs,h with
 | x::a::b::c::r,_=>exact⟨x,a,b,(c::r).dropLast,(c::r).getLast (λz=>nomatch z),by rw[Pj]⟩
 | [],h=>exact absurd (by decide:([]:List PV).length<4) h
 | [_],h=>exact absurd (ML (OA 1) (by decide)) h
 | [_,_],h=>exact absurd (ML (OA 2) (by decide)) h
 | [_,_,_],h=>exact absurd (OA 3) h
def Cv {x y z n:PV}{ms:List PV}:dN (x::y::z::(ms++[n])) (some 3) (some (-1))=ms:=by unfold dN HT.ZK;simp;grind
def vo {x y z n:PV}{ms:List PV}:YL (x::y::z::(ms++[n])) (-1)=some n:=BB (xs:=x::y::z::ms)
def Dn {st:AH}{w:Str}{a b n:PV}{ms:List PV}(h:Any st (.tup (.str w::a::b::(ms++[n])))):ms.length<=46:=by
 have:=tD h.2
 simp_all
def yb {x:PV}(h:bN x=true):∃p:Nat × Nat,x=fr p:=by
 obtain⟨n,d,e,_⟩:=zW h
 solve_by_elim
def rP {p q:Nat × Nat}:yV (fr p) (fr q)=decide (p.1*q.2<q.1*p.2):=by show decide ((p.1:Int)*q.2<q.1*p.2)=_;rw[<-OT,<-OT];simp only[Int.ofNat_lt]
noncomputable def zB:PV->Bool
 | .tup [x,y]=>yV y x
 | _=>false
theorem iH:∀(a b:List PV),(cG a b).length<=a.length
 | [],b=>by simp[cG]
 | x::a,[]=>by simp[cG]
 | x::a,y::b=>by simp only[cG,List.length_cons];have:=iH a b;simp_all
def pP {as st Q}(h:aP as st Q):aO U dP (frame 2 as) st (au st Q):=by
 obtain⟨x,rfl,hx,k⟩:=h;obtain⟨n,hn⟩:=ba hx.any.1;unfold dP;walk_at "WP";refine⟨n,hn,?_⟩;obtain⟨kt,kf⟩:=eh hn;cases e:a9 "tuple" n with
 | false =>
  have:dF x=false:=by
   cases x with
   | tup xs=>cases hn;cases e
   | _=>rfl
  rw[this] at k;exact .inl k
 | true =>
  obtain⟨xs,rfl⟩:=kt e;walk_at "WP";by_cases hl:xs.length<4
  ·rw[MK (by lia)];rw[iL hl] at k;exact .inl k
  rw[MM (by omega)];obtain⟨w,r,e1⟩:=hx.str xs rfl (by simp_all);obtain⟨x,a,b,ms,nn,rfl⟩:=yK hl;obtain⟨rfl,rfl⟩:=QW e1;have ha:=hx.any;have aa:Any st a:=b9 ha (by simp);have ab:Any st b:=b9 ha (by simp);have an:Any st nn:=b9 ha (by simp);have am:∀y∈ms,Any st y:=λy hy=>b9 ha (by simp[hy]);have ml:=Dn ha;walk_at "WP";rw [MM (show ¬a9 "str" "str"=false by decide)];have nb:∀b:Bool,(ZV.lookup w).isSome=b->(((ZV.lookup w).isSome != true)=true)=(b=false):=λb hb=>by simp_all
  cases hk:ZV.lookup w with
  | none =>
   rw[fu (by simp[*])] at k
   solve_by_elim
  | some i =>
   rw[MM (by simp)];refine⟨i,rfl,?_⟩;by_cases hi:(ms.length:Int)=i
   ·subst hi;rw[iX hk] at k;rw[MM (by simp;lia)];have m2:ms.length<=2:=by have:=fe hk;omega
    refine⟨a,rfl,aa,?_⟩;cases h1:aI a with
    | false=>rw[h1] at k;solve_by_elim
    | true =>
    rw[h1,N4] at k;walk_at "WP";refine⟨b,rfl,ab,?_⟩;cases h2:aI b with
    | false=>rw[h2] at k;solve_by_elim
    | true =>
    rw[h2,N4] at k;walk_at "WP";refine⟨nn,vo,nn,rfl,an,?_⟩;cases h3:cW nn with
    | false=>rw[h3] at k;solve_by_elim
    | true =>
    rw[h3,N4] at k;walk_at "WP";rw[Cv];refine⟨by lia,comp_map Um (λx=>.bl (bN x)) trivial (λx hx=>?_) ?_⟩
    ·walk_at "WP";exact⟨x,rfl,(am x hx).1,rfl,rfl⟩
    refine⟨_,ah aq,_,ck (f:=bN),.app rfl ?_⟩;have e1:(ms.map bN).all id=ms.all bN:=by simp
    rw[e1];cases h4:ms.all bN with
    | false=>rw[h4] at k;solve_by_elim
    | true =>
    rw[h4,N4] at k;walk_at "WP";rw[B9];have hfr:∀y∈ms,∃p:Nat × Nat,y=fr p:=λy hy=>yb (NK.mp h4 y hy);have zl:(cG ms (ms.drop 1)).length<=ms.length:=iH _ _;refine⟨by lia,eG Um (λi acc s=>s=st/\acc=((cG ms (ms.drop 1)).take i).map λx=>PV.bl (zB x)) ⟨rfl,rfl⟩ ?_ ?_⟩
    ·rintro i x acc s hi ⟨rfl,rfl⟩;have tk:(cG ms (ms.drop 1)).take (i+1)=(cG ms (ms.drop 1)).take i++[x]:=by rw[OC,hi];rfl
     obtain⟨p,q,e1,e2,rfl⟩:=km hi;have mp:=MW e1;have mq:=M9 (MW e2);have hp:=am p mp;have hq:=am q mq;obtain⟨p,rfl⟩:=hfr p mp;obtain⟨q,rfl⟩:=hfr q mq;refine⟨trivial,?_⟩;walk_at "WP";rw[tk,NM];exact⟨q,p,rfl,rQ hq,rQ hp,rfl,by rw[<-rP];rfl⟩
    ·rintro acc s ⟨rfl,rfl⟩;rw[PL];refine⟨trivial,_,ah aq,_,ck (f:=zB),.app rfl ⟨_,rfl,.inl ?_⟩⟩;have:(!((cG ms (ms.drop 1)).map zB).any id)=R9 ms:=by
      match ms,m2 with
      | [],_=>rfl
      | [p],_=>rfl
      | [p,q],_=>show (!(yV q p || false))=!yV q p;rw[Bool.or_false]
     rw[this];exact k
   ·rw[fu (by rw[hk];exactλz=>hi (NC z).symm)] at k;rw[MK (by simp;lia)];exact .inl k
def k6 {as st Q}(h:bb as st Q):aO U cD (frame 1 as) st (au st Q):=by
 obtain⟨x,rfl,ha,hm,k⟩:=h;obtain⟨n,hn⟩:=ba ha.1;unfold cD;walk_at "WP";refine⟨n,hn,?_⟩;obtain⟨kt,kf⟩:=eh hn;cases e:a9 "tuple" n with
 | false =>rw[kf e] at k;exact .inl k
 | true =>
  obtain⟨xs,rfl⟩:=kt e;walk_at "WP";by_cases hl:xs.length=2
  ·obtain⟨x,y,rfl⟩:=AD hl;obtain⟨i,j,rfl,rfl⟩:=hm x y rfl;rw[n8] at k;have hj:=oZ (b9 (x:=.int j) ha (by simp)).2;walk_at "WP";refine⟨by decide,eG Um (λ_ acc s=>s=st/\acc=[]) ⟨rfl,rfl⟩ ?_ ?_⟩
   ·rintro m v acc s hm ⟨rfl,rfl⟩;refine⟨trivial,?_⟩;have hv:=MW hm;obtain⟨c,rfl⟩:∃c,v=.int c:=by grind
    walk_at "WP"
    solve_by_elim
   ·rintro acc s ⟨rfl,rfl⟩;refine⟨trivial,?_⟩;refine eS (ss:=[]) (tt:=[]) (by simp) (by simp) (λz hz=>nomatch hz) (λz hz=>nomatch hz) ?_;rw[M1 rfl,MM (by decide)];by_cases h0:0<=i
    ·rw[MK h0];by_cases h1:0<j
     ·rw[MK h1];obtain⟨n,rfl⟩:∃n:Nat,i=n:=⟨i.toNat,by lia⟩;obtain⟨d,rfl⟩:∃d:Nat,j=d:=⟨j.toNat,by lia⟩;refine⟨n,d,rfl,by simp_all,Oa hj,?_⟩;refine BG ?_;have e:(decide (((mx n d).1:Int)=n) && decide (((mx n d).2:Int)=d))=decide (0<=(n:Int)/\1<=(d:Int)/\Nat.gcd (n:Int).natAbs (d:Int).natAbs=1):=by
       rw[N9,MG,decide_eq_true_eq,decide_eq_true_eq,decide_eq_true_eq];constructor
       ·rintro⟨h,h'⟩;have h':d/Nat.gcd n d=d:=by exact_mod_cast h'
        refine⟨by omega,by lia,?_⟩;show Nat.gcd n d=1;have hp:0<Nat.gcd n d:=PZ _ (by simp_all);by_cases h1:Nat.gcd n d=1
        ·exact h1
        ·have:=Nat.div_lt_self (show 0<d by omega) (show 1<Nat.gcd n d by lia)
         simp_all
       ·rintro⟨_,_,h⟩;have h:Nat.gcd n d=1:=h;rw[zS h];exact⟨rfl,rfl⟩
      rw[e];exact .inr (.app rfl k)
     ·rw[MM h1];have:decide (0<=i/\1<=j/\i.natAbs.gcd j.natAbs=1)=false:=M8 λz=>by lia
      simp only[this] at k;exact .inr (.app rfl k)
    ·rw[MM h0];have:decide (0<=i/\1<=j/\i.natAbs.gcd j.natAbs=1)=false:=M8 λz=>by simp_all
     simp only[this] at k;exact .inr (.app rfl k)
  ·rw[ux hl] at k;rw[MK (by omega)];exact .inl k
def Any.app {st g:AH}{v:PV}(h:Any st v):Any (st++g) v:=⟨PV.XN (v:=v) (i:=st.length) (by simp) h.1,h.2⟩
def Lm {x y z n:PV}{ms:List PV}:dN (x::y::z::(ms++[n])) (some 2) (some 3)=[z]:=by
 solve_by_elim
def Eb {z:Str}(h:aI (.str z)=true):PyData.strOk z=true:=by simp only[aI,bi] at h;have h:=h.2;show z.cps.all (·< 1114112)=true;rw[OX];intro c hc;have:=NK.mp h c (Array.mem_toList_iff.mpr hc);have f:=N7 YF c;have this:(!(Builtin.Str.occurrences YF ⟨#[c]⟩ 0 YF.length 1).isEmpty)=true:=this;rw[f,show YF.cps.toList=abc from rp] at this;have:=tm (NY this);exact M1 (by omega)
def jw {as st Q}(h:bO as st Q):aO U bY (frame 3 as) st (au st Q):=by
 obtain⟨x,rfl,hx,k⟩:=h;obtain⟨n,hn⟩:=ba hx.any.1;unfold bY;walk_at "WP";refine⟨n,hn,?_⟩;obtain⟨kt,kf⟩:=eh hn;cases e:a9 "tuple" n with
 | false =>
  have:dF x=false:=by
   cases x with
   | tup xs=>cases hn;cases e
   | _=>rfl
  rw[this] at k;exact .inl k
 | true =>
  obtain⟨xs,rfl⟩:=kt e;walk_at "WP";by_cases hl:xs.length<4
  ·rw[MK (by omega)];rw[iL hl] at k;exact .inl k
  rw[MM (by omega)];obtain⟨w,r,e1⟩:=hx.str xs rfl (by omega);obtain⟨x,a,b,ms,nn,rfl⟩:=yK hl;obtain⟨rfl,rfl⟩:=QW e1;have ha:=hx.any;have aa:Any st a:=b9 ha (by simp);have ab:Any st b:=b9 ha (by simp);have an:Any st nn:=b9 ha (by simp);have am:∀y∈ms,Any st y:=λy hy=>b9 ha (by simp[hy]);have ml:=Dn ha;walk_at "WP";refine .inl ⟨W3,aq,?_⟩;cases hk:ZV.lookup w with
  | none =>rw[DT hk,MK rfl];rw[fu (by simp[*])] at k;exact .inr (.app rfl k)
  | some i =>
   obtain⟨f1,f2⟩:=Dx hk;rw[f1,MM (by decide),f2];refine⟨nn,vo,?_⟩;walk_at "WP";by_cases hi:(ms.length:Int)=i
   ·subst hi;rw[iX hk] at k;rw[MM (by simp;omega)];have m2:ms.length<=2:=by have:=fe hk;omega
    clear hn;have fin:∀g,Q (.bl (dF (.tup (.str w::a::b::(ms++[nn]))))) st->Xl st Q (.bl (dF (.tup (.str w::a::b::(ms++[nn]))))) (st++g):=λg k=>.inr (.app rfl k);rw[iX hk] at fin;have mo:=hx.mo w a b ms nn rfl hk;replace aa:=aa.app (g:=[Cell.lst [PV.str "at",.str "by",.str "all",.str "few",.str "quick"]]);replace ab:=ab.app (g:=[Cell.lst [PV.str "at",.str "by",.str "all",.str "few",.str "quick"]]);replace an:=an.app (g:=[Cell.lst [PV.str "at",.str "by",.str "all",.str "few",.str "quick"]]);replace am:=λy hy=>(am y hy).app (g:=[Cell.lst [PV.str "at",.str "by",.str "all",.str "few",.str "quick"]]);generalize hS:[Cell.lst [PV.str "at",.str "by",.str "all",.str "few",.str "quick"]]=c0 at *;obtain⟨n,hn⟩:=ba an.1;refine⟨n,hn,?_⟩;cases e:a9 "tuple" n with
    | false =>
     have:cW nn=false:=by
      cases nn with
      | tup xs=>cases hn;cases e
      | _=>rfl
     rw[this] at k fin;rw[P7] at k fin
     solve_by_elim
    | true =>
    obtain⟨ns,rfl⟩:=(eh hn).1 e;rw[MM (by decide)];refine⟨a,rfl,aa,?_⟩;cases h1:aI a with
    | false=>rw[h1] at k fin;solve_by_elim
    | true =>
    rw[h1,N4] at k fin;walk_at "WP";rw[Lm];have nl:=tD an.2;walk_at "WP";refine⟨by lia,by lia,comp_map Um (λx=>.bl (aI x)) trivial (λx hx=>?_) ?_⟩
    ·walk_at "WP";refine⟨x,rfl,?_,rfl,rfl⟩;rcases MN.mp hx with hx|hx
     ·exact b9 an hx
     ·rw[MF.mp hx];exact ab
    refine⟨_,ah aq,_,ck (f:=aI),.app rfl ?_⟩;have e1:((ns++[b]).map aI).all id=(ns.all aI && aI b):=by simp
    rw[e1];cases h2:aI b with
    | false=>rw[h2,QH] at k fin;rw[P7];solve_by_elim
    | true =>
    rw[h2,N4] at k fin;rw[Bool.and_true];cases h3:ns.all aI with
    | false =>
     have:cW (.tup ns)=false:=by simp only[cW];rw[h3];rfl
     rw[this] at k fin
     solve_by_elim
    | true =>
    obtain⟨ss,rfl⟩:=i8 h3;have hs:∀z∈ss,PyData.strOk z=true:=λz hz=>Eb (NK.mp h3 _ (MR.mpr ⟨z,hz,rfl⟩));have nl:ss.length<=50:=by rw[MI] at nl;exact nl
    walk_at "WP";refine⟨ss,rfl,by lia,λtt t1 t2 t3 t4=>?_⟩;have hN:cW (.tup (sV ss))=decide (ss=tt):=by simp only[cW];rw[h3,N4];exact IU ⟨t1,t2,t3⟩
    rw[hN] at k fin;refine eS (ss:=ss) (tt:=tt) (by simp) (by simp) hs (λz hz=>hs z ((t3 z).mp hz)) ?_;cases h4:decide (ss=tt) with
    | false=>rw[h4] at k fin;solve_by_elim
    | true =>
    rw[h4,N4] at k fin;rw[MM (by decide),Cv];replace am:=λy hy=>(am y hy).app (g:=[Cell.lst (List.map PV.str ss),Cell.lst (List.map PV.str tt)]);rw[MZ] at am;generalize c0++[Cell.lst (List.map PV.str ss),Cell.lst (List.map PV.str tt)]=g2 at am |-
    refine⟨by lia,comp_map Um (λx=>.bl (bN x)) trivial (λx hx=>?_) ?_⟩
    ·walk_at "WP";exact⟨x,rfl,am x hx,mo x hx,rfl,rfl⟩
    refine⟨_,ah aq,_,ck (f:=bN),.app rfl ?_⟩;have e1:(ms.map bN).all id=ms.all bN:=by simp
    rw[e1];cases h5:ms.all bN with
    | false=>rw[h5] at k fin;solve_by_elim
    | true =>
    rw[h5,N4] at k fin;walk_at "WP";have hfr:∀y∈ms,∃p:Nat × Nat,y=fr p:=λy hy=>yb (NK.mp h5 y hy)
    match ms,m2 with
    | [],_=>rw[MK (by decide)];exact fin _ k
    | [p],_=>rw[MK (by solve_by_elim)];exact fin _ k
    | [p,q],_ =>rw[MM (by simp)];have hp:=am p (by simp);have hq:=am q (by simp);obtain⟨p,rfl⟩:=hfr p (by simp);obtain⟨q,rfl⟩:=hfr q (by simp);refine⟨_,aN (j:=4) rfl,_,aN (j:=3) rfl,q,p,rfl,rQ hq,rQ hp,_,rfl,?_⟩;rw[<-rP];exact fin _ k
   ·rw[fu (by rw[hk];exactλz=>hi (NC z).symm)] at k;rw[MK (by simp;omega)];exact .inr (.app rfl k)
def nE {α:Type}{elt:E}{tg:Tg}{ZR:AH->Prop}{Z:Fr}{xs:List α}{st:AH}{Q:LK}(g h:α->PV)(hc:ZR st)(hs:∀x∈xs,∀K:EK,K (h x) st->ee U tg (g x) Z st λZ' st3=>Z_ U elt Z' st3 K)(q:Q (xs.map h) st):ui U elt tg .nil ZR Z (xs.map g) st Q:=by
 refine eG Um (λi acc s=>s=st/\acc=(xs.take i).map h) ⟨rfl,rfl⟩ ?_ ?_
 ·rintro i x acc s hx ⟨rfl,rfl⟩;rw[M5] at hx;obtain⟨y,hy,rfl⟩:=OI.mp hx;refine⟨hc,?_⟩;simp only[sJ,if_true];refine hs y (MW hy) _ ⟨rfl,?_⟩;rw[OC,hy];simp
 simp_all
def xj {x y z:PV}{r:List PV}:dN (x::y::z::r) none (some 3)=[x,y,z]:=by
 solve_by_elim
def y6 {st:AH}{ss tt:List Str}{k:Bool->Prop}(o1:∀z∈ss,PyData.strOk z=true)(o2:∀z∈tt,PyData.strOk z=true)(h:k (decide (ss=tt))):Ye st (.tup (sV ss)) (.tup (sV tt)) k:=by
 have sh:∀ {ss:List Str},(∀z∈ss,PyData.strOk z=true)->SeqAt.shaped (.tuple (ss.map PyData.str))=true:=λh=>by obtain⟨h1,h2⟩:=o9 h;simp only[SeqAt.shaped,PyData.canLay0,h1,PyData.depth,h2];rfl
 refine⟨.tuple (ss.map PyData.str),.tuple (tt.map PyData.str),by simp only[mQ,PV.toD,gq];rfl,by simp only[mQ,PV.toD,gq];rfl,sh o1,sh o2,?_⟩;rw[show PyData.eqv (.tuple (ss.map PyData.str)) (.tuple (tt.map PyData.str))=PyData.eqvAll (ss.map PyData.str) (tt.map PyData.str) by solve_by_elim,nv];exact h
def nF (a b:List Str):sV a++sV b=sV (a++b):=by simp[sV]
structure Ug (w:List Str):Prop where
 l0:0<w.length
 l9:w.length<=9
 len:∀x∈w,x.length<=25
 VH:∀x∈w,∀c∈tl x,47<=c/\c<=122
def qI {w:Str}{k:Int}(e:ZV.lookup w=some k):w.length<=25/\∀c∈tl w,47<=c/\c<=122:=by have:=kT e;simp only[ZV,List.mem_cons,Prod.mk.injEq,List.not_mem_nil,or_false] at this;rcases this with⟨rfl,_⟩|⟨rfl,_⟩|⟨rfl,_⟩|⟨rfl,_⟩|⟨rfl,_⟩ <;> decide +kernel
def Nm.word {z:Str}(h:Nm z):z.length<=25/\∀c∈tl z,47<=c/\c<=122:=⟨by have:=h.len;lia,λc hc=>by have:=h.VH c hc;lia⟩
def Fq.word {p:Nat × Nat}(h:Fq p):(Ym p).length<=25/\∀c∈tl (Ym p),47<=c/\c<=122:=⟨Jh h.a h.b,λc hc=>by have:=Dv hc;lia⟩
def Zk.ml {q:Qd}(h:Zk q):q.ms.length<=2:=by have:=fe h.w;lia
def E8 (ns:List Str):(Xm ns).length<=ns.length+1:=by unfold Xm;split <;> simp
def Zk.words {q:Qd}(h:Zk q):Ug (qW q):=by
 have ml:=h.ml;have nl:=h.nl;have nw:=E8 q.ns;have all:∀x∈qW q,x.length<=25/\∀c∈tl x,47<=c/\c<=122:=λx hx=>by
  simp only[qW,List.mem_cons,List.mem_append] at hx;rcases hx with rfl|rfl|rfl|hx|hx
  ·exact qI h.w
  ·exact h.a.word
  ·exact h.b.word
  ·obtain⟨p,hp,rfl⟩:=MR.mp hx;exact(h.ms p hp).word
  ·unfold Xm at hx;split at hx
   ·cases hx
   ·rcases MU.mp hx with rfl|hx
    ·decide +kernel
    ·exact(h.ns x hx).word
 refine⟨by simp[qW],?_,λx hx=>(all x hx).1,λx hx=>(all x hx).2⟩;simp only[qW,List.length_cons,List.length_append,List.length_map]
 lia
def Ug.RW {w:List Str}(h:Ug w):JoinOk " " w=true:=qQ (B:=25) h.len (by have:=h.l9;have e:(Str.ofString " ").length=1:=rfl;rw[e];lia)
def Ug.line {w:List Str}(h:Ug w):(Txt.join " " w).length<=234:=by
 have:=tj (sep:=" ") (S:=w) (B:=25) h.len;have e:(Str.ofString " ").length=1:=rfl;rw[e] at this;have:=h.l9
 lia
theorem Ug.split {w:List Str}(h:Ug w):Txt.split (Txt.join " " w) " "=w:=by
 rw[f9];refine gO (y:=" ") (c:=32) (ys:=[]) rfl (by decide +kernel) (λe=>?_) λp hp hc=>?_
 ·have:=h.l0;simp_all
 ·have:=h.VH p hp _ hc;simp_all
def sY {q:Qd}:sV (q.w::q.a::q.b::q.ms.map Ym)++sV (Xm q.ns)=sV (qW q):=by simp[qW,sV]
def mw {as st Q}(h:aB as st Q):aO U cT (frame 3 as) st (au st Q):=by
 obtain⟨q,rfl,hq,k⟩:=h;have ml:=hq.ml;have nl:=hq.nl;have Xi:=hq.words;have Rc:∀z∈q.ns,PyData.strOk z=true:=λz hz=>(hq.ns z hz).ok;unfold cT;refine cX (λZ s=>s=st++[.lst (sV q.ns)]/\Z=[some (qV q),some (.ref st.length),none]) ?_ ?_
 ·walk_at "WPN";rw[vo];refine⟨_,rfl,?_⟩;walk_at "WPN"
 rintro _ _ ⟨rfl,rfl⟩;refine cX (λZ s=>(∃g,s=st++g)/\s[st.length]?=some (.lst (sV q.ns))/\∃n,st.length<=n/\n≠st.length/\s[n]?=some (.lst (sV (q.w::q.a::q.b::q.ms.map Ym)))/\Z=[some (qV q),some (.ref st.length),some (.ref n)]) ?_ ?_
 ·walk_at "WPN";rw[Cv,xj];refine⟨by rw[MI];lia,nE fr (λp=>.str (Ym p)) trivial (λp hp K kk=>?_) ?_⟩
  ·walk_at "WP";exact⟨p,rfl,hq.ms p hp,kk⟩
  refine⟨[.str q.w,.str q.a,.str q.b],by simp,by simp;lia,⟨_,MZ ..⟩,by simp,st.length+3,by simp,by simp,?_,by simp⟩;simp
 rintro _ _ ⟨⟨g,rfl⟩,e1,n,hn,hne,e2,rfl⟩;have e0:g[0]?=some (.lst (sV q.ns)):=by rw[MY (MJ _),Q0] at e1;exact e1
 walk_at "WP";refine eS (ss:=q.ns) (tt:=[]) (by rw[<-MZ];exact av e1) (by simp) Rc (λz hz=>nomatch hz) ?_;cases hN:decide (q.ns=[]) with
 | true =>
  have hN:=NY hN;have ew:sV (q.w::q.a::q.b::q.ms.map Ym)=sV (qW q):=by rw[<-sY,hN];simp[Xm,sV]
  rw[ew] at e2;rw[MM (by decide)];exact⟨qW q,ah (by rw[<-MZ];exact av e2),Xi.RW,.inr (.app rfl k)⟩
 | false =>
  have hN:=of_decide_eq_false hN;have ew:sV (q.w::q.a::q.b::q.ms.map Ym)++(cO::sV q.ns)=sV (qW q):=by rw[<-sY];unfold Xm;rw[MM hN];rfl
  rw[MK rfl];have e3:∀c:List Cell,(st++(g++c))[n]?=some (.lst (sV (q.w::q.a::q.b::q.ms.map Ym))):=λc=>by rw[<-MZ];exact av e2
  refine⟨sV q.ns,av e0,by simp;lia,_,e3 _,by simp;lia,qW q,?_,Xi.RW,?_⟩
  ·rw[ew];exact ah (NG (iZ (e3 _)))
  ·rw[P_ _ _ hn];exact .inr (.app rfl k)
def uB {as st Q}(h:e_ as st Q):aO U fA (frame 4 as) st (au st Q):=by
 obtain⟨q,rfl,hq,k⟩:=h;have ml:=hq.ml;have nl:=hq.nl;have Xi:=hq.words;have Rc:∀z∈q.ns,PyData.strOk z=true:=λz hz=>(hq.ns z hz).ok;unfold fA;refine cX (λZ s=>s=st++[.lst (sV [q.w,q.a,q.b])]/\Z=[some (qV q),some (.ref st.length),none,none]) ?_ ?_
 ·walk_at "WPN";rw[xj]
 rintro _ _ ⟨rfl,rfl⟩;refine cX (λZ s=>s=st++[.lst (sV (q.w::q.a::q.b::q.ms.map Ym))]/\∃c d,Z=[some (qV q),some (.ref st.length),c,d]) ?_ ?_
 ·walk_at "WPN";rw[Cv];refine rM Um (λi Z s=>s=st++[.lst (sV (q.w::q.a::q.b::(q.ms.take i).map Ym))]/\∃c d,Z=[some (qV q),some (.ref st.length),c,d]) ⟨by simp,none,none,rfl⟩ (λi v Z s hi hI=>?_) ?_
  ·obtain⟨rfl,c,d,rfl⟩:=hI;rw[M5] at hi;obtain⟨⟨n,e⟩,hy,rfl⟩:=OI.mp hi;have hf:=hq.ms _ (MW hy);obtain⟨h1,h3,h2,h4⟩:=hf;replace h1:n<10 ^ 12:=h1;replace h2:0<e:=h2;replace h3:e<10 ^ 12:=h3;have tk:q.ms.take (i+1)=q.ms.take i++[(n,e)]:=by rw[OC,hy];rfl
   refine⟨trivial,?_⟩;have tl2:(q.ms.take i).length<=2:=by rw[M6];omega
   have ln:=jI h1;have le:=jI h3;have e1:(Str.ofString "/").length=1:=rfl;have e2:(nt n++Str.ofString "/").length=(nt n).length+1:=iT _ _;walk_at "WPN";refine⟨⟨_,ah aq⟩,?_⟩;by_cases he:e=1
   ·rw[MK (by simp_all)];refine⟨iR (by lia) (by lia),by simp only[List.length_map];lia,?_⟩;rw[tk,n5,he];simp[ft];rfl
   ·rw[MM (by lia)];refine⟨iR (by omega) (by omega),by lia,iR (by lia) (by lia),by lia,by simp only[List.length_map];omega,?_⟩;rw[tk,n5];simp[ft,he];rfl
  ·rintro Z s ⟨rfl,c,d,rfl⟩;refine⟨trivial,?_⟩;rw[MI,PL];exact⟨rfl,c,d,rfl⟩
 rintro _ _ ⟨rfl,c,d,rfl⟩;walk_at "WP";rw[vo];refine⟨_,rfl,y6 (ss:=q.ns) (tt:=[]) Rc (λz hz=>nomatch hz) ?_⟩;cases hN:decide (q.ns=[]) with
 | true =>
  have hN:=NY hN;have ew:sV (q.w::q.a::q.b::q.ms.map Ym)=sV (qW q):=by rw[<-sY,hN];simp[Xm,sV]
  rw[MM (by decide)];refine⟨qW q,?_,Xi.RW,.inr (.app rfl k)⟩;show _=some (sV (qW q));rw[<-ew];exact ah aq
 | false =>
  have hN:=of_decide_eq_false hN;rw[MK rfl];refine⟨by simp;lia,_,rfl,?_⟩;walk_at "WP";have ew:(PV.str q.w::PV.str q.a::PV.str q.b::(List.map PV.str (List.map Ym q.ms)++PV.str (Str.ofString "without")::sV q.ns))=sV (qW q):=by rw[<-sY];unfold Xm;rw[MM hN];rfl
  rw[ew];exact⟨by simp;lia,qW q,ah (by simp),Xi.RW,.inr (.app rfl k)⟩
def q_ (z:Str):ly z=decide (47∈tl z):=N7 z 47
def jD {z p:Str}(h:p∈Txt.split z "/"):47 ∉ tl p:=PySem.StrLaws.split_free z 47 p h
def tE {z a:Str}(h:Txt.split z "/"=[a]):a=z/\Yi z=if aM z=true then some (aU z,1) else none:=by
 have e:a=z:=by have:=P0 z "/";rw[h] at this;exact this
 subst e;have hs:ly a=false:=by rw[q_];exact M8 (jD (by rw[h];solve_by_elim))
 refine⟨rfl,?_⟩;unfold Yi U_;simp only[hs,yi hs,Bool.false_eq_true,if_false]
def sU {z a b:Str}(h:Txt.split z "/"=[a,b]):z=a++("/":Str)++b/\Yi z=if aM a=true/\aM b=true/\2<=aU b/\Nat.gcd (aU a) (aU b)=1 then some (aU a,aU b) else none:=by
 have e:a++("/":Str)++b=z:=by have:=P0 z "/";rw[h] at this;exact this
 have fa:47 ∉ tl a:=jD (by rw[h];simp);have fb:47 ∉ tl b:=jD (by rw[h];simp);have hs:ly z=true:=by rw[q_,<-e];refine M1 ?_;show 47∈(a++("/":Str)++b).cps.toList;rw[aE,aE];simp;exact .inr (.inl (by solve_by_elim))
 have p1:=BJ fa fb;rw[e,xK,MK hs] at p1;simp only[List.cons.injEq,PV.str.injEq,and_true,true_and] at p1;refine⟨e.symm,?_⟩;unfold Yi U_;simp only[hs,p1.1,p1.2,if_true];by_cases ha:aM a=true
 ·simp[*]
 simp[*]
theorem rB (c:Nat):∀l:List Nat,0<=PyProof.Rows.cnt c l
 | []=>by solve_by_elim
 | x::l=>by
  have:=rB c l;rw[NX]
  lia
def vi {z:Str}(h:2<(Txt.split z "/").length):Yi z=none:=by
 obtain ⟨a,b,c,r,e⟩:∃a b c r,Txt.split z "/"=a::b::c::r:=by
  match Txt.split z "/",h with
  | a::b::c::r,_=>exact⟨a,b,c,r,rfl⟩
 have hj:=kC z "/";rw[e] at hj;have hc:((Builtin.Str.occurrences z "/" 0 z.length (z.length+1)).length:Int)=PyProof.Rows.cnt 47 z.cps.toList:=PyProof.Rows.count_cnt z 47;have hj:z.cps.toList=tl a++(47::(tl b++(47::jn [47] ((c::r).map tl)))):=hj;rw[hj,N0,NX,MK rfl,N0,NX,MK rfl] at hc;have n1:=rB 47 (tl a);have n2:=rB 47 (tl b);have n3:=rB 47 (jn [47] ((c::r).map tl));obtain⟨h1,h2⟩:=tX (z:=z) (by lia);unfold Yi U_;simp[*]
theorem xr:∀(n:Nat) {l:List Nat},l.length=n->(∀c∈l,48<=c/\c<=57)->l≠[]->(l=[48]\/l.head?≠some 48)->dg (PySem.NumText.digitsVal l)=l
 | 0,l,hn,_,h,_=>absurd (Rw.mp hn) h
 | n+1,l,hn,hf,hne,hh=>by
  have e:=(Pj hne).symm;generalize l.dropLast=a at e;generalize l.getLast hne=c at e;subst e;have hc:=hf c (by simp);rw[Di];cases a with
  | nil=>rw[show PySem.NumText.digitsVal []=0 from rfl,fw (by grind)];simp;simp[*]
  | cons x r =>
   have hx:x≠48:=by
    rcases hh with h|h
    ·simp at h
    ·solve_by_elim
   have ih:=xr n (l:=x::r) (by simpa using hn) (λc h=>hf c (N6 _ h)) (λe=>nomatch e) (.inr (by simpa using hx));have h0:PySem.NumText.digitsVal (x::r)≠0:=λe=>by rw[e] at ih;have:dg 0=[48]:=fw (by decide);rw[this] at ih;exact hx (QW ih).1.symm
   rw[mZ (by lia),show (PySem.NumText.digitsVal (x::r)*10+(c-48))/10=PySem.NumText.digitsVal (x::r) by grind,ih,show (PySem.NumText.digitsVal (x::r)*10+(c-48)) % 10=c-48 by grind,show 48+(c-48)=c by simp[*]]
def IA {z:Str}(hf:∀c∈tl z,48<=c/\c<=57)(hne:tl z≠[]):aM z=true↔nt (aU z)=z:=by
 constructor
 ·intro h;refine cu ?_;rw[fI];refine xr _ rfl hf hne ?_;unfold aM at h;rw[MG,QE] at h;rcases h.2 with h|h
  ·exact .inl (by rw[NY h];rfl)
  simp_all
 ·intro h;have h:dg (aU z)=z.cps.toList:=by rw[<-fI,h]
  obtain⟨c,r,e1,e2⟩:=xO (aU z);unfold aM;rw[MG,MG,QE];refine⟨⟨by grind,NK.mpr λc hc=>M1 (hf c hc)⟩,?_⟩;by_cases hc:c=48
  ·left
   have e0:=e2 hc;rw[e0] at h;exact M1 (cu (by solve_by_elim))
  ·right
   rw[<-h,e1];simp[hc]
def FD (n:Nat):aM (nt n)=true/\aU (nt n)=n:=by
 have hv:aU (nt n)=n:=by unfold aU;rw[fI,IL]
 refine⟨(IA (λc hc=>by rw[tl,fI] at hc;exact xa n c hc) (λe=>?_)).mpr (by rw[hv]),hv⟩;rw[tl,fI] at e;obtain⟨c,r,e',_⟩:=xO n
 simp_all
def Io {p:Nat × Nat}(h:Vn p):Yi (Ym p)=some p:=by
 obtain⟨n,d⟩:=p;have h0:0<d:=h.pos;obtain⟨n1,n2⟩:=FD n;obtain⟨d1,d2⟩:=FD d;show Yi (ft n d)=_;unfold ft;by_cases hd:d=1
 ·subst hd;rw[MK rfl];have:=gO (y:="/") (c:=47) (ys:=[]) rfl (by decide +kernel) (S:=[nt n]) (λz=>nomatch z) (λp hp=>by rw [MF.mp hp];exact Gz);rw[(tE (z:=nt n) (a:=nt n) this).2,MK n1,n2]
 ·rw[MM hd];have:=gO (y:="/") (c:=47) (ys:=[]) rfl (by decide +kernel) (S:=[nt n,nt d]) (λz=>nomatch z) (λp hp=>by simp only[List.mem_cons,List.not_mem_nil,or_false] at hp;rcases hp with rfl|rfl <;> exact Gz)
  rw [(sU (z:=nt n++("/":Str)++nt d) (a:=nt n) (b:=nt d) this).2,n2,d2,MK ⟨n1,d1,by lia,h.one⟩]
def ZJ {z:Str}:PyData.strOk z=true↔∀c∈tl z,c<1114112:=by show z.cps.all (·< 1114112)=true↔_;rw[OX];simp
def gf {z y p:Str}(h:PyData.strOk z=true)(hp:p∈Txt.split z y):PyData.strOk p=true:=ZJ.mpr λc hc=>ZJ.mp h c ((uo hp).subset hc)
def w5 {ns:List Str}{k:Nat}:(PV.tup (sV ns)).ZQ k=true:=by
 rw[PV.ZQ];exact rS λx hx=>by obtain⟨z,_,rfl⟩:=MR.mp hx;rw[PV.ZQ]
def nq {as st Q}(h:aR as st Q):dy U UR dB (frame 1 as) st (ow st Q) (o6 st Q):=by
 obtain⟨n,ws,rfl,hn,hok,k⟩:=h;unfold dB;walk_at "WP";refine eS (ss:=ws) (tt:=[]) (av hn) (by simp) hok (λz hz=>nomatch hz) ?_;cases ws with
 | nil =>rw[MK (by decide)];exact .inr (.app rfl k)
 | cons w r =>
  rw[MM (by simp)];refine⟨_,ag (av hn),_,aN (j:=0) rfl,?_⟩;show (if decide (w=Str.ofString "without")=false then _ else _);by_cases hw:w="without"
  ·rw[M1 hw,MM (by decide)];refine⟨_,ag (av hn),?_⟩;cases r with
   | nil =>rw[show YK [w]=none by simp[YK]] at k;rw[MK (by solve_by_elim)];exact .inr (.app rfl k)
   | cons a r =>rw[show YK (w::a::r)=some (a::r) by simp[YK,hw]] at k;rw[MM (by simp;lia)];refine⟨_,ah (av hn),_,ag (by simp;rfl),?_⟩;rw[B9];change Q (okR (.tup (sV (a::r)))) st at k;rw[show ∀c d:Cell,st++[c,d]=(st++[c])++[d] fromλc d=>by simp];refine .app (v:=.tup (sV (a::r))) w5 ?_;show Xl st (λv s=>Q (okR v) s) (.tup (sV (a::r))) (st++[Cell.lst []]);exact .inr (.app w5 k)
  ·rw[M8 hw,MK rfl];rw[show YK (w::r)=none by simp[YK,hw]] at k;exact .inr (.app rfl k)
def dh {w:Str}{ws:List Str}:fB (w::ws)=(match Yi w with|some p=>(fB ws).map (p::·)|none=>none):=rfl
theorem vd {ZR:AH->Prop}{st:AH}{Q:LK}{Wx:XW}(hc:ZR st):∀(ws:List Str) (acc:List PV),(∀w∈ws,w.length<=1000)->(∀ms,fB ws=some ms->Q (acc++ms.map fr) st)->(fB ws=none->Wx 0 .non st)->o3 aA ZR (sV ws) acc st Q Wx
 | [],acc,_,h,_=>by have:=h [] rfl;rw[Q8,N5] at this;exact⟨hc,this⟩
 | w::ws,acc,hs,h,hn=>by
  refine⟨hc,.str w,rfl,⟨by rw[PV.ZQ],λz e=>?_⟩,?_⟩
  ·cases e;exact MX (hs w MP) (by decide)
  cases hw:U_ (.str w) with
  | none=>exact hn (by rw[dh,show Yi w=none from hw])
  | some p =>
   refine vd hc ws (acc++[fr p]) (λw' h'=>hs w' (MD _ h')) (λms e=>?_) λe=>hn ?_
   ·rw[MZ];exact h (p::ms) (by rw[dh,show Yi w=some p from hw,e];rfl)
   ·rw[dh,show Yi w=some p from hw,e];rfl
def oS {L:List PV}{k:Nat}:L.drop (min k L.length)=L.drop k:=by simp
def FJ {L:List PV}{k:Nat}:dN L (some 3) (some ((3:Int)+k))=(L.drop 3).take k:=by
 unfold dN;have h1:=HT.Zg L.length 0 3;have h2:=HT.Zg L.length L.length (3+k);rw[show ((3:Nat):Int)=3 from rfl] at h1;rw[show ((3+k:Nat):Int)=3+(k:Int) by simp] at h2;rw[h1,h2,oS];by_cases h:3+k<=L.length
 ·rw[QD h,QD (by lia),Rx]
 ·rw[NP (by grind),NP (by rw[NH];grind)]
def GO {L:List PV}{k:Nat}:dN L (some ((3:Int)+k)) none=L.drop (3+k):=by unfold dN;have h1:=HT.Zg L.length 0 (3+k);rw[show ((3+k:Nat):Int)=3+(k:Int) by simp] at h1;rw[HT.Y7,h1,oS];exact NP (by grind)
def Gs {L:List PV}:dN L none (some 3)=L.take 3:=by unfold dN;have h1:=HT.Zg L.length L.length 3;rw[show ((3:Nat):Int)=3 from rfl] at h1;rw[HT.Y7,h1,QQ,RC];simp
def og {z:Str}(h:aM z=true)(l:z.length<=1000):Hu (aU z):=by
 have h1:=xb (l:=z.cps.toList) (iF h).1;rw[aj] at l;have h2:(10:Nat) ^ z.cps.toList.length<=10 ^ 1000:=N1 (by decide) l;have h3:(10:Nat) ^ 1000<=16 ^ 1000:=Nat.pow_le_pow_left (by decide) 1000;have h4:(16:Nat) ^ 1000=2 ^ 4000:=by rw[show (16:Nat)=2 ^ 4 from rfl,<-Nat.pow_mul]
 exact ML h1 (h4 ▸ MX h2 h3)
def KJ {z:Str}{p:Nat × Nat}(h:Yi z=some p)(l:z.length<=1000):Hu p.1/\Hu p.2:=by
 have hA:=tL z;have hB:=tS z;unfold Yi at h;rw[AC] at h;by_cases q1:aM (ib z)=true
 ·rw[MK q1] at h;by_cases q2:ly z=true
  ·rw[MK q2] at h;by_cases q3:aM (fQ z)=true/\2<=aU (fQ z)/\Nat.gcd (aU (ib z)) (aU (fQ z))=1
   ·rw[MK q3] at h;cases h;exact⟨og q1 (by lia),og q3.1 (by lia)⟩
   simp_all
  ·rw[MM q2] at h;cases h;exact⟨og q1 (by omega),jx (show 1<10 ^ 12 by decide)⟩
 simp_all
theorem gc:∀ {ws:List Str}{ms:List (Nat × Nat)},fB ws=some ms->ms.length=ws.length/\∀p∈ms,∃w∈ws,Yi w=some p
 | [],ms,h=>by cases h;exact⟨rfl,λp hp=>nomatch hp⟩
 | w::ws,ms,h=>by
  rw[dh] at h;cases hw:Yi w with
  | none=>simp_all
  | some q =>
   rw[hw] at h;obtain⟨l,e,rfl⟩:=OI.mp h;obtain⟨h1,h2⟩:=gc e;refine⟨by simp[h1],λp hp=>?_⟩;rcases MU.mp hp with rfl|hp
   ·solve_by_elim
   ·obtain⟨v,hv,e⟩:=h2 p hp;exact⟨v,MD _ hv,e⟩
def xY {p:Nat × Nat}:Xj (fr p):=λa b e=>by cases e;exact⟨_,_,rfl,rfl⟩
def td {ws ns:List Str}(h:YK ws=some ns):ns.length<=ws.length/\∀z∈ns,z∈ws:=by
 cases ws with
 | nil=>cases h;solve_by_elim
 | cons w r =>
  have e:YK (w::r)=if w="without"/\r≠[] then some r else none:=rfl
  simp_all
def Bx {st:AH}{ws ns:List Str}{ms:List (Nat × Nat)}{m:Nat}(hm:m<=2)(hne:ws≠[])(hl:∀w∈ws,w.length<=1000)(h1:ms.length=((ws.drop 3).take m).length)(h2:∀p∈ms,Hu p.1/\Hu p.2)(n1:ns.length<=40)(n2:∀z∈ns,z∈ws):Qx st (c6 ws ms ns):=by
 rw[M6] at h1;have an:Any st (.tup (sV ns)):=eC (by rw[MI];lia) λx hx=>by obtain⟨z,hz,rfl⟩:=MR.mp hx;exact cy (hl z (n2 z hz))
 refine⟨eC ?_ λx hx=>?_,λxs e _=>?_,λw a b ms' n e _ y hy=>?_⟩
 ·simp only[List.length_append,List.length_map,List.length_take,List.length_cons,List.length_nil]
  lia
 ·rw[MN,MN,MF] at hx;rcases hx with (hx|hx)|rfl
  ·obtain⟨z,hz,rfl⟩:=MR.mp hx;exact cy (hl z (NQ hz))
  ·obtain⟨p,hp,rfl⟩:=MR.mp hx;obtain⟨a,b⟩:=h2 p hp;exact tF a b
  ·exact an
 ·cases ws with
  | nil=>solve_by_elim
  | cons w r=>cases e;exact⟨w,_,rfl⟩
 ·match ws,h1,e with
  | [],_,_=>exact absurd rfl hne
  | [_],h1,e =>
   have:ms=[]:=by simpa using h1
   subst this;have:=NS (λv=>match v with|PV.tup xs=>xs.length|_=>0) e;simp at this
  | [_,_],h1,e =>
   have:ms=[]:=by simpa using h1
   subst this;have:=NS (λv=>match v with|PV.tup xs=>xs.length|_=>0) e;simp at this
  | x::x2::x3::r,_,e =>
   have e:PV.tup (.str x::.str x2::.str x3::(ms.map fr++[.tup (sV ns)]))=PV.tup (.str w::a::b::(ms'++[n])):=e;injection e with e
   injection e with _ e
   injection e with _ e
   injection e with _ e
   obtain⟨e1,_⟩:=List.append_inj' e rfl;rw[<-e1] at hy;obtain⟨p,_,rfl⟩:=MR.mp hy;exact xY
def yd {st:AH}{ws ns:List Str}{ms:List (Nat × Nat)}{m:Nat}(hm:m<=2)(hne:ws≠[])(hl:∀w∈ws,w.length<=1000)(h:fB ((ws.drop 3).take m)=some ms)(n1:ns.length<=40)(n2:∀z∈ns,z∈ws):Qx st (c6 ws ms ns):=Bx hm hne hl (gc h).1 (λp hp=>by obtain⟨w,hw,e⟩:=(gc h).2 p hp;exact KJ e (hl w (M9 (NQ hw)))) n1 n2
def mi {as st Q}(h:aC as st Q):dy U UR cU (frame 5 as) st (ow st Q) (o6 st Q):=by
 obtain⟨x,rfl,⟨hb,hx⟩,k⟩:=h;unfold cU;walk_at "WP";obtain⟨n,hn⟩:=ba hb;obtain⟨k1,k2⟩:=ur hn;refine⟨n,hn,?_⟩;cases hk:a9 "str" n with
 | false =>
  rw[MK rfl];have:Wh x=none:=by
   cases x with
   | str z=>cases hn;cases hk
   | _=>rfl
  rw[this] at k;exact .inl k
 | true =>
  rw[MM (by decide)];obtain⟨z,rfl⟩:=k1 hk;obtain⟨z1,z2,z3⟩:=hx z rfl;refine⟨⟨z,rfl⟩,?_⟩;have hlen:∀p∈Txt.split z " ",p.length<=1000:=λp hp=>MX (eK hp) (MX z1 (by decide));have hok:∀p∈Txt.split z " ",PyData.strOk p=true:=λp hp=>gf z3 hp;have hne:=eP z " ";change Q (R6 (Yq (Txt.split z " "))) st at k;walk_at "WP";generalize Txt.split z " "=ws at *;cases ws with
  | nil=>solve_by_elim
  | cons w r =>
  refine⟨by decide,by lia,by lia,_,ag aq,_,aN (j:=0) rfl,?_⟩;walk_at "WP";cases hm:ZV.lookup w with
  | none =>rw[show Yq (w::r)=none by show T7 (w::r) (ZV.lookup w)=none;rw[hm];rfl] at k;rw[MK (by assumption)];exact .inr (.app rfl k)
  | some i =>
   obtain⟨m,rfl⟩:∃m:Nat,i=m:=⟨i.toNat,by have:=fe hm;lia⟩;rw[MM (by simp)];refine⟨_,ag aq,_,aN (j:=0) rfl,?_⟩;walk_at "WP";refine⟨(m:Int),hm,?_⟩;have m2:m<=2:=by have:=fe hm;omega
   have ek:Yq (w::r)=Va (w::r) m (fB (((w::r).drop 3).take m)):=by show T7 (w::r) (ZV.lookup w)=_;rw[hm];rfl
   rw[ek] at k;rw[show PV.str w::List.map PV.str r=sV (w::r) from rfl];clear hm ek;generalize w::r=ws at *;refine⟨sV ws,ah (by simp),?_⟩;rw[FJ,show ((sV ws).drop 3).take m=sV ((ws.drop 3).take m) by simp];have pl:((ws.drop 3).take m).length<=m:=by rw[M6];omega
   refine⟨sV ((ws.drop 3).take m),ag (by simp),by rw[MI];lia,?_⟩;refine vd (gH ▸ rfl) _ [] (λw hw=>hlen w (M9 (NQ hw))) (λms e=>?_) λe=>?_
   ·rw[e] at k;have ml:ms.length<=2:=by have:=(gc e).1;omega
    rw[QC];generalize hS:st++[Cell.lst (sV ws),Cell.lst (sV ((ws.drop 3).take m))]=S;have hS1:S[st.length]?=some (.lst (sV ws)):=by rw[<-hS];simp
    refine⟨sV ws,ah (av hS1),?_⟩;rw[Gs,show (sV ws).take 3=sV (ws.take 3) by simp];have tl3:(ws.take 3).length<=3:=by rw[M6];omega
    refine⟨by simp only[List.length_map];lia,_,ag (xs:=sV (ws.take 3)++ms.map fr) (by simp),sV ws,ah (av hS1),?_⟩;rw[GO,show (sV ws).drop (3+m)=sV (ws.drop (3+m)) by simp];generalize hT:S++[Cell.lst (List.map fr ms),Cell.lst (sV (ws.take 3)),Cell.lst (sV (ws.take 3)++List.map fr ms),Cell.lst (sV (ws.drop (3+m)))]=T;obtain⟨g,rfl⟩:∃g,T=st++g:=⟨_,by rw[<-hT,<-hS,MZ]⟩;refine⟨S.length+3,ws.drop (3+m),rfl,by rw[<-hT];simp,λz hz=>hok z (M9 hz),?_⟩;change Q (R6 (Vu ws ms (YK (ws.drop (3+m))))) st at k;cases hw:YK (ws.drop (3+m)) with
    | none =>rw[hw] at k;exact .inr (.app rfl k)
    | some ns =>
     rw[hw] at k;obtain⟨w1,w2⟩:=td hw;rw[NH] at w1;refine⟨by simp only[List.length_append,List.length_map];lia,c6 ws ms ns,rfl,yd m2 hne hlen e (by lia) λz hz=>M9 (w2 z hz),?_⟩;change Q (R6 (if dF (c6 ws ms ns)=true then some (c6 ws ms ns) else none)) st at k;cases hq:dF (c6 ws ms ns) with
     | false =>rw[hq] at k;walk_at "WP";exact .inr (.app rfl k)
     | true =>
      rw[hq] at k;walk_at "WP";rw[<-MZ];exact .inr (.app (Q:=λv s=>Q (okR v) s) (v:=c6 ws ms ns) (by have:=(yd (st:=st) m2 hne hlen e (by omega) λz hz=>M9 (w2 z hz)).any.1;exact this) k)
   ·rw[e] at k;exact .inr (.app rfl k)
theorem Ai {g:Nat->Bool}:∀ {l:List Nat},(∃c∈l,g c=false)->(l.takeWhile g).length<l.length
 | [],⟨c,hc,_⟩=>nomatch hc
 | x::l,⟨c,hc,hg⟩=>by
  rw[PQ];split
  ·rename_i hx;rcases MU.mp hc with rfl|hc
   ·simp_all
   ·have:=Ai (g:=g) (l:=l) ⟨c,hc,hg⟩;simp[*]
  ·simp
theorem Bz {g:Nat->Bool}:∀ {l:List Nat},(∀c∈l,g c=true)->l.takeWhile g=l
 | [],_=>rfl
 | x::l,h=>by rw[PQ,MK (h x MP),Bz λc hc=>h c (MD _ hc)]
theorem yj {g:Nat->Bool}:∀ {l:List Nat},l.drop (l.takeWhile g).length=l.dropWhile g
 | []=>rfl
 | x::l=>by
  rw[PQ,List.dropWhile_cons];split
  ·rw[NT,List.drop_succ_cons,yj]
  ·rfl
theorem BL {g:Nat->Bool}{c:Nat}:∀ {l:List Nat},c∈l.takeWhile g->g c=true
 | x::l,h=>by
  rw[PQ] at h;split at h
  ·rcases MU.mp h with rfl|h
   ·assumption
   ·exact BL h
  ·cases h
def strip_nil {z y:Str}:Txt.stripChars z y=""↔∀c∈tl z,y.cps.contains c=true:=by
 have hl:(Txt.stripChars z y).cps.toList=(z.cps.toList.drop (stripLo y.cps.contains true z)).take (stripHi y.cps.contains true z (stripLo y.cps.contains true z)-stripLo y.cps.contains true z):=by unfold Txt.stripChars;rw[PyProof.Rows.stripBy_eq,M_]
 rw [show Txt.stripChars z y=""↔(Txt.stripChars z y).cps.toList=[] from ⟨λh=>by rw [h];rfl,λh=>cu h⟩,hl];generalize y.cps.contains=g;have e1:stripLo g true z=(z.cps.toList.takeWhile g).length:=by simp[stripLo]
 constructor
 ·intro h c hc;cases hg:g c with
  | true=>rfl
  | false =>
   exfalso;have h1:=Ai (g:=g) ⟨c,hc,hg⟩;have hd:c∈z.cps.toList.drop (stripLo g true z):=by
    have hc':c∈z.cps.toList:=hc;rw[<-List.takeWhile_append_dropWhile (p:=g) (l:=z.cps.toList)] at hc';rcases MN.mp hc' with m|m
    ·have:=BL m
     simp_all
    ·rw[e1];rw[yj];exact m
   have h2:=Ai (g:=g) (l:=(z.cps.toList.drop (stripLo g true z)).reverse) ⟨c,List.mem_reverse.mpr hd,hg⟩;rw[List.length_reverse,NH] at h2;have e2:stripHi g true z (stripLo g true z)=z.length-((z.cps.toList.drop (stripLo g true z)).reverse.takeWhile g).length:=by simp[stripHi]
   have:=NS List.length h;rw[M6,NH,e2,aj] at this;simp only[List.length_nil] at this
   lia
 ·intro h;have:z.cps.toList.takeWhile g=z.cps.toList:=Bz h;simp[*]
def xW (c:Nat):("0123456789":Str).cps.contains c=decide (48<=c/\c<=57):=by
 have e:(Str.ofString "0123456789").cps=#[48,49,50,51,52,53,54,55,56,57]:=by decide +kernel
 show (Str.ofString "0123456789").cps.contains c=_;rw[e,N9,decide_eq_true_eq];simp;omega
def nj {w:Str}:decide (Txt.stripChars w (Str.ofString "0123456789")=Str.ofString "")=w.cps.toList.all λc=>decide (48<=c/\c<=57):=by
 rw[N9,decide_eq_true_eq,NK];refine strip_nil.trans ⟨λh c hc=>?_,λh c hc=>?_⟩
 ·have:=h c hc;rw [show (Str.ofString "0123456789").cps.contains c=decide (48<=c/\c<=57) from xW c] at this;exact this
 ·rw [show (Str.ofString "0123456789").cps.contains c=decide (48<=c/\c<=57) from xW c];exact h c hc
def kF {ws:List Str}{cond:T}{ZR:AH->Prop}{Z:Fr}{st:AH}{Q:LK}(f:Str->Bool)(hc:ZR st)(h0:0<Z.length)
  (hs:∀w∈ws,∀K:Bool->AH->Prop,K (f w) st->YW U cond (Z.set 0 (some (.str w))) st K) (q:Q (sV (ws.filter f)) st):ui U (.var 0) (.name 0) (.cons cond .nil) ZR Z (sV ws) st Q:=by
 refine eG Um (λi acc s=>s=st/\acc=sV ((ws.take i).filter f)) ⟨rfl,rfl⟩ ?_ ?_
 ·rintro i x acc s hx ⟨rfl,rfl⟩;rw[M5] at hx;obtain⟨w,hw,rfl⟩:=OI.mp hx;have tk:ws.take (i+1)=ws.take i++[w]:=by rw[OC,hw];rfl
  refine⟨hc,?_⟩;cases Z with
  | nil=>simp_all
  | cons y Z =>
  refine hs w (MW hw) _ ?_;rw[tk,List.filter_append];cases hf:f w with
  | true =>
   and_intros<;>grind
  | false =>simp[*,Ts.Vt]
 simp_all
def ZS {st g:AH}{k:Nat}:(st++g)[st.length+k]?=g[k]?:=by rw[MY (PJ ..),Rx]
def su {w:Str}(h:aM w=true)(l:w.length<=640):PySem.intText? w=some (aU w:Int):=QA (x:=w) (iF h).1 (iF h).2 (by lia)
def wy:∀ {ws:List Str},(∃w∈ws,aM w=false)->Tt ws=none
 | [],⟨w,h,_⟩=>nomatch h
 | [a],⟨w,h,e⟩=>by rw[MF.mp h] at e;show (if aM a=true then _ else _)=_;rw[e];rfl
 | [a,b],⟨w,h,e⟩=>by show (if aM a=true/\aM b=true/\2<=aU b then _ else _)=_;rw[MM];rintro⟨h1,h2,_⟩;grind
 | _::_::_::_,_=>rfl
def CV:∀ {ws:List Str},2<ws.length->Tt ws=none
 | _::_::_::_,_=>rfl
 | [],h=>absurd h (by decide)
 | [_],h=>absurd (show 2<1 from h) (by decide)
 | [_,_],h=>absurd (show 2<2 from h) (by decide)
noncomputable def lz (w:Str):Bool:=decide (w.cps.toList.head?=some 48) && !decide (w="0")
def Fp {w:Str}(h0:w≠"")(h1:(w.cps.toList.all λc=>decide (48<=c/\c<=57))=true):aM w=!lz w:=by
 unfold aM lz;rw[h1];have:w.cps.toList≠[]:=λe=>h0 (cu e);cases e:w.cps.toList with
 | nil=>solve_by_elim
 | cons c r =>by_cases q:w="0" <;> simp [q]
def jz {as st Q}(h:aY as st Q):aO U bZ (frame 4 as) st (au st Q):=by
 obtain⟨z,rfl,hz,hzo,k⟩:=h;unfold bZ;walk_at "WP";have hlen:∀p∈Txt.split z "/",p.length<=640:=λp hp=>MX (eK hp) hz;have hok:∀p∈Txt.split z "/",PyData.strOk p=true:=λp hp=>gf hzo hp;have hm:=oN (z:=z) (y:="/") (by decide);rw [show (Str.ofString "/").length=1 from rfl,Q6] at hm;have hne:=eP z "/";unfold X6 at k;generalize Txt.split z "/"=ws at *;refine⟨by decide,by lia,by lia,_,ag aq,?_⟩;rw[MI];by_cases hl:2<ws.length
 ·rw[MK (by lia)];rw[CV hl] at k;exact .inr (.app rfl k)
 rw[MM (by lia)];refine .inl ⟨ws,aq,?_⟩;cases h0:ws.any λj=>j == Str.ofString "" with
 | true =>rw[MK rfl];obtain⟨w,hw,e⟩:=PM.mp h0;have e:=eq_of_beq e;subst e;rw[wy ⟨_,hw,by decide⟩] at k;exact .inr (.app rfl k)
 | false =>
 have h0:∀w∈ws,w≠"":=λw hw e=>by
  have:(ws.any λj=>j == Str.ofString "")=true:=PM.mpr ⟨w,hw,by rw [e];solve_by_elim⟩
  simp_all
 rw[MM (by decide)];refine ⟨_,ag aq,by rw [MI];lia,kF (λw=>!decide (Txt.stripChars w (Str.ofString "0123456789")=Str.ofString "")) rfl (by decide) (λw hw K kk=>?_) ?_⟩
 ·walk_at "WP";exact⟨by have:=hlen w hw;lia,kk⟩
 refine eS (ss:=ws.filter λw=>!decide (Txt.stripChars w (Str.ofString "0123456789")=Str.ofString "")) (tt:=[]) (by simp) (ZS.trans rfl) (λz hz=>hok z ((OR.mp hz).1)) (λz hz=>nomatch hz) ?_;cases h1:decide ((ws.filter λw=>!decide (Txt.stripChars w (Str.ofString "0123456789")=Str.ofString ""))=[]) with
 | false =>
  rw[MK rfl];have h1:=of_decide_eq_false h1;obtain⟨w,hw⟩:=List.exists_mem_of_ne_nil _ h1;obtain⟨hw,e⟩:=OR.mp hw;rw[nj] at e;have:aM w=false:=by unfold aM;rw[Bool.not_eq_true'] at e;rw[e];simp
  rw[wy ⟨w,hw,this⟩] at k;rw[MZ];exact .inr (.app rfl k)
 | true =>
 rw[MM (by decide)];have h1:=NY h1;have hf:∀w∈ws,(w.cps.toList.all λc=>decide (48<=c/\c<=57))=true:=λw hw=>by
  have:=List.filter_eq_nil_iff.mp h1 w hw;rw[nj] at this
  lia
 rw[h1];refine⟨sV ws,ag (by simp),by rw[MI];omega,kF lz (gH ▸ rfl) (by decide) (λw hw K kk=>?_) ?_⟩
 ·have hwl:=hlen w hw;have:=h0 w hw;obtain⟨c,r,hc⟩:∃c r,w.cps.toList=c::r:=by
   cases e:w.cps.toList with
   | nil=>exact absurd (cu e) this
   | cons c r=>solve_by_elim
  walk_at "WP";refine⟨by lia,c,by rw[hc];exact aN (j:=0) rfl,?_⟩;rw[show st++[Cell.lst (List.map PV.str ws)]++[Cell.lst (sV []),Cell.lst []]=st++[Cell.lst (List.map PV.str ws),Cell.lst [],Cell.lst []] by simp] at kk;by_cases q:c=48
  ·rw[MK (sign_zero.mpr q)];have:lz w=!decide (w="0"):=by unfold lz;rw [hc,q];rfl
   simp_all
  ·rw[MM (λz=>q (sign_zero.mp z))];have:lz w=false:=by unfold lz;rw[hc,M8 (by simpa using q)];rfl
   simp_all
 refine eS (ss:=ws.filter lz) (tt:=[]) (by simp) (ZS.trans rfl) (λz hz=>hok z ((OR.mp hz).1)) (λz hz=>nomatch hz) ?_;cases h2:decide (ws.filter lz=[]) with
 | false =>rw[MK rfl];have h2:=of_decide_eq_false h2;obtain⟨w,hw⟩:=List.exists_mem_of_ne_nil _ h2;obtain⟨hw,e⟩:=OR.mp hw;rw[wy ⟨w,hw,by rw[Fp (h0 w hw) (hf w hw),e];rfl⟩] at k;rw[MZ,MZ];exact .inr (.app rfl k)
 | true =>
 rw[MM (by decide)];have h2:=NY h2;have hn:∀w∈ws,aM w=true:=λw hw=>by rw[Fp (h0 w hw) (hf w hw)];have:=List.filter_eq_nil_iff.mp h2 w hw;simp[*]
 rw[h2];refine⟨sV ws,ag (by simp),?_⟩;rw[show st++[Cell.lst (List.map PV.str ws)]++[Cell.lst (sV []),Cell.lst []]++[Cell.lst (sV []),Cell.lst []]=st++[Cell.lst (sV ws),.lst [],.lst [],.lst [],.lst []] by simp];have n1:aM (Str.ofString "1")=true:=by decide
 have v1:aU (Str.ofString "1")=1:=by decide
 clear h1 h2 h0 hf
 match ws,hne,hl with
 | _::_::_::_,_,hl=>exact absurd (show 2<_+1+1+1 by simp) hl
 | [a],_,_ =>have na:=hn a (by simp);have la:=hlen a (by simp);refine⟨_,aN (j:=0) rfl,?_⟩;walk_at "WP";refine⟨la,_,su na la,_,ag (ZS.trans rfl),_,aN (j:=1) rfl,?_⟩;walk_at "WP";refine⟨by decide,_,su n1 (by decide),?_⟩;rw[v1,MM (by decide)];refine⟨_,ag (by simp;rfl),?_⟩;rw[MM (by simp)];rw[show Tt [a]=some (aU a,1) from MK na] at k;exact .inr (.app rfl k)
 | [a,b],_,_ =>
  have na:=hn a (by simp);have la:=hlen a (by simp);have nb:=hn b (by simp);have lb:=hlen b (by simp);refine⟨_,aN (j:=0) rfl,?_⟩;walk_at "WP";refine⟨la,_,su na la,_,ag (ZS.trans rfl),_,aN (j:=1) rfl,?_⟩;walk_at "WP";refine⟨lb,_,su nb lb,?_⟩;have e:Tt [a,b]=if aM a=true/\aM b=true/\2<=aU b then some (aU a,aU b) else none:=rfl
  by_cases c0:aU b=0
  ·rw[MK (by simp_all)];rw[e,MM (by simp_all)] at k;exact .inr (.app rfl k)
  rw[MM (by simp_all)];refine⟨_,ag (by simp;rfl),?_⟩;rw[MK (by solve_by_elim)];by_cases c1:aU b=1
  ·rw[MK (by simp_all)];rw[e,MM (by simp_all)] at k;exact .inr (.app rfl k)
  ·rw[MM (by lia)];rw[e,MK ⟨na,nb,by lia⟩] at k;exact .inr (.app rfl k)
def Fu (w:Str):Yi w=match X6 w with
  | some p=>if Nat.gcd p.1 p.2=1 then some p else none
  | none=>none:=by
 unfold X6
 match e:Txt.split w "/" with
 | []=>exact absurd e (eP w "/")
 | [a] =>
  obtain⟨rfl,h⟩:=tE e;rw[h];show _=match (if aM a=true then some (aU a,1) else none) with
   | some p=>_
   | none=>_
  by_cases q:aM a=true
  ·rw[MK q];simp
  ·rw[MM q]
 | [a,b] =>
  obtain⟨_,h⟩:=sU e;rw[h];show _=match (if aM a=true/\aM b=true/\2<=aU b then some (aU a,aU b) else none) with
   | some p=>_
   | none=>_
  by_cases q:aM a=true/\aM b=true/\2<=aU b
  ·rw[MK q];simp[*]
  ·rw[MM q,MM λz=>q ⟨z.1,z.2.1,z.2.2.1⟩]
 | a::b::c::r=>rw[vi (by rw[e];simp)];rfl
def Bc {w:Str}{p:Nat × Nat}(h:X6 w=some p):1<=p.2/\((∃a,aM a=true/\a.length<=w.length/\p.1=aU a)/\(p.2=1\/∃b,aM b=true/\b.length<=w.length/\p.2=aU b)):=by
 unfold X6 at h
 match e:Txt.split w "/" with
 | []=>rw[e] at h;cases h
 | [a] =>
  rw[e] at h;have h:(if aM a=true then some (aU a,1) else none)=some p:=h;by_cases q:aM a=true
  ·rw[MK q] at h;cases h;exact⟨MJ _,⟨a,q,eK (by rw[e];simp),rfl⟩,.inl rfl⟩
  ·simp_all
 | [a,b] =>
  rw[e] at h;have h:(if aM a=true/\aM b=true/\2<=aU b then some (aU a,aU b) else none)=some p:=h;by_cases q:aM a=true/\aM b=true/\2<=aU b
  ·rw[MK q] at h;cases h;exact⟨by lia,⟨a,q.1,eK (by rw[e];simp),rfl⟩,.inr ⟨b,q.2.1,eK (by rw[e];simp),rfl⟩⟩
  ·simp_all
 | a::b::c::r=>rw[e] at h;cases h
def JR {w:Str}{p:Nat × Nat}(h:X6 w=some p)(l:w.length<=1000):Hu p.1/\Hu p.2:=by
 obtain⟨_,⟨a,h1,h2,h3⟩,h4⟩:=Bc h;refine⟨by rw[h3];exact og h1 (by lia),?_⟩;rcases h4 with e|⟨b,b1,b2,b3⟩
 ·rw[e];exact jx (show 1<10 ^ 12 by decide)
 ·rw[b3];exact og b1 (by lia)
def Eo {p:Nat × Nat}(h:1<=p.2):bN (fr p)=decide (Nat.gcd p.1 p.2=1):=by show decide (0<=(p.1:Int)/\1<=(p.2:Int)/\Nat.gcd p.1 p.2=1)=_;exact decide_eq_decide.mpr ⟨λz=>z.2.2,λz=>⟨by simp,by lia,z⟩⟩
theorem Bn:∀ {ws:List Str},(∃w∈ws,X6 w=none)->fB ws=none
 | [],⟨w,h,_⟩=>nomatch h
 | v::ws,⟨w,h,e⟩=>by
  rw[dh];rcases MU.mp h with rfl|h
  ·rw[Fu,e]
  ·rw[Bn ⟨w,h,e⟩];cases Yi v <;> rfl
theorem xH:∀ {ws:List Str},(∀w∈ws,X6 w≠none)->∃ms:List (Nat × Nat),(ws.map λw=>TV (X6 w))=ms.map fr/\ms.length=ws.length/\(∀p∈ms,∃w∈ws,X6 w=some p)/\fB ws=if (ms.map fr).all bN=true then some ms else none
 | [],_=>⟨[],rfl,rfl,λp hp=>(nomatch hp),rfl⟩
 | w::ws,h=>by
  obtain⟨ms,h1,h2,h3,h4⟩:=xH (ws:=ws) λv hv=>h v (MD _ hv);cases hw:X6 w with
  | none=>solve_by_elim
  | some p =>
   refine⟨p::ms,by rw[M3,h1,hw];rfl,by simp[h2],λq hq=>?_,?_⟩
   ·rcases MU.mp hq with rfl|hq
    ·solve_by_elim
    ·obtain⟨v,hv,e⟩:=h3 q hq;exact⟨v,MD _ hv,e⟩
   ·rw[dh,Fu,hw,M3,OB,Eo (Bc hw).1,h4];by_cases g:Nat.gcd p.1 p.2=1
    ·simp only[g,if_true,decide_true,Bool.true_and];simp
    ·simp[g]
def BW {w:Str}{r:List Str}{m:Nat}(hm:ZV.lookup w=some (m:Int))(h:(w::r).length<3+m):Va (w::r) m (fB (((w::r).drop 3).take m))=none:=by
 cases e:fB (((w::r).drop 3).take m) with
 | none=>rfl
 | some ms =>
  obtain⟨h1,_⟩:=gc e;rw[M6,NH] at h1;show Vu (w::r) ms (YK ((w::r).drop (3+m)))=none;rw[OH (by lia)];show (if dF (c6 (w::r) ms [])=true then _ else none)=none;have:dF (c6 (w::r) ms [])=false:=by
   match r,h,h1 with
   | [],_,h1 =>
    have:ms=[]:=by simpa using h1
    subst this;exact iL (by simp)
   | [_],_,h1 =>
    have:ms=[]:=by simpa using h1
    subst this;exact iL (by simp)
   | a::b::r,h,h1 =>refine fu (w:=w) (a:=.str a) (b:=.str b) (ms:=ms.map fr) λz=>?_;rw[hm,MI] at z;have:=NC z;simp only[List.length_cons] at h h1;omega
  rw[this];rfl
def C6 {ws ns:List Str}(h:YK ws=some ns):ws.drop 1=ns:=by
 cases ws with
 | nil=>cases h;rfl
 | cons w r =>
  have e:YK (w::r)=if w="without"/\r≠[] then some r else none:=rfl
  simp_all
def Cu {c:Prop}[Decidable c]{A R:Prop}(h:R)(h2:c->R->A):if c then A else R:=nU (λz=>h2 z h) λ_=>h
def Aq {ws ns:List Str}{ms:List (Nat × Nat)}(h:3<=ws.length)(q:(ms.map fr).all bN=false):dF (c6 ws ms ns)=false:=by
 match ws,h with
 | x::a::b::r,_ =>
  by_cases hk:ZV.lookup x=some ((ms.map fr).length:Int)
  ·refine(iX (w:=x) (a:=.str a) (b:=.str b) (ms:=ms.map fr) (n:=.tup (sV ns)) hk).trans ?_;simp[*]
  ·exact fu (w:=x) (a:=.str a) (b:=.str b) (ms:=ms.map fr) (n:=.tup (sV ns)) hk
def tR {as st Q}(h:cz as st Q):aO U fj (frame 6 as) st (au st Q):=by
 obtain⟨z,rfl,⟨z1,z2,z3⟩,k⟩:=h;unfold fj;walk_at "WP";have hlen:∀p∈Txt.split z " ",p.length<=640:=λp hp=>MX (eK hp) z1;have hok:∀p∈Txt.split z " ",PyData.strOk p=true:=λp hp=>gf z3 hp;have hne:=eP z " ";change Q (T8 (Yq (Txt.split z " "))) st at k;generalize Txt.split z " "=ws at *;cases ws with
 | nil=>exact absurd rfl hne
 | cons w r =>
 refine⟨by decide,by omega,by omega,_,ag aq,_,aN (j:=0) rfl,?_⟩;walk_at "WP";have ek:∀o,ZV.lookup w=o->Yq (w::r)=T7 (w::r) o:=λo h=>by rw[<-h];rfl
 cases hm:ZV.lookup w with
 | none =>rw[ek none hm] at k;rw[show U8 ZV none w=.non by unfold U8;rw[hm];rfl,MK (show eR PV.non=true from rfl)];exact .inr (.app rfl k)
 | some i =>
  obtain⟨m,rfl⟩:∃m:Nat,i=m:=⟨i.toNat,by have:=fe hm;omega⟩;have m2:m<=2:=by have:=fe hm;omega
  rw[ek _ hm] at k;change Q (T8 (Va (w::r) m (fB (((w::r).drop 3).take m)))) st at k;rw[show U8 ZV none w=.int m by unfold U8;rw[hm],MM (by exact ME)];refine⟨sV (w::r),ag (by simp),?_⟩;walk_at "WP";by_cases hs:(w::r).length<3+m
  ·rw[BW hm hs] at k;rw[MK (by rw[MI];simp only[List.length_cons] at hs;lia)];exact .inr (.app rfl k)
  rw[MM (by rw[MI];simp only[List.length_cons] at hs;lia)];rw[show PV.str w::List.map PV.str r=sV (w::r) from rfl];clear ek;have hw:(w::r).head?=some w:=rfl;generalize w::r=ws at *;refine⟨sV ws,ah (by simp),?_⟩;rw[FJ,show ((sV ws).drop 3).take m=sV ((ws.drop 3).take m) by simp];have pl:((ws.drop 3).take m).length<=m:=by rw[M6];omega
  refine⟨sV ((ws.drop 3).take m),ag (by simp),by rw[MI];omega,?_⟩;refine nE PV.str (λw=>TV (X6 w)) (gH ▸ rfl) (λv hv K kk=>?_) ?_
  ·have hv:=M9 (NQ hv);walk_at "WP";exact⟨v,rfl,hlen v hv,hok v hv,kk⟩
  generalize hS:st++[Cell.lst (sV ws),Cell.lst (sV ((ws.drop 3).take m))]=S;have hS1:S[st.length]?=some (.lst (sV ws)):=by rw[<-hS];simp
  refine⟨sV ws,ah (av hS1),?_⟩;rw[GO,show (sV ws).drop (3+m)=sV (ws.drop (3+m)) by simp];refine⟨(((ws.drop 3).take m).map λw=>TV (X6 w)),ah (by simp),?_,?_⟩
  ·refine NK.mpr λx hx=>?_;obtain⟨w,_,rfl⟩:=MR.mp hx;cases X6 w <;> rfl
  have out:∀g,Q .non st->Xl st Q .non (S++g):=λg q=>by rw[<-hS,MZ];exact .inr (.app rfl q)
  cases ha:(((ws.drop 3).take m).map λw=>TV (X6 w)).any eR with
  | true =>
   rw[MK rfl];obtain⟨x,hx,e⟩:=PM.mp ha;obtain⟨w,hw,rfl⟩:=MR.mp hx;have:X6 w=none:=by cases h:X6 w with|none=>rfl|some p=>rw[h] at e;cases e
   rw[Bn ⟨w,hw,this⟩] at k;exact out _ k
  | false =>
  rw[MM (by decide)];obtain⟨ms,t1,t2,t3,t4⟩:=xH (ws:=(ws.drop 3).take m) λw hw e=>by
   have:(((ws.drop 3).take m).map λw=>TV (X6 w)).any eR=true:=PM.mpr ⟨_,MR.mpr ⟨w,hw,rfl⟩,by rw[e];rfl⟩
   lia
  rw[t1];have hwo:∀z∈ws.drop (3+m),PyData.strOk z=true:=λz hz=>hok z (M9 hz);refine eS (ss:=ws.drop (3+m)) (tt:=[]) (ZS.trans rfl) (ZS.trans rfl) hwo (λz hz=>nomatch hz) ?_;have tl3:(ws.take 3).length<=3:=by rw[M6];omega
  have ml:ms.length<=2:=by omega
  cases hd:YK (ws.drop (3+m)) with
  | none =>
   have k:Q .non st:=by
    rw[t4] at k;by_cases q:(ms.map fr).all bN=true
    ·rw[MK q] at k;change Q (T8 (Vu ws ms (YK (ws.drop (3+m))))) st at k;rw[hd] at k;exact k
    ·rw[MM q] at k;exact k
   generalize hD:ws.drop (3+m)=D at *;cases D with
   | nil=>cases hd
   | cons x D =>
    rw[MK (M8 (λz=>nomatch z))];refine⟨sV (x::D),ag (ZS.trans rfl),_,aN (j:=0) rfl,?_⟩;show (if decide (x=Str.ofString "without")=false then _ else _);by_cases hx:x="without"
    ·rw[M1 hx,MM (by decide)];refine⟨sV (x::D),ag (ZS.trans rfl),?_⟩;have:D=[]:=by
      by_cases q:D=[]
      ·exact q
      ·have e:YK (x::D)=if x="without"/\D≠[] then some D else none:=rfl
       rw[e,MK ⟨hx,q⟩] at hd;cases hd
     subst this
     solve_by_elim
    ·rw[M8 hx,MK rfl];exact out _ k
  | some ns =>
   obtain⟨w1,w2⟩:=td hd;rw[NH] at w1;have hx:∀S',Qx S' (c6 ws ms ns):=λS'=>Bx m2 hne (λw h=>MX (hlen w h) (by decide)) t2 (λp hp=>by obtain⟨w,hw,e⟩:=t3 p hp;exact JR e (MX (hlen w (M9 (NQ hw))) (by decide))) (by lia) λz hz=>M9 (w2 z hz)
   have k:Q (if dF (c6 ws ms ns)=true then c6 ws ms ns else .non) st:=by
    rw[t4] at k;by_cases q:(ms.map fr).all bN=true
    ·rw[MK q] at k;change Q (T8 (Vu ws ms (YK (ws.drop (3+m))))) st at k;rw[hd] at k;change Q (T8 (if dF (c6 ws ms ns)=true then some (c6 ws ms ns) else none)) st at k;cases h:dF (c6 ws ms ns) with
     | true=>rw[h] at k;exact k
     | false=>rw[h] at k;exact k
    ·rw[MM q] at k;rw[Aq (by lia) (by simp[*])];exact k
   refine Cu ?_ λhc tail=>?_
   ·refine⟨sV ws,ah (av hS1),?_⟩;rw[Gs,show (sV ws).take 3=sV (ws.take 3) by simp];refine⟨by simp only[List.length_map];lia,sV (ws.take 3)++ms.map fr,ag (ZS.trans rfl),sV (ws.drop (3+m)),ah (ZS.trans rfl),?_⟩;rw[B9,show (sV (ws.drop (3+m))).drop 1=sV ns by rw[<-C6 hd];simp];refine⟨sV ns,ag (ZS.trans rfl),?_⟩;rw[show ∀a b c d e f:Cell,S++[a,b,c,d,e,f]=(S++[a,b,c,d,e])++[f] fromλa b c d e f=>by simp];refine .app w5 ⟨by simp only[List.length_append,List.length_map];lia,c6 ws ms ns,rfl,hx _,?_⟩;rw[<-hS];cases h:dF (c6 ws ms ns) with
    | true =>rw[h,MK rfl] at k;walk_at "WP";rw[<-MZ];exact .inr (.app (hx st).any.1 k)
    | false =>rw[h,MM (by decide)] at k;walk_at "WP";exact .inr (.app rfl k)
   ·have hc:=of_decide_eq_false hc;generalize hD:ws.drop (3+m)=D at *;cases D with
    | nil=>solve_by_elim
    | cons x D =>
     have e:YK (x::D)=if x="without"/\D≠[] then some D else none:=rfl
     rw[e] at hd;by_cases q:x="without"/\D≠[]
     ·refine⟨sV (x::D),ag (ZS.trans rfl),_,aN (j:=0) rfl,?_⟩;show (if decide (x=Str.ofString "without")=false then _ else _);rw[M1 q.1,MM (by decide)];refine⟨sV (x::D),ag (ZS.trans rfl),?_⟩;rw[MM (by
       have:=List.length_pos_iff.mpr q.2;simp
       lia)]
      exact tail
     simp_all
def mB {as st Q}(h:bw as st Q):aO U cV (frame 2 as) st (au st Q):=by
 obtain⟨z,rfl,hz,ho,k⟩:=h;unfold cV;walk_at "WP";refine⟨by simp only[bB,List.length_map];rw[<-aj];lia,?_⟩;refine nE (xs:=z.cps.toList) (λc=>.str ⟨#[c]⟩) (λc=>.str (if 48<=c/\c<=57 then ⟨#[c]⟩ else " ")) trivial (λc hc K kk=>?_) ?_
 ·walk_at "WP";refine⟨_,ag aq,?_⟩;rw [show (!(Builtin.Str.occurrences (Str.ofString "0123456789") ⟨#[c]⟩ 0 (Str.ofString "0123456789").length 1).isEmpty)=decide (48<=c/\c<=57) from BR c];by_cases q:48<=c/\c<=57
  ·rw[MK q] at kk;rw[M1 q];exact⟨_,aN (j:=1) rfl,.app rfl kk⟩
  ·rw[MM q] at kk;rw[M8 q];exact⟨_,aN (j:=0) rfl,.app rfl kk⟩
 refine ⟨z.cps.toList.map λc=>if 48<=c/\c<=57 then (⟨#[c]⟩:Str) else " ",?_,xf (λy hy=>?_) (by rw [MI,<-aj];omega),?_⟩
 ·rw[ah aq];simp
 ·obtain⟨c,_,rfl⟩:=MR.mp hy;split <;> exact MJ 1
 have jl:∀c∈tl (Txt.join "" (z.cps.toList.map λc=>if 48<=c/\c<=57 then (⟨#[c]⟩:Str) else " ")),c<1114112:=λc hc=>by
  rw[uA] at hc;obtain⟨l,hl,hc⟩:=List.mem_flatten.mp hc;obtain⟨s,hs,rfl⟩:=MR.mp hl;obtain⟨d,hd,rfl⟩:=MR.mp hs;by_cases q:48<=d/\d<=57
  ·rw[MK q] at hc;rw[MF.mp (show c∈[d] from hc)]
   lia
  ·rw[MM q] at hc;rw[MF.mp (show c∈[32] from hc)];decide
 have jn:=tj (sep:="") (S:=z.cps.toList.map λc=>if 48<=c/\c<=57 then (⟨#[c]⟩:Str) else " ") (B:=1) λy hy=>by obtain⟨c,_,rfl⟩:=MR.mp hy;split <;> exact MJ 1
 rw [MI,<-aj,show (Str.ofString "").length=0 from rfl] at jn;generalize Txt.join (Str.ofString "") (z.cps.toList.map λc=>if 48<=c/\c<=57 then (⟨#[c]⟩:Str) else " ")=y at jl jn;have hm:=oN (z:=y) (y:=" ") (by decide);rw [show (Str.ofString " ").length=1 from rfl,Q6] at hm;have hok:∀p∈Txt.split y " ",PyData.strOk p=true:=λp hp=>gf (ZJ.mpr jl) hp;have hlen:∀p∈Txt.split y " ",p.length<=y.length:=λp hp=>eK hp;refine .app rfl ⟨⟨y,rfl⟩,?_⟩;walk_at "WP";generalize Txt.split y " "=ws at *;refine⟨by decide,by lia,by lia,sV ws,ag aq,by rw[MI];lia,?_⟩;refine kF (λw=>decide ((12:Int)<w.length)) (gH ▸ rfl) (by decide) (λw hw K kk=>?_) ?_
 ·walk_at "WP";exact⟨by have:=hlen w hw;lia,kk⟩
 refine eS (ss:=ws.filter λw=>decide ((12:Int)<w.length)) (tt:=[]) (by simp) (ZS.trans rfl) (λz hz=>hok z (OR.mp hz).1) (λz hz=>nomatch hz) ?_;rw[MZ];exact .inr (.app rfl (k _))
noncomputable def K9:Option PV->PyData
 | some _=>.list []
 | none=>.list [.bool true,.bool false,.bool false,.bool false,.bool false,.bool true]
def j' {st:AH}{n:Nat}{o:Option PV}(h1:st[n]?=some (.lst (Br o))):mQ st (.ref n)=some (K9 o)/\SeqAt.shaped (K9 o)=true:=by
 cases o with
 | none=>exact⟨by simp only[mQ,h1];rfl,by solve_by_elim⟩
 | some v=>exact⟨by simp only[mQ,h1];rfl,by solve_by_elim⟩
def Hj {st:AH}{n m:Nat}{k:Bool->Prop}{o:Option PV}(h1:st[n]?=some (.lst (Br o)))(h2:st[m]?=some (.lst HP))(h:k o.isNone):Ye st (.ref n) (.ref m) k:=by
 obtain⟨a1,a2⟩:=j' h1;obtain⟨b1,b2⟩:=j' (o:=none) h2;refine⟨_,_,a1,b1,a2,b2,?_⟩;cases o with
 | none=>assumption
 | some v=>assumption
def JW {st:AH}{n m:Nat}{k:Bool->Prop}{o:Option PV}(h1:st[n]?=some (.lst (Br o)))(h2:st[m]?=some (.lst []))(h:k o.isSome):Ye st (.ref n) (.ref m) k:=by
 obtain⟨a1,a2⟩:=j' h1;obtain⟨b1,b2⟩:=j' (o:=some .non) h2;refine⟨_,_,a1,b1,a2,b2,?_⟩;cases o with
 | none=>assumption
 | some v=>assumption
def nD {as st Q}(h:bE as st Q):fG U UR FX.xs.length Kw dC (frame 3 as) st (au st Q):=by
 obtain⟨x,rfl,hx,k⟩:=h;unfold dC;walk_at "WP";refine⟨x,rfl,hx,?_⟩;cases h:Wh x with
 | none =>rw[h] at k;refine⟨by decide,by decide,by decide,[.bl true,.bl false,.bl false,.bl false],λZ=>rfl,[.bl false,.bl true],λZ=>rfl,by decide,?_⟩;have k:=k [Cell.lst [PV.bl true,PV.bl false,PV.bl false,PV.bl false],Cell.lst [PV.bl false,PV.bl true]];rw[MZ] at k;exact .inl k
 | some v =>
  rw[h] at k;have k:=k [];rw[N5] at k
  solve_by_elim
def dat (n:Nat)(v:PV):Prop:=∃d,v.toD=some d/\d.canLay0=true/\d.depth<=n
def L5 (n:Nat)(vs:List PV):Prop:=∃ds,PV.Y8 vs=some ds/\PyData.canLayAll0 ds=true/\PyData.depthAll ds<=n
theorem yM {n:Nat}:∀ {vs:List PV},(∀v∈vs,dat n v)->L5 n vs
 | [],_=>⟨[],rfl,rfl,OV _⟩
 | v::vs,h=>by obtain⟨d,h1,h2,h3⟩:=h v MP;obtain⟨ds,g1,g2,g3⟩:=yM (vs:=vs) λw hw=>h w (MD _ hw);refine⟨d::ds,by rw[PV.Y8,h1,g1],by rw[PyData.canLayAll0,h2,g2];rfl,?_⟩;rw[PyData.depthAll];grind
def rV {n:Nat}{vs:List PV}(h:∀v∈vs,dat n v):dat (n+1) (.tup vs):=by
 obtain⟨ds,h1,h2,h3⟩:=yM h;refine⟨.tuple ds,by rw[PV.toD,h1];rfl,by assumption,?_⟩;rw[PyData.depth]
 simp_all
def yy {n:Nat}{z:Str}(h:PyData.strOk z=true):dat n (.str z):=⟨.str z,rfl,by assumption,by rw[PyData.depth];simp⟩
def DH {n:Nat}{i:Int}:dat n (.int i):=⟨.int i,rfl,by solve_by_elim,by rw[PyData.depth];simp⟩
def tY {st:AH}{n:Nat}{xs:List PV}{k:Bool->Prop}(hn:n<=60)(h:dat n (.tup xs))(q:k true):Ye st (.tup xs) (.tup xs) k:=by
 obtain⟨d,h1,h2,h3⟩:=h;have sh:SeqAt.shaped d=true:=by unfold SeqAt.shaped;rw[h2,N4];exact M1 (by lia)
 refine⟨d,d,h1,h1,sh,sh,?_⟩;rw[show PyData.eqv d d=true from SeqAt.eqv_refl _ (SeqAt.canLay_of_shaped sh)];exact q
def Ia {n:Nat}{p:Nat × Nat}:dat (n+1) (fr p):=rV λv hv=>by simp only[List.mem_cons,List.not_mem_nil,or_false] at hv;rcases hv with rfl|rfl <;> exact DH
def uz {ws ns:List Str}{ms:List (Nat × Nat)}(h:∀w∈ws,PyData.strOk w=true)(h2:∀w∈ns,PyData.strOk w=true):dat 2 (c6 ws ms ns):=rV λv hv=>by
 rw[MN,MN,MF] at hv;rcases hv with (hv|hv)|rfl
 ·obtain⟨z,hz,rfl⟩:=MR.mp hv;exact yy (h z (NQ hz))
 ·obtain⟨p,hp,rfl⟩:=MR.mp hv;exact Ia
 ·exact rV λv hv=>by obtain⟨z,hz,rfl⟩:=MR.mp hv;exact yy (h2 z hz)
def Jr {z:Str}{v:PV}(hz:v7 z)(h:Wh (.str z)=some v):∃xs,v=.tup xs/\dat 2 (.tup xs):=by
 have hok:∀p∈Txt.split z " ",PyData.strOk p=true:=λp hp=>gf hz.ok hp;change Yq (Txt.split z " ")=some v at h;generalize Txt.split z " "=ws at *;unfold Yq at h;cases e1:ZV.lookup (ws.headD "") with
 | none=>rw[e1] at h;cases h
 | some k =>
  rw[e1] at h;change Va ws k.toNat (fB ((ws.drop 3).take k.toNat))=some v at h;cases e2:fB ((ws.drop 3).take k.toNat) with
  | none=>rw[e2] at h;cases h
  | some ms =>
   rw[e2] at h;change Vu ws ms (YK (ws.drop (3+k.toNat)))=some v at h;cases e3:YK (ws.drop (3+k.toNat)) with
   | none=>rw[e3] at h;cases h
   | some ns =>
    rw[e3] at h;change (if dF (c6 ws ms ns)=true then some (c6 ws ms ns) else none)=some v at h;by_cases q:dF (c6 ws ms ns)=true
    ·rw[MK q] at h;cases h;exact⟨_,rfl,uz hok λw hw=>hok w (M9 ((td e3).2 w hw))⟩
    simp_all
def oy {as st Q}(h:bI as st Q):aO U dA (frame 2 as) st (au st Q):=by
 obtain⟨z,rfl,hz,k⟩:=h;unfold dA;walk_at "WP";refine⟨z,rfl,hz,?_⟩;have ht:∀S,TF S (.str z):=λS=>⟨rfl,λz' e=>by simp_all⟩;cases h:Wh (.str z) with
 | none =>
  refine JT ⟨_,rfl,ht _,λg=>?_⟩;rw[h];show Ye _ _ _ _;refine Hj (o:=none) (av ?_) aq ?_
  ·rw[<-MS];exact aq
  show Xl st Q (.bl true) (st++g++[Cell.lst (Br none)]++[Cell.lst HP]);rw[MZ,MZ];exact .inr (.app rfl k)
 | some v =>
  obtain⟨xs,rfl,hd⟩:=Jr hz h;show (if eR (.tup xs)=true then _ else _);rw[MM (show ¬eR (.tup xs)=true from ME)];refine⟨_,rfl,ht _,λg=>?_⟩;rw[h];show Ye _ _ _ _;refine JW (o:=some (.tup xs)) (av ?_) aq ?_
  ·rw[<-MS];exact aq
  show (if true=true then _ else _);rw[MK rfl];refine⟨_,rfl,ht _,?_⟩;rw[h];show il _ _ (okR (.tup xs)) _;rw[mY];refine tY (by decide) hd ?_;rw[MZ,MZ];exact .inr (.app rfl k)
open PySem L2 HX FW
def yf {q:Qd}(h:Zk q):dF (qV q)=true:=by
 refine(iX (w:=q.w) (a:=.str q.a) (b:=.str q.b) (ms:=q.ms.map fr) (n:=.tup (sV q.ns)) (by rw[MI];exact h.w)).trans ?_;have nm:∀ {z:Str},Nm z->aI (.str z)=true:=λ{z} hz=>by
  simp only[aI];rw[M1 hz.pos,M1 hz.len,N4,N4];refine NK.mpr λc hc=>?_;have f:=N7 YF c;refine f.trans (M1 ?_);rw[show YF.cps.toList=abc from rp];have:=hz.VH c hc;simp only[abc,List.mem_cons,List.not_mem_nil,or_false]
  lia
 have n1:(sV q.ns).all aI=true:=NK.mpr λx hx=>by obtain⟨z,hz,rfl⟩:=MR.mp hx;exact nm (h.ns z hz)
 have n2:W7 (sV q.ns)=true:=Wi.mpr h.so;have n3:(q.ms.map fr).all bN=true:=NK.mpr λx hx=>by obtain⟨p,hp,rfl⟩:=MR.mp hx;exact Vn.Qu ⟨(h.ms p hp).po,(h.ms p hp).g⟩
 have n4:R9 (q.ms.map fr)=true:=by
  match e:q.ms,h.ml with
  | [],_=>rfl
  | [p],_=>rfl
  | [p,r],_ =>show (!yV (fr r) (fr p))=true;rw[rP,show decide (r.1*p.2<p.1*r.2)=false from M8 (h.up p r e)];rfl
 rw[nm h.a,nm h.b,show cW (.tup (sV q.ns))=((sV q.ns).all aI && W7 (sV q.ns)) from rfl,n1,n2,n3,n4];rfl
theorem yR:∀ {ms:List (Nat × Nat)},(∀p∈ms,Fq p)->fB (ms.map Ym)=some ms
 | [],_=>rfl
 | p::ms,h=>by rw[M3,dh,Io ⟨(h p MP).po,(h p MP).g⟩,yR λr hr=>h r (MD _ hr)];rfl
def HJ (ns:List Str):YK (Xm ns)=some ns:=by
 cases ns with
 | nil=>rfl
 | cons z r =>
  solve_by_elim
def HU {q:Qd}(h:Zk q):Yq (qW q)=some (qV q):=by
 show T7 (qW q) (ZV.lookup q.w)=_;rw[h.w];show Va (qW q) q.ms.length (fB ((q.ms.map Ym++Xm q.ns).take q.ms.length))=_;rw[show (q.ms.map Ym++Xm q.ns).take q.ms.length=q.ms.map Ym by simp,yR h.ms];show Vu (qW q) q.ms (YK ((qW q).drop (3+q.ms.length)))=_;rw[show (qW q).drop (3+q.ms.length)=Xm q.ns by rw[<-OP];show (q.ms.map Ym++Xm q.ns).drop q.ms.length=_;simp,HJ]
 show (if dF (c6 (qW q) q.ms q.ns)=true then some (c6 (qW q) q.ms q.ns) else none)=_;have e:c6 (qW q) q.ms q.ns=qV q:=rfl;rw[e,yf h,MK rfl]
def K3 {q:Qd}(h:Zk q):Wh (.str (qT q))=some (qV q):=by show Yq (Txt.split (Txt.join " " (qW q)) " ")=_;rw[h.words.split];exact HU h
def FV {x y z n:PV}{ms:List PV}:dN (x::y::z::(ms++[n])) none (some (-1))=x::y::z::ms:=by unfold dN HT.ZK;simp;rw[show (-1+((ms.length:Int)+1+1+1+1)).toNat=ms.length+1+1+1 by lia];simp
noncomputable def up1 (c:Nat):Nat:=if 97<=c/\c<=122 then c-32 else c
def qv {z:Str}(h:∀c∈tl z,c<128):(Txt.upper z).cps.toList=(tl z).map up1:=by
 have key:∀l:List Nat,(∀c∈l,c<128)->(Txt.upper ⟨l.toArray⟩).cps.toList=l.map up1:=λl=>by
  induction l with
  | nil=>solve_by_elim
  | cons c l ih =>intro h;have e:(⟨(c::l).toArray⟩:Str)=(⟨#[c]⟩:Str)++(⟨l.toArray⟩:Str):=cu (by rw[aE];simp);rw[e,W.KOpn.upper_app,W.KOpn.upper_one (h c MP),aE,ih λd hd=>h d (MD _ hd)];rfl
 solve_by_elim
def BY {st:AH}{w:Str}{r:List PV}(wl:w.length<=1000)(l:r.length<=40)(ha:∀y∈r,Any st y)(hm:(∀y∈r.dropLast,Xj y)\/ZV.lookup w≠some ((r.length:Int)-3)):Qx st (.tup (.str w::r)):=by
 refine⟨eC (by rw[NT];lia) λx hx=>?_,λxs e _=>?_,λw' a b ms n e e2 y hy=>?_⟩
 ·rcases MU.mp hx with rfl|hx
  ·exact cy wl
  ·exact ha x hx
 ·cases e;solve_by_elim
 ·injection e with e
  injection e with e1 e
  injection e1 with e1
  subst e1 e;rcases hm with hm|hm
  ·grind
  ·refine absurd e2 (λz=>hm ?_);rw[z];simp
   lia
def uJ {st:AH}{x:PV}(h:Any st x)(h2:∀xs,x=.tup xs->xs.length<4):Qx st x:=⟨h,λxs e l=>absurd (h2 xs e) (by lia),λw a b ms n e _ y hy=>absurd (h2 _ e) (by simp)⟩
def Any.gr {st s:AH}{v:PV}(h:Any st v)(l:st.length<=s.length):Any s v:=⟨PV.XN (v:=v) l h.1,h.2⟩
theorem Qx.gr {st s:AH}{v:PV}(h:Qx st v)(l:st.length<=s.length):Qx s v:=⟨h.any.gr l,h.str,h.mo⟩
def Zj (st:AH)(p:Nat)(q:Qd)(k:Nat)(Z:Fr)(s:AH):Prop:=Gr st p s/\∃(n:Nat) (L:List PV),st.length<=n/\s[n]?=some (.lst L)/\L.length=k/\(∀x∈L,Qx s x)/\Z=[some (.ref p),some (qV q),some (.str q.w),some (.str q.a),some (.str q.b),some (.tup (q.ms.map fr)),some (.tup (sV q.ns)),some (.ref n)]
def Zj.add {st s:AH}{p:Nat}{q:Qd}{k m:Nat}{L M g:List _}(G:Gr st p s)(hl:L.length=k)(hm:M.length=m)(h1:∀x∈L,Qx s x)(h2:∀x∈M,Qx (s++g) x)(i:Nat)(e:g[i]?=some (Cell.lst (L++M))):Zj st p q (k+m) [some (.ref p),some (qV q),some (.str q.w),some (.str q.a),some (.str q.b),some (.tup (q.ms.map fr)),some (.tup (sV q.ns)),some (.ref (s.length+i))] (s++g) :=
 ⟨G.app,_,L++M,by have:=G.len;lia,ZS.trans e,by simp_all,λx hx=>by
  rcases MN.mp hx with hx|hx
  ·exact(h1 x hx).gr (by simp)
  ·exact h2 x hx,rfl⟩
def sE {as st Q}(h:bX as st Q):aO U eX (frame 8 as) st (au st Q):=by
 obtain⟨p,q,rfl,hp,hq,k⟩:=h;have ml:=hq.ml;have nl:=hq.nl;unfold eX;refine cX (λZ s=>st=s/\Z=[some (.ref p),some (qV q),some (.str q.w),some (.str q.a),some (.str q.b),none,none,none]) ?_ ?_
 ·walk_at "WPN";rw[xj];exact⟨rfl,_,_,rfl,_,_,rfl,_,_,rfl,rfl,rfl,rfl,rfl⟩
 rintro _ _ ⟨rfl,rfl⟩;refine cX (λZ s=>st=s/\Z=[some (.ref p),some (qV q),some (.str q.w),some (.str q.a),some (.str q.b),some (.tup (q.ms.map fr)),none,none]) ?_ ?_
 ·walk_at "WPN";rw[Cv]
 rintro _ _ ⟨rfl,rfl⟩;refine cX (λZ s=>st=s/\Z=[some (.ref p),some (qV q),some (.str q.w),some (.str q.a),some (.str q.b),some (.tup (q.ms.map fr)),some (.tup (sV q.ns)),none]) ?_ ?_
 ·walk_at "WPN";rw[vo]
 rintro _ _ ⟨rfl,rfl⟩;have aw:∀S,Any S (.str q.w):=λS=>cy (by have:=(qI hq.w).1;lia);have aa:∀S,Any S (.str q.a):=λS=>cy (by have:=hq.a.len;lia);have ab:∀S,Any S (.str q.b):=λS=>cy (by have:=hq.b.len;lia);have an:∀S,Any S (.tup (sV q.ns)):=λS=>eC (by rw[MI];lia) λx hx=>by obtain⟨z,hz,rfl⟩:=MR.mp hx;exact cy (by have:=(hq.ns z hz).len;lia)
 have am:∀S,∀y∈q.ms.map fr,Any S y:=λS y hy=>by obtain⟨f,hf,rfl⟩:=MR.mp hy;exact tF (jx (hq.ms f hf).a) (jx (hq.ms f hf).b)
 have mo:∀y∈q.ms.map fr,Xj y:=λy hy=>by obtain⟨f,hf,rfl⟩:=MR.mp hy;exact xY
 have T:∀(S:AH) (w:Str) (pre:List PV) (n:PV),w.length<=1000->pre.length<=10->(∀y∈pre,Any S y/\Xj y)->Any S n->Qx S (.tup (.str w::(pre++(q.ms.map fr++[n])))):=λS w pre n wl pl hp hn=>by
  refine BY wl (by simp only[List.length_append,List.length_map,List.length_cons,List.length_nil];lia) (λy hy=>?_) (.inl λy hy=>?_)
  ·rcases MN.mp hy with hy|hy
   ·exact(hp y hy).1
   ·rcases MN.mp hy with hy|hy
    ·exact am S y hy
    ·rw[MF.mp hy];exact hn
  grind
 have ms:∀z:Str,Xj (.str z):=λz a b e=>nomatch e;have sl:∀(S:AH) (x:PV),Any S x->Xj x->∀y∈[x],Any S y/\Xj y:=λS x h1 h2 y hy=>by rw[MF.mp hy];exact⟨h1,h2⟩
 have pl:∀(S:AH) (x z:PV),Any S x->Xj x->Any S z->Xj z->∀y∈[x,z],Any S y/\Xj y:=λS x z h1 h2 h3 h4 y hy=>by
  simp only[List.mem_cons,List.not_mem_nil,or_false] at hy;rcases hy with rfl|rfl
  ·exact⟨h1,h2⟩
  ·exact⟨h3,h4⟩
 have wl:q.w.length<=1000:=by have:=(qI hq.w).1;omega
 have al:q.a.length<=8:=hq.a.len;have AB:∀S n,Any S n->Qx S (.tup (.str q.w::.str q.a::.str q.b::(q.ms.map fr++[n]))):=λS n h=>T S q.w [.str q.a,.str q.b] n wl (show 2<=10 by decide) (pl S _ _ (aa S) (ms _) (ab S) (ms _)) h;refine cX (Zj st p q 8) ?_ ?_
 ·walk_at "WPN";rw[FV,B9];refine⟨by simp only[List.length_map];lia,Zj.add (L:=[]) (k:=0) (m:=8) (.refl hp) rfl rfl (λx hx=>nomatch hx) (λx hx=>?_) 1 rfl⟩;simp only[List.mem_cons,List.not_mem_nil,or_false] at hx;rcases hx with rfl|rfl|rfl|rfl|rfl|rfl|rfl|rfl
  ·exact uJ ⟨by rw[PV.ZQ];simp,rfl⟩ λxs e=>nomatch e
  ·refine BY wl (by simp only[List.length_cons,List.length_map];lia) (λy hy=>?_) (.inl λy hy=>?_)
   ·simp only[List.mem_cons] at hy;rcases hy with rfl|rfl|hy
    ·exact aa _
    ·exact ab _
    solve_by_elim
   ·have hy:=List.dropLast_subset _ hy;simp only[List.mem_cons] at hy;rcases hy with rfl|rfl|hy
    ·exact ms _
    ·exact ms _
    ·exact mo y hy
  ·refine BY wl (by simp only[List.length_cons,List.length_append,List.length_map,List.length_nil];lia) (λy hy=>?_) (.inr ?_)
   ·simp only[List.mem_cons,List.mem_append,List.not_mem_nil,or_false] at hy;rcases hy with rfl|rfl|hy|rfl|rfl
    ·exact aa _
    ·exact ab _
    ·exact am _ y hy
    ·exact an _
    solve_by_elim
   ·rw[hq.w];intro z;have z:=NC z;simp only[List.length_cons,List.length_append,List.length_map,List.length_nil] at z
    lia
  ·exact T _ q.a [.str q.b] _ (by lia) (NR rfl) (sl _ _ (ab _) (ms _)) (an _)
  ·exact uJ (eC (by decide) λx hx=>nomatch hx) λxs e=>by cases e;decide
  ·exact uJ ⟨rfl,rfl⟩ λxs e=>nomatch e
  ·exact uJ (gG (by decide +kernel)) λxs e=>nomatch e
  ·exact uJ (aw _) λxs e=>nomatch e
 rintro _ s ⟨g,n,L,hn,en,hl,hL,rfl⟩;have up:(Txt.upper q.a).length<=1000:=by rw[aj,qv λc hc=>by have:=hq.a.VH c hc;lia,MI,<-aj];omega
 have V:∀(S:AH) (w:Str) (pre:List PV) (n:PV),w.length<=1000->pre.length<=10->(∀y∈pre,Any S y/\Xj y)->Any S n->Qx S (.tup (.str w::(pre++[n]))):=λS w pre n wl pl hp hn=>by
  refine BY wl (by simp only[List.length_append,List.length_cons,List.length_nil];lia) (λy hy=>?_) (.inl λy hy=>?_)
  ·rcases MN.mp hy with hy|hy
   ·exact(hp y hy).1
   ·rw[MF.mp hy];exact hn
  ·rw[List.dropLast_concat] at hy;exact(hp y hy).2
 have WM:∀(S:AH) (i j:Int),i.natAbs<10 ^ 12->j.natAbs<10 ^ 12->Any S (.tup [.int i,.int j])/\Xj (.tup [.int i,.int j]):=λS i j hi hj=>⟨eC (show 2<=50 by decide) λx hx=>by
  simp only[List.mem_cons,List.not_mem_nil,or_false] at hx;rcases hx with rfl|rfl
  ·exact gG (jx hi)
  ·exact gG (jx hj),λa b e=>by cases e;exact⟨_,_,rfl,rfl⟩⟩
 have tri:∀(S:AH) (x:PV),Any S x->Xj x->∀y∈[PV.str q.a,PV.str q.b,x],Any S y/\Xj y:=λS x h1 h2 y hy=>by
  simp only[List.mem_cons,List.not_mem_nil,or_false] at hy;rcases hy with rfl|rfl|rfl
  ·exact⟨aa _,ms _⟩
  ·exact⟨ab _,ms _⟩
  ·exact⟨h1,h2⟩
 refine cX (Zj st p q 10) ?_ ?_
 ·walk_at "WPN";refine⟨by simp only[List.length_map];lia,by simp only[List.length_map];lia,by simp only[List.length_map];lia,by simp only[List.length_map];lia,L,av en,by simp[*],Zj.add (k:=8) (m:=2) g hl rfl hL (λx hx=>?_) 1 rfl⟩;simp only[List.mem_cons,List.not_mem_nil,or_false] at hx;rcases hx with rfl|rfl
  ·exact T _ q.w [.str q.a] _ wl (NR rfl) (sl _ _ (aa _) (ms _)) (an _)
  ·exact T _ q.w [.str q.a,.str q.b,.tup [.int 1,.int 2]] _ wl (NR rfl) (λy hy=>by
   simp only[List.mem_cons,List.not_mem_nil,or_false] at hy;rcases hy with rfl|rfl|rfl
   ·solve_by_elim
   ·solve_by_elim
   ·exact⟨tF (p:=(1,2)) (jx (show 1<10 ^ 12 by decide)) (jx (show 2<10 ^ 12 by decide)),xY (p:=(1,2))⟩) (an _)
 rintro _ s ⟨g,n,L,hn,en,hl,hL,rfl⟩;refine cX (Zj st p q 11) ?_ ?_
 ·walk_at "WPN";refine⟨by simp only[List.length_map];lia,by simp only[List.length_map];lia,L,av en,by simp[*],Zj.add (k:=10) (m:=1) g hl rfl hL (λx hx=>?_) 1 rfl⟩;rw[MF.mp hx];exact T _ "At" [.str q.a,.str q.b] _ (by decide) (NR rfl) (pl _ _ _ (aa _) (ms _) (ab _) (ms _)) (an _)
 rintro _ s ⟨g,n,L,hn,en,hl,hL,rfl⟩;refine cX (Zj st p q 13) ?_ ?_
 ·walk_at "WPN";refine⟨by lia,by simp only[List.length_map];lia,by simp only[List.length_map];lia,by simp only[List.length_map];omega,by simp only[List.length_map];omega,L,av en,by simp[*],Zj.add (k:=11) (m:=2) g hl rfl hL (λx hx=>?_) 1 rfl⟩;simp only[List.mem_cons,List.not_mem_nil,or_false] at hx;rcases hx with rfl|rfl
  ·exact T _ q.w [.str (Txt.upper q.a),.str q.b] _ wl (NR rfl) (pl _ _ _ (cy up) (ms _) (ab _) (ms _)) (an _)
  ·exact T _ q.w [.str q.a,.str "abcdefghi"] _ wl (NR rfl) (pl _ _ _ (aa _) (ms _) (cy (by decide)) (ms _)) (an _)
 rintro _ s ⟨g,n,L,hn,en,hl,hL,rfl⟩;refine cX (Zj st p q 15) ?_ ?_
 ·walk_at "WPN";refine⟨by simp only[List.length_map];lia,by simp only[List.length_map];lia,by simp only[List.length_map];omega,by simp only[List.length_map];omega,L,av en,by simp[*],Zj.add (k:=13) (m:=2) g hl rfl hL (λx hx=>?_) 1 rfl⟩;simp only[List.mem_cons,List.not_mem_nil,or_false] at hx;rcases hx with rfl|rfl
  ·exact T _ q.w [.str q.a,.str ""] _ wl (NR rfl) (pl _ _ _ (aa _) (ms _) (cy (by decide)) (ms _)) (an _)
  ·exact T _ q.w [.str q.a,.int 7] _ wl (NR rfl) (pl _ _ _ (aa _) (ms _) (gG (by lia)) (λa b e=>nomatch e)) (an _)
 rintro _ s ⟨g,n,L,hn,en,hl,hL,rfl⟩;refine cX (Zj st p q 16) ?_ ?_
 ·walk_at "WPN";refine⟨by simp only[List.length_map];lia,by simp only[List.length_map];lia,L,av en,by simp[*],Zj.add (k:=15) (m:=1) g hl rfl hL (λx hx=>?_) 2 rfl⟩;rw[MF.mp hx];exact AB _ _ ⟨by rw[PV.ZQ];simp,rfl⟩
 rintro _ s ⟨g,n,L,hn,en,hl,hL,rfl⟩;refine cX (Zj st p q 18) ?_ ?_
 ·walk_at "WPN";refine⟨by simp only[List.length_map];lia,by simp only[List.length_map];lia,by simp only[List.length_map];lia,by simp only[List.length_map];omega,by simp only[List.length_map];omega,L,av en,by simp[*],Zj.add (k:=16) (m:=2) g hl rfl hL (λx hx=>?_) 1 rfl⟩;simp only[List.mem_cons,List.not_mem_nil,or_false] at hx;rcases hx with rfl|rfl
  ·refine AB _ _ (eC (by simp only[List.length_append,List.length_map,List.length_cons,List.length_nil];lia) λx hx=>?_);rcases MN.mp hx with hx|hx
   ·exact b9 (an _) hx
   ·rw[MF.mp hx];solve_by_elim
  solve_by_elim
 rintro _ s ⟨g,n,L,hn,en,hl,hL,rfl⟩;refine cX (Zj st p q 21) ?_ ?_
 ·walk_at "WPN";refine⟨by simp only[List.length_map];lia,by simp only[List.length_map];lia,L,av en,by simp[*],Zj.add (k:=18) (m:=3) g hl rfl hL (λx hx=>?_) 1 rfl⟩;simp only[List.mem_cons,List.not_mem_nil,or_false] at hx;rcases hx with rfl|rfl|rfl
  ·refine AB _ _ (eC (show 2<=50 by decide) λx hx=>?_);simp only[List.mem_cons,List.not_mem_nil,or_false] at hx;rcases hx with rfl|rfl
   ·solve_by_elim
   solve_by_elim
  ·exact V _ "at" [.str q.a,.str q.b,.tup [.int 2,.int 4]] _ (by decide) (show 3<=10 by decide) (tri _ _ (WM _ 2 4 (by decide) (by decide)).1 (WM [] 2 4 (by decide) (by decide)).2) (an _)
  ·exact V _ "by" [.str q.a,.str q.b,.tup [.int (-1),.int 2]] _ (by decide) (show 3<=10 by decide) (tri _ _ (WM _ (-1) 2 (by decide) (by decide)).1 (WM [] (-1) 2 (by decide) (by decide)).2) (an _)
 rintro _ s ⟨g,n,L,hn,en,hl,hL,rfl⟩;refine cX (Zj st p q 24) ?_ ?_
 ·walk_at "WPN";refine⟨L,av en,by simp[*],Zj.add (k:=21) (m:=3) g hl rfl hL (λx hx=>?_) 2 rfl⟩;simp only[List.mem_cons,List.not_mem_nil,or_false] at hx;rcases hx with rfl|rfl|rfl
  ·exact V _ "few" [.str q.a,.str q.b,.ref s.length] _ (by decide) (show 3<=10 by decide) (tri _ _ ⟨by rw [PV.ZQ];simp,rfl⟩ λa b e=>nomatch e) (an _)
  ·refine V _ "quick" [.str q.a,.str q.b,.tup [.int 7,.int 2],.tup [.int 3,.int 1]] _ (by decide) (show 4<=10 by decide) (λy hy=>?_) (an _);simp only[List.mem_cons,List.not_mem_nil,or_false] at hy;rcases hy with rfl|rfl|rfl|rfl
   ·exact⟨aa _,ms _⟩
   ·exact⟨ab _,ms _⟩
   ·exact WM _ 7 2 (by decide) (by decide)
   ·exact WM _ 3 1 (by decide) (by decide)
  ·exact V _ "at" [.str q.a,.str q.b,.int 5] _ (by decide) (show 3<=10 by decide) (tri _ _ (gG (by decide +kernel)) λa b e=>nomatch e) (an _)
 rintro _ s ⟨g,n,L,hn,en,hl,hL,rfl⟩;walk_at "WP";refine⟨L,ag en,p,_,rfl,g.Zc,by simp[*],by simp[*],λy s2 y0 y1 g2=>?_⟩;obtain⟨v,ev,hv⟩:=kn (L:=L) (P:=Qx s) hL (y:=y) y0 (by omega);exact⟨L,ag (g2.get en (by have:=hp.lt;lia)),v,ev,.inl (k _ _ (g.trans g2) (hv.gr g2.len))⟩
theorem vG {c:Nat}:∀ {L:List (List Nat)},(∀l∈L,c ∉ l)->L≠[]->PyProof.Rows.cnt c (jn [c] L)+1=L.length
 | [],_,h=>absurd rfl h
 | [x],h,_=>by show PyProof.Rows.cnt c x+1=1;rw[kG (h x MP)];rfl
 | x::y::r,h,_=>by
  have ih:=vG (c:=c) (L:=y::r) (λl hl=>h l (MD _ hl)) (λe=>nomatch e);rw[jn,N0,kG (h x MP),List.singleton_append,NX,MK rfl];rw[NT]
  lia
def lX {z p:Str}(h:p∈Txt.split z " "):32 ∉ tl p:=PySem.StrLaws.split_free z 32 p h
def lJ (z:Str):((Txt.split z " ").length:Int)=PyProof.Rows.cnt 32 (tl z)+1:=by
 have h:=vG (c:=32) (L:=(Txt.split z " ").map tl) (λl hl=>by obtain⟨p,hp,rfl⟩:=MR.mp hl;exact lX hp) (λe=>eP z " " (Sh.mp e))
 rw[MI] at h;rw [kC z " "];exact h.symm
def D6 {c:Nat}{l:List Nat}(h:l.length<=1):PyProof.Rows.cnt c l<=1:=by
 match l,h with
 | [],_=>rw[show PyProof.Rows.cnt c []=0 from rfl];decide
 | [x],_=>rw[NX,show PyProof.Rows.cnt c []=0 from rfl];split <;> decide
def ya {z:Str}{b:Nat}:(b6 z (some (b:Int)) none).cps.toList=z.cps.toList.drop b:=by
 have key:∀b:Nat,b<=z.length->(b6 z (some (b:Int)) none).cps.toList=z.cps.toList.drop b:=λb h=>by rw[wN,PySem.StrLaws.sliceText_from ⟨QP _,by rw[aj] at h;simp_all⟩];simp only[Int.toNat_natCast];exact NP (by simp)
 by_cases h:b<=z.length
 ·exact key b h
 ·have e:Builtin.Str.strSliceIndices (some (b:Int)) none 1 z.length=Builtin.Str.strSliceIndices (some (z.length:Int)) none 1 z.length:=by
   unfold Builtin.Str.strSliceIndices;have e1:max 0 (min (if (b:Int)<0 then (b:Int)+(z.length:Int) else (b:Int)) (z.length:Int))=z.length:=by split <;> omega
   have e2:max 0 (min (if (z.length:Int)<0 then (z.length:Int)+(z.length:Int) else (z.length:Int)) (z.length:Int))=z.length:=by split <;> omega
   simp only[show (1:Int) > 0 by decide,if_true,e1,e2]
  have e2:b6 z (some (b:Int)) none=b6 z (some (z.length:Int)) none:=by unfold b6;rw[e]
  rw[e2,key _ (MJ _),OH (by solve_by_elim),OH (by rw[<-aj];lia)]
def Jd {y s:Str}{a b:Nat}(ha:a<=y.length)(hb:b=a\/b=a+1)(hs:s.length<=1)(hso:PyData.strOk s=true)(hy:PyData.strOk y=true) :
  (b6 y none (some (a:Int))++s++b6 y (some (b:Int)) none).length<=y.length+1/\(Txt.split (b6 y none (some (a:Int))++s++b6 y (some (b:Int)) none) " ").length<=(Txt.split y " ").length+1/\PyData.strOk (b6 y none (some (a:Int))++s++b6 y (some (b:Int)) none)=true:=by
 have e:(b6 y none (some (a:Int))++s++b6 y (some (b:Int)) none).cps.toList=y.cps.toList.take a++s.cps.toList++y.cps.toList.drop b:=by rw[aE,aE,AV ha,ya]
 have hl:y.cps.toList.length=y.length:=(aj y).symm;refine⟨?_,?_,?_⟩
 ·rw[aj,e,MS,MS,M6,NH,<-aj s,hl]
  lia
 ·have c1:=lJ (b6 y none (some (a:Int))++s++b6 y (some (b:Int)) none);have c2:=lJ y;rw[show tl (b6 y none (some (a:Int))++s++b6 y (some (b:Int)) none)=y.cps.toList.take a++s.cps.toList++y.cps.toList.drop b from e,N0,N0] at c1;have c3:=D6 (c:=32) (l:=s.cps.toList) (by assumption);have c4:PyProof.Rows.cnt 32 (tl y)=PyProof.Rows.cnt 32 (y.cps.toList.take a)+PyProof.Rows.cnt 32 (y.cps.toList.drop a):=by rw[<-N0,PB]
  have c5:PyProof.Rows.cnt 32 (y.cps.toList.drop b)<=PyProof.Rows.cnt 32 (y.cps.toList.drop a):=by
   rcases hb with rfl|rfl
   ·simp
   ·rw[<-OP];cases y.cps.toList.drop a with
    | nil=>solve_by_elim
    | cons x l =>
     rw[NX];show PyProof.Rows.cnt 32 l<=_
     lia
  lia
 ·refine ZJ.mpr λc hc=>?_;rw[show tl (b6 y none (some (a:Int))++s++b6 y (some (b:Int)) none)=y.cps.toList.take a++s.cps.toList++y.cps.toList.drop b from e,MN,MN] at hc;rcases hc with (hc|hc)|hc
  ·exact ZJ.mp hy c (NQ hc)
  ·exact ZJ.mp hso c hc
  ·exact ZJ.mp hy c (M9 hc)
def xt {ws S:List Str}(h:S.Sublist ws):(S.map Str.length).sum<=(ws.map Str.length).sum:=by
 induction h with
 | slnil=>solve_by_elim
 | cons a _ ih=>rw[M3,List.sum_cons];lia
 | cons_cons a _ ih=>simp[*]
def GP {ws:List Str}{b:Nat}:dN (sV ws) none (some (b:Int))=sV (ws.take b):=by unfold dN;rw[HT.Y7,HT.Zg,QQ,RC];simp
def Dh {ws:List Str}{b:Nat}:dN (sV ws) (some (b:Int)) none=sV (ws.drop b):=by unfold dN;rw[HT.Y7,HT.Zg,oS,NP (by grind)];simp
def Ek {y:Str}{A B:List Str}(y1:y.length<=310)(y2:(Txt.split y " ").length<=17)(y3:PyData.strOk y=true)(hA:A.Sublist (Txt.split y " "))(hB:B.Sublist (Txt.split y " ")):JoinOk " " (A++B)=true/\v7 (Txt.join " " (A++B)):=by
 have sl:=qz y " ";rw [show (Str.ofString " ").length=1 from rfl,Q6] at sl;have sA:(A.map λx=>x.length).sum<=((Txt.split y " ").map Str.length).sum:=xt hA;have sB:(B.map λx=>x.length).sum<=((Txt.split y " ").map Str.length).sum:=xt hB;have lA:=hA.length_le;have lB:=hB.length_le;have mem:∀p∈A++B,p∈Txt.split y " ":=λp hp=>by
  rcases MN.mp hp with h|h
  ·exact hA.subset h
  ·exact hB.subset h
 have jl:=PySem.StrLaws.join_length_le " " (A++B);rw [show (Str.ofString " ").length=1 from rfl,Q6,NM,List.sum_append,MS] at jl;have free:∀p∈A++B,32 ∉ tl p:=λp hp=>lX (mem p hp);refine ⟨qQ (B:=310) (λp hp=>MX (eK (mem p hp)) y1) (by rw [show (Str.ofString " ").length=1 from rfl,MS];lia),?_,?_,?_⟩
 ·rw[f9]
  lia
 ·have c:=lJ (Txt.join " " (A++B));rw[sx] at c;have e:PyProof.Rows.cnt 32 (jn (tl " ") ((A++B).map tl))=PyProof.Rows.cnt 32 (jn [32] ((A++B).map tl)):=rfl;rw[e] at c;by_cases hS:A++B=[]
  ·rw[hS] at c;have:PyProof.Rows.cnt 32 (jn [32] (([]:List Str).map tl))=0:=by decide
   rw[this] at c;rw[hS]
   lia
  ·have:=vG (c:=32) (L:=(A++B).map tl) (λl hl=>by obtain⟨p,hp,rfl⟩:=MR.mp hl;exact free p hp) (λe=>hS (Sh.mp e))
   grind
 ·refine ZJ.mpr λc hc=>?_;rw[sx] at hc;rcases nX hc with hc|⟨l,hl,hc⟩
  ·rw[MF.mp (show c∈[32] from hc)];decide
  ·obtain⟨p,hp,rfl⟩:=MR.mp hl;exact ZJ.mp (gf y3 (mem p hp)) c hc
def nu {as st Q}(h:bH as st Q):aO U dG (frame 10 as) st (au st Q):=by
 obtain⟨p,z,rfl,hp,z1,z2,z3,k⟩:=h;unfold dG;refine cX (λZ s=>st=s/\∃sg:Str,0<sg.length/\sg.length<=400/\PyData.strOk sg=true/\Z=[some (.ref p),some (.str z),some (.str sg),none,none,none,none,none,none,none]) ?_ ?_
 ·walk_at "WPN";have l1:(Str.ofString " /0123456789abtzA-_~;,").length=22:=by decide +kernel
  have l2:(Str.ofString "\n").length=1:=by decide +kernel
  have l3:=iT (Str.ofString " /0123456789abtzA-_~;,") (Str.ofString "\n");have l4:=iT (Str.ofString " /0123456789abtzA-_~;,"++Str.ofString "\n") z;refine⟨by omega,by omega,_,by omega,by omega,ZJ.mpr λc hc=>?_,rfl⟩;rw [show tl (Str.ofString " /0123456789abtzA-_~;,"++Str.ofString "\n"++z)=tl (Str.ofString " /0123456789abtzA-_~;,"++Str.ofString "\n")++tl z from aE _ _] at hc;rcases MN.mp hc with hc|hc
  ·have:∀c∈tl (Str.ofString " /0123456789abtzA-_~;,"++Str.ofString "\n"),c<1114112:=by decide +kernel
   exact this c hc
  ·exact ZJ.mp z3 c hc
 rintro _ _ ⟨rfl,sg,sg1,sg2,sg3,rfl⟩;refine cX (λZ s=>Gr st p s/\∃(y:Str) (a b c d:Option PV),y.length<=310/\(Txt.split y " ").length<=17/\PyData.strOk y=true/\Z=[some (.ref p),some (.str y),some (.str sg),a,b,c,d,none,none,none]) ?_ ?_
 ·walk_at "WPN";refine⟨p,2,rfl,hp,by decide,by decide,λx s1 x0 x1 g1=>?_⟩;walk_at "WPN";refine⟨by omega,by omega,?_⟩;have hj:(cZ 0 (1+x).toNat).length=(1+x).toNat:=by simp[cZ]
  refine rM Um (λi Z s=>Gr st p s/\∃(y:Str) (a b c d:Option PV),y.length<=300+i/\(Txt.split y " ").length<=15+i/\PyData.strOk y=true/\Z=[some (.ref p),some (.str y),some (.str sg),a,b,c,d,none,none,none]) ⟨g1,z,none,none,none,none,z1,z2,z3,rfl⟩ (λi v Z s hi hI=>?_) ?_
  ·obtain⟨g,y,a,b,c,d,y1,y2,y3,rfl⟩:=hI;refine⟨trivial,?_⟩;have hi2:i<(1+x).toNat:=by rw[<-hj];exact(MT.mp hi).1
   walk_at "WPN";refine⟨by omega,p,_,rfl,g.Zc,by omega,by omega,λw s2 w0 w1 g2=>?_⟩;have G2:=g.trans g2;refine⟨by omega,p,_,rfl,G2.Zc,by omega,by omega,λu s3 u0 u1 g3=>?_⟩;have G3:=G2.trans g3;obtain⟨j,rfl⟩:∃j:Nat,u=j:=⟨u.toNat,by omega⟩;obtain⟨a',rfl⟩:∃j:Nat,w=j:=⟨w.toNat,by omega⟩;have hjl:j<sg.cps.toList.length:=by rw[<-aj];omega
   walk_at "WPN";refine⟨by omega,_,aN (M4 hjl),?_⟩;have hc:=ZJ.mp sg3 _ (OJ hjl);generalize sg.cps.toList[j]=ch at hc;refine⟨p,3,rfl,G3.Zc,by decide,by decide,λr s4 r0 r1 g4=>?_⟩;have G4:=G3.trans g4;refine⟨by omega,?_⟩;obtain ⟨v,ev,t,rfl,t1,t2⟩:=kn (L:=[PV.str ⟨#[ch]⟩,.str "",.str ⟨#[ch]⟩]) (P:=λv=>∃t:Str,v=.str t/\t.length<=1/\PyData.strOk t=true) (λv hv=>by
    have one:PyData.strOk (⟨#[ch]⟩:Str)=true:=ZJ.mpr λc hc'=>by rw[MF.mp (show c∈[ch] from hc')];exact hc
    simp only[List.mem_cons,List.not_mem_nil,or_false] at hv;rcases hv with rfl|rfl|rfl
    ·exact⟨_,rfl,MJ 1,one⟩
    ·exact⟨_,rfl,OV 1,by decide +kernel⟩
    ·exact⟨_,rfl,MJ 1,one⟩) (y:=r) r0 r1
   refine⟨_,ag aq,_,ev,.app rfl ?_⟩;walk_at "WPN";obtain⟨b',eb,hb⟩:∃b':Nat,(a':Int)+RL (decide (0<r))=b'/\(b'=a'\/b'=a'+1):=by
    cases decide (0<r) with
    | true=>exact⟨a'+1,rfl,.inr rfl⟩
    | false=>exact⟨a',by show (a':Int)+0=a';simp,.inl rfl⟩
   rw[eb];obtain⟨q1,q2,q3⟩:=Jd (y:=y) (s:=t) (a:=a') (b:=b') (by omega) hb t1 t2 y3;have l1:=Cm y none (some (a':Int));have l2:=iT (b6 y none (some (a':Int))) t;have l3:=Cm y (some (b':Int)) none;exact⟨by grind,by grind,by grind,G4,_,by lia,by lia,q3,rfl⟩
  ·rintro Z s ⟨g,y,a,b,c,d,y1,y2,y3,rfl⟩;rw[hj] at y1 y2;exact⟨trivial,g,y,by grind,by grind,y3,a,b,c,d,rfl⟩
 rintro _ s ⟨g,y,a,b,c,d,y1,y2,y3,rfl⟩;have TJ:=λA B=>@Ek y A B y1 y2 y3;have hne:=eP y " ";walk_at "WP";generalize Txt.split y " "=ws at *;have wp:=List.length_pos_iff.mpr hne;have g0:Gr s p (s++[Cell.lst (sV ws)]):=(Gr.refl g.Zc).app;have np:s.length≠p:=g.ne;refine⟨by decide,by omega,by omega,sV ws,ag aq,p,_,rfl,g0.Zc,by rw[MI];simp_all,by grind,λi s1 i0 i1 g1=>?_⟩;rw[MI] at i1;have e1:=g1.get aq np;refine⟨sV ws,ag e1,p,_,rfl,g1.Zc,by rw[MI];simp_all,by grind,λj s2 j0 j1 g2=>?_⟩;rw[MI] at j1;have e2:=g2.get e1 np;obtain⟨i,rfl⟩:∃m:Nat,i=m:=⟨i.toNat,by omega⟩;obtain⟨j,rfl⟩:∃m:Nat,j=m:=⟨j.toNat,by omega⟩;refine⟨_,rfl,sV ws,ah e2,?_⟩;walk_at "WP";have c1:dN (sV ws) none (some (i:Int))=sV (ws.take i):=GP;have c2:dN (sV ws) (some ((i:Int)+1)) none=sV (ws.drop (i+1)):=Dh (b:=i+1);have c3:dN (sV ws) none (some ((i:Int)+1))=sV (ws.take (i+1)):=GP (b:=i+1);have c4:dN (sV ws) (some (i:Int)) none=sV (ws.drop i):=Dh;have c5:dN (sV ws) (some (j:Int)) none=sV (ws.drop j):=Dh;have lt:∀k,(sV (ws.take k)).length<=17:=λk=>by rw[MI,M6];grind
 have ld:∀k,(sV (ws.drop k)).length<=17:=λk=>by rw[MI,NH];lia
 have two:∀k l,(sV (ws.take k)).length+(sV (ws.drop l)).length<=100000:=λk l=>by have:=lt k;grind
 refine⟨sV ws,ah (av e2),?_⟩;rw[c1,c2];refine⟨two _ _,sV ws,ah (av e2),?_⟩;rw[c3];refine⟨sV ws,ah (av e2),?_⟩;rw[c4];refine⟨two _ _,⟨_,ah (ZS.trans rfl)⟩,sV ws,ah (av e2),?_⟩;rw[c1];refine⟨sV ws,ah (av e2),?_⟩;rw[c5];refine⟨two _ _,by decide,?_⟩;rw[nF,nF,nF,P_ _ _ (PJ _ _),Rx];generalize hT:s2++List.set [Cell.lst (sV (ws.take i)),Cell.lst (sV (ws.drop (i+1))),Cell.lst (sV (ws.take i++ws.drop (i+1))),Cell.lst (sV (ws.take (i+1))),Cell.lst (sV (ws.drop i)),Cell.lst (sV (ws.take (i+1)++ws.drop i)),Cell.lst [PV.ref s.length,PV.ref s.length,PV.ref (s2.length+2),PV.ref (s2.length+5)],Cell.lst (sV (ws.take i)),Cell.lst (sV (ws.drop j)),Cell.lst (sV (ws.take i++ws.drop j))] 6 (Cell.lst [PV.ref s.length,PV.ref s.length,PV.ref (s2.length+2),PV.ref (s2.length+5),PV.ref (s2.length+9)])=T;have sp:=g2.Zc.lt;have gT:Gr s2 p T:=by rw[<-hT];exact(Gr.refl g2.Zc).app
 refine⟨p,5,rfl,gT.Zc,by decide,by decide,λy s3 y0 y1 g3=>?_⟩;have eL:T[s2.length+6]?=some (.lst [PV.ref s.length,PV.ref s.length,PV.ref (s2.length+2),PV.ref (s2.length+5),PV.ref (s2.length+9)]):=by rw[<-hT];exact ZS.trans rfl
 have eW:T[s.length]?=some (.lst (sV (ws++[]))):=by rw[<-hT,N5];exact av e2
 obtain⟨v,ev,n,A,B,rfl,en,hA,hB,nn⟩:=kn (L:=[PV.ref s.length,PV.ref s.length,PV.ref (s2.length+2),PV.ref (s2.length+5),PV.ref (s2.length+9)]) (P:=λv=>∃(n:Nat) (A B:List Str),v=.ref n/\T[n]?=some (.lst (sV (A++B)))/\A.Sublist ws/\B.Sublist ws/\n≠p) (λv hv=>by
  simp only[List.mem_cons,List.not_mem_nil,or_false] at hv;rcases hv with rfl|rfl|rfl|rfl|rfl
  ·exact⟨_,ws,[],rfl,eW,.refl _,List.nil_sublist _,np⟩
  ·exact⟨_,ws,[],rfl,eW,.refl _,List.nil_sublist _,np⟩
  ·exact⟨_,_,_,rfl,by rw[<-hT];exact ZS.trans rfl,P4 _ _,QV _ _,by omega⟩
  ·exact⟨_,_,_,rfl,by rw[<-hT];exact ZS.trans rfl,P4 _ _,QV _ _,by omega⟩
  ·exact⟨_,_,_,rfl,by rw[<-hT];exact ZS.trans rfl,P4 _ _,QV _ _,by omega⟩) (y:=y) y0 y1
 obtain⟨j1,j2⟩:=TJ A B hA hB;exact⟨_,ag (g3.get eL (by omega)),_,ev,A++B,ah (g3.get en nn),j1,.inl (k _ _ (g.trans (((g0.trans g1).trans g2).trans (gT.trans g3))) j2)⟩
def rT {z:Str}(h:aM z=true):z≠""/\∀c∈tl z,47<=c:=⟨λe=>(iF h).2 (by rw[e];rfl),λc hc=>by have:=(iF h).1 c hc;lia⟩
def Au {w:Str}{p:Nat × Nat}(h:Yi w=some p):w≠""/\∀c∈tl w,47<=c:=by
 match e:Txt.split w "/" with
 | []=>exact absurd e (eP w "/")
 | [a] =>
  obtain⟨rfl,h1⟩:=tE e;rw[h1] at h;by_cases q:aM a=true
  ·exact rT q
  ·simp_all
 | [a,b] =>
  obtain⟨rfl,h1⟩:=sU e;rw[h1] at h;by_cases q:aM a=true/\aM b=true/\2<=aU b/\Nat.gcd (aU a) (aU b)=1
  ·have ha:=rT q.1;have hb:=rT q.2.1;have e:tl (a++("/":Str)++b)=tl a++[47]++tl b:=by show (a++("/":Str)++b).cps.toList=_;rw[aE,aE];rfl
   refine⟨λz=>?_,λc hc=>?_⟩
   ·have z:tl (a++("/":Str)++b)=[]:=by rw [z];rfl
    rw[e] at z;simp at z
   ·rw[e,MN,MN,MF] at hc;rcases hc with (hc|hc)|hc
    ·simp[*]
    ·simp_all
    simp[*]
  ·simp_all
 | a::b::c::r=>rw[vi (by rw[e];simp)] at h;cases h
def ll {z:Str}(h:aI (.str z)=true):z≠""/\∀c∈tl z,97<=c:=by simp only[aI,bi,decide_eq_true_eq] at h;refine⟨λe=>by have:=YH.mp e;lia,λc hc=>?_⟩;have f:=N7 YF c;have this:(!(Builtin.Str.occurrences YF ⟨#[c]⟩ 0 YF.length 1).isEmpty)=true:=NK.mp h.2 c hc;rw[f,show YF.cps.toList=abc from rp] at this;exact(tm (NY this)).1
theorem qK:∀ {ws:List Str}{ms:List (Nat × Nat)},fB ws=some ms->∀w∈ws,∃p,Yi w=some p
 | v::ws,ms,h,w,hw=>by
  rw[dh] at h;cases hv:Yi v with
  | none=>simp_all
  | some q =>
   rw[hv] at h;obtain⟨l,e,_⟩:=OI.mp h;rcases MU.mp hw with rfl|hw
   ·exact⟨q,hv⟩
   ·exact qK e w hw
def jT {ws:List Str}{v:PV}(h:Yq ws=some v):3<=ws.length/\(∀w∈ws,w≠""/\∀c∈tl w,47<=c)/\∃m:Nat,ZV.lookup (ws.headD "")=some (m:Int)/\∀w∈ws.drop (3+m),∀c∈tl w,97<=c:=by
 unfold Yq at h;cases e1:ZV.lookup (ws.headD "") with
 | none=>rw[e1] at h;cases h
 | some k =>
  obtain⟨m,rfl⟩:∃m:Nat,k=m:=⟨k.toNat,by have:=fe e1;lia⟩;rw[e1] at h;change Va ws m (fB ((ws.drop 3).take m))=some v at h;cases e2:fB ((ws.drop 3).take m) with
  | none=>rw[e2] at h;cases h
  | some ms =>
   rw[e2] at h;change Vu ws ms (YK (ws.drop (3+m)))=some v at h;cases e3:YK (ws.drop (3+m)) with
   | none=>rw[e3] at h;cases h
   | some ns =>
    rw[e3] at h;change (if dF (c6 ws ms ns)=true then some (c6 ws ms ns) else none)=some v at h;by_cases q:dF (c6 ws ms ns)=true
    ·have l1:=(gc e2).1
     match ws,e1,e2,e3,q,l1 with
     | [],e1,_,_,_,_=>cases e1
     | [_],_,_,_,q,l1 =>
      have:ms=[]:=by simpa using l1
      subst this;exact absurd q (by rw[iL (by simp)];simp)
     | [_,_],_,_,_,q,l1 =>
      have:ms=[]:=by simpa using l1
      subst this;exact absurd q (by rw[iL (by simp)];simp)
     | x::a::b::r,e1,e2,e3,q,l1 =>
      have hk:ZV.lookup x=some ((ms.map fr).length:Int):=by
       by_cases z:ZV.lookup x=some ((ms.map fr).length:Int)
       ·exact z
       ·have z2:=fu (w:=x) (a:=.str a) (b:=.str b) (ms:=ms.map fr) (n:=.tup (sV ns)) z;exact absurd (z2.symm.trans q) ME
      have q2:=(iX (w:=x) (a:=.str a) (b:=.str b) (ms:=ms.map fr) (n:=.tup (sV ns)) hk).symm.trans q;simp only[bi] at q2;obtain⟨⟨⟨⟨qa,qb⟩,qn⟩,_⟩,_⟩:=q2;have qn:((sV ns).all aI && W7 (sV ns))=true:=qn;rw[MG] at qn;have hn:∀z∈ns,z≠""/\∀c∈tl z,97<=c:=λz hz=>ll (NK.mp qn.1 _ (MR.mpr ⟨z,hz,rfl⟩));have rest:∀w∈r.drop m,w≠""/\∀c∈tl w,97<=c:=λw hw=>by
       have e3:YK (r.drop m)=some ns:=by rw[<-OP] at e3;exact e3
       generalize r.drop m=D at *;cases D with
       | nil=>cases hw
       | cons y D =>
        have e:YK (y::D)=if y="without"/\D≠[] then some D else none:=rfl
        rw[e] at e3;by_cases z:y="without"/\D≠[]
        ·rw[MK z] at e3;cases e3;rcases MU.mp hw with rfl|hw
         ·rw[z.1];exact⟨by decide +kernel,by decide +kernel⟩
         ·exact hn w hw
        simp_all
      refine⟨by simp,λw hw=>?_,m,rfl,λw hw=>?_⟩
      ·simp only[List.mem_cons] at hw;rcases hw with rfl|rfl|rfl|hw
       ·have:=kT e1;simp only[ZV,List.headD_cons,List.mem_cons,Prod.mk.injEq,List.not_mem_nil,or_false] at this;rcases this with⟨rfl,_⟩|⟨rfl,_⟩|⟨rfl,_⟩|⟨rfl,_⟩|⟨rfl,_⟩ <;> exact⟨by decide +kernel,by decide +kernel⟩
       ·have:=ll qa;exact⟨this.1,λc hc=>by have:=this.2 c hc;lia⟩
       ·have:=ll qb;exact⟨this.1,λc hc=>by have:=this.2 c hc;omega⟩
       ·rw[<-PB m r] at hw;rcases MN.mp hw with hw|hw
        ·obtain⟨p,hp⟩:=qK (ws:=r.take m) e2 w hw;exact Au hp
        ·have:=rest w hw;exact⟨this.1,λc hc=>by have:=this.2 c hc;lia⟩
      ·rw[<-OP] at hw;exact(rest w hw).2
    simp_all
def xS {ws:List Str}(h:∀v,Yq ws≠some v):Yq ws=none:=by
 cases e:Yq ws with
 | none=>rfl
 | some v=>solve_by_elim
def Sp (S:AH)(x:PV):Prop:=TF S x/\Wh x=none
theorem rX {s:List Nat}:∀ {A B:List (List Nat)},A≠[]->B≠[]->jn s (A++B)=jn s A++(s++jn s B)
 | [],_,h,_=>absurd rfl h
 | [x],[],_,h=>absurd rfl h
 | [x],y::B,_,_=>rfl
 | x::y::A,B,_,hB=>by show x++(s++jn s ((y::A)++B))=_;rw[rX (A:=y::A) (λe=>nomatch e) hB];show _=x++(s++jn s (y::A))++_;simp[*]
def Cn {z:Str}{W:List Str}(hW:W≠[])(free:∀p∈W,32 ∉ tl p)(e:tl z=jn [32] (W.map tl)):Txt.split z " "=W:=by have:z=Str.join " " W:=cu (e.trans (gL " " W).symm);rw[this];exact gO (y:=" ") (c:=32) (ys:=[]) rfl (by decide +kernel) hW free
def cI {S:AH}{z:Str}{W:List Str}(hW:W≠[])(l:W.length<=13)(h:∀p∈W,p.length<=26/\∀c∈tl p,c<128/\c≠32)(e:tl z=jn [32] (W.map tl))(n:Yq W=none):Sp S (.str z):=by
 have hs:=Cn hW (λp hp hc=>((h p hp).2 32 hc).2 rfl) e;refine ⟨⟨by rw [PV.ZQ],λz' e'=>?_⟩,by show Yq (Txt.split z " ")=none;rw [hs];exact n⟩;cases e';refine⟨?_,by rw[hs];lia,ZJ.mpr λc hc=>?_⟩
 ·have hz:z=Txt.join " " W:=by rw [f9];exact cu (e.trans (gL " " W).symm)
  have:=tj (sep:=" ") (S:=W) (B:=26) λp hp=>(h p hp).1;rw [show (Str.ofString " ").length=1 from rfl] at this;rw[hz]
  lia
 ·rw[e] at hc;rcases nX hc with hc|⟨l,hl,hc⟩
  ·rw[MF.mp hc];decide
  ·obtain⟨p,hp,rfl⟩:=MR.mp hl;have:=((h p hp).2 c hc).1
   lia
def ju {S:AH}{z:Str}(h1:z.length<=640)(h2:(Txt.split z " ").length<=40)(h3:PyData.strOk z=true)(h4:(Wh (.str z)).isNone=true):Sp S (.str z):=⟨⟨by rw[PV.ZQ],λz' e=>by cases e;solve_by_elim⟩,Option.isNone_iff_eq_none.mp h4⟩
def xv {q:Qd}(h:Zk q):(∀p∈qW q,p.length<=26/\∀c∈tl p,c<128/\c≠32)/\tl (qT q)=jn [32] ((qW q).map tl):=⟨λp hp=>⟨Nat.le_succ_of_le (h.words.len p hp),λc hc=>by have:=h.words.VH p hp c hc;lia⟩,by unfold qT;rw[sx];rfl⟩
def yF {q:Qd}{E:List Str}:(qW q++E).drop (3+q.ms.length)=Xm q.ns++E:=by rw[<-OP];show ((q.ms.map Ym++Xm q.ns)++E).drop q.ms.length=_;simp
def Kh (l:List Nat):tl (⟨l.toArray⟩:Str)=l:=by simp
def De {ws:List Str}{w:Str}{c:Nat}(hw:w∈ws)(hc:c∈tl w)(h:c<47):Yq ws=none:=xS λv e=>by
 have:=((jT e).2.1 w hw).2 c hc
 lia
def o4 {ws:List Str}(hw:("":Str)∈ws):Yq ws=none:=xS λv e=>((jT e).2.1 "" hw).1 rfl
def p8 {ws:List Str}(h:ws.length<3):Yq ws=none:=xS λv e=>by
 have:=(jT e).1
 lia
def yu {ws:List Str}(h:ZV.lookup (ws.headD "")=none):Yq ws=none:=by unfold Yq;rw[h];rfl
def JI {q:Qd}(h:Zk q):Yq (qW q++[("7":Str),"7"])=none:=xS λv e=>by
 obtain⟨_,_,m,h1,h2⟩:=jT e;have h1:ZV.lookup q.w=some (m:Int):=h1;rw[h.w] at h1;have e:q.ms.length=m:=by have:=NC h1;omega
 rw[<-e,yF] at h2;have:=h2 "7" (NF _ (by simp)) 55 (by solve_by_elim)
 simp_all
def nO {q:Qd}(h:Zk q):Zk { q with ns:=[] }:=⟨h.w,h.a,h.b,h.ms,h.up,λz hz=>(nomatch hz),OV _,List.Pairwise.nil⟩
def IM {q:Qd}(h:Zk q):Yq (qW { q with ns:=[] }++[("without":Str)])=none:=by
 show T7 _ (ZV.lookup q.w)=none;rw[h.w];show Va _ q.ms.length (fB (((qW { q with ns:=[] }++[("without":Str)]).drop 3).take q.ms.length))=none;cases fB (((qW { q with ns:=[] }++[("without":Str)]).drop 3).take q.ms.length) with
 | none=>rfl
 | some ms =>show Vu _ ms (YK ((qW { q with ns:=[] }++[("without":Str)]).drop (3+({ q with ns:=[] }:Qd).ms.length)))=none;rw[yF];rfl
def D_ {w:Str}{k:Int}(h:ZV.lookup w=some k):ZV.lookup (⟨((tl w).map up1).toArray⟩:Str)=none:=by have:=kT h;simp only[ZV,List.mem_cons,Prod.mk.injEq,List.not_mem_nil,or_false] at this;rcases this with⟨rfl,_⟩|⟨rfl,_⟩|⟨rfl,_⟩|⟨rfl,_⟩|⟨rfl,_⟩ <;> decide +kernel
theorem Ba {f:Nat->Nat}{s:List Nat}:∀L:List (List Nat),(jn s L).map f=jn (s.map f) (L.map (List.map f))
 | []=>rfl
 | [x]=>rfl
 | x::y::r=>by show (x++(s++jn s (y::r))).map f=x.map f++(s.map f++jn (s.map f) ((y::r).map (List.map f)));rw[NM,NM,Ba]
def rY {q:Qd}{E:List Str}{z:Str}(h:Zk q)(hE:E≠[])(e:tl z=[32]++jn [32] (E.map tl)):tl (qT q++z)=jn [32] ((qW q++E).map tl):=by rw[show tl (qT q++z)=tl (qT q)++tl z from aE _ _,(xv h).2,e,NM,rX (A:=(qW q).map tl) (λe=>by cases e) (λe=>hE (Sh.mp e))]
def Ht {z:Str}{w r:List Nat}(hw:∀c∈w,c≠32)(e:tl z=w++(32::r)):tl (ox z)=w++([32]++([]++([32]++r))):=by
 have at_:∀j:Nat,z.cps.toList[j]?=(w++(32::r))[j]?:=λj=>by solve_by_elim
 unfold ox;rcases PySem.StrLaws.occ_head z " " 1 (MJ _) with ⟨e1,hn⟩|⟨i,r',e1,ha,hf⟩
 ·refine absurd ((NZ z 32 w.length).mpr ?_) (hn w.length);rw[at_,MY (MJ _),Q0];rfl
 ·have hi:=(NZ z 32 i).mp ha;rw[at_] at hi;have ei:i=w.length:=by
   by_cases h1:i<w.length
   ·rw[M0 h1] at hi;exact absurd rfl (hw 32 (MW hi))
   ·by_cases h2:w.length<i
    ·refine absurd ((NZ z 32 w.length).mpr ?_) (hf w.length h2);rw[at_,MY (MJ _),Q0];rfl
    ·lia
  subst ei;rw[e1];show (Builtin.Str.strSub z 0 w.length++(("  ":Str)++Builtin.Str.strSub z (w.length+1) z.length)).cps.toList=_;rw[aE,aE,M_,M_,aj z,show z.cps.toList=w++(32::r) from e];rw[RC,QQ,QM,<-OP,List.drop_left,MS,NT];rw[show (32::r).drop 1=r from rfl,NP (by lia)];rfl
def Wl (st:AH)(p:Nat)(q:Qd)(k:Nat)(Z:Fr)(s:AH):Prop:=Gr st p s/\∃(n:Nat) (L:List PV) (bh:Str),st.length<=n/\s[n]?=some (.lst L)/\L.length=k/\(∀x∈L,Sp s x)/\Z=[some (.ref p),some (qV q),some (.str (qT q)),some (.str (qT { q with ns:=[] })),some (.str q.w),some (.str q.a),some (.str q.b),some (.str bh),some (.ref n)]
def Sp.gr {st s:AH}{v:PV}(h:Sp st v)(l:st.length<=s.length):Sp s v:=⟨⟨PV.XN (v:=v) l h.1.1,h.1.2⟩,h.2⟩
def Wl.add {st s:AH}{p:Nat}{q:Qd}{k m:Nat}{bh:Str}{L M g:List _}(G:Gr st p s)(hl:L.length=k)(hm:M.length=m)(h1:∀x∈L,Sp s x)(h2:∀x∈M,Sp (s++g) x)(i:Nat)(e:g[i]?=some (Cell.lst (L++M))):Wl st p q (k+m) [some (.ref p),some (qV q),some (.str (qT q)),some (.str (qT { q with ns:=[] })),some (.str q.w),some (.str q.a),some (.str q.b),some (.str bh),some (.ref (s.length+i))] (s++g) :=
 ⟨G.app,_,L++M,bh,by have:=G.len;omega,ZS.trans e,by simp_all,λx hx=>by
  rcases MN.mp hx with hx|hx
  ·exact(h1 x hx).gr (by simp)
  ·exact h2 x hx,rfl⟩
def pO {as st Q}(h:bP as st Q):aO U dQ (frame 9 as) st (au st Q):=by
 obtain⟨p,q,rfl,hp,hq,k⟩:=h;have ml:=hq.ml;have nl:=hq.nl;have Xi:=hq.words;have tl1:(qT q).length<=234:=hq.words.line;have tl2:(qT { q with ns:=[] }).length<=234:=(nO hq).words.line;obtain⟨w1,w2⟩:=xv hq;unfold dQ;refine cX (λZ s=>st=s/\Z=[some (.ref p),some (qV q),some (.str (qT q)),none,none,none,none,none,none]) ?_ ?_
 ·walk_at "WPN";exact⟨q,rfl,hq,rfl,rfl⟩
 rintro _ _ ⟨rfl,rfl⟩;refine cX (λZ s=>st=s/\Z=[some (.ref p),some (qV q),some (.str (qT q)),some (.str (qT { q with ns:=[] })),none,none,none,none,none]) ?_ ?_
 ·walk_at "WPN";rw[FV];exact⟨by simp only[List.length_cons,List.length_map];lia,{ q with ns:=[] },rfl,nO hq,rfl,rfl⟩
 rintro _ _ ⟨rfl,rfl⟩;refine cX (λZ s=>st=s/\Z=[some (.ref p),some (qV q),some (.str (qT q)),some (.str (qT { q with ns:=[] })),some (.str q.w),some (.str q.a),some (.str q.b),none,none]) ?_ ?_
 ·walk_at "WPN";rw[xj];exact⟨rfl,_,_,rfl,_,_,rfl,_,_,rfl,rfl,rfl,rfl,rfl⟩
 rintro _ _ ⟨rfl,rfl⟩;refine cX (λZ s=>st=s/\∃bh,tl bh=[32]++jn [32] (((qW q).drop 1).map tl)/\Z=[some (.ref p),some (qV q),some (.str (qT q)),some (.str (qT { q with ns:=[] })),some (.str q.w),some (.str q.a),some (.str q.b),some (.str bh),none]) ?_ ?_
 ·walk_at "WPN";refine⟨by have:=(qI hq.w).1;lia,by lia,_,?_,rfl⟩;rw[show tl (b6 (qT q) (some (q.w.length:Int)) none)=(tl (qT q)).drop q.w.length from ya,w2];show (tl q.w++(32::jn [32] (((qW q).drop 1).map tl))).drop q.w.length=_;rw[List.drop_append_of_le_length (by solve_by_elim),OH (by solve_by_elim),QC]
 rintro _ _ ⟨rfl,bh,hb,rfl⟩;refine cX (Wl st p q 8) ?_ ?_
 ·walk_at "WPN";have lw:=(qI hq.w).1;have la:=hq.a.len;have l1:(Str.ofString " ").length=1:=rfl;have l2:(Str.ofString "\n").length=1:=by decide +kernel
  have l3:(Str.ofString "how").length=3:=by decide +kernel
  have l4:=iT q.w (Str.ofString " ");have lb:bh.length<=234:=by
   have e:tl (qT q)=tl q.w++tl bh:=by rw[w2,hb];rfl
   have:=NS List.length e;rw[MS,<-aj,<-aj,<-aj] at this;omega
  refine⟨by lia,by lia,by lia,by omega,by simp_all,by simp_all,by lia,by lia,by lia,Wl.add (L:=[]) (k:=0) (m:=8) (.refl hp) rfl rfl (λx hx=>nomatch hx) (λx hx=>?_) 0 rfl⟩;simp only[List.mem_cons,List.not_mem_nil,or_false] at hx;rcases hx with rfl|rfl|rfl|rfl|rfl|rfl|rfl|rfl
  ·exact ju (by decide +kernel) (by decide +kernel) (by decide +kernel) (by solve_by_elim)
  ·refine cI (W:=qW q++[("":Str)]) (by simp) (by rw [MS];have:=Xi.l9;simp only [List.length_cons,List.length_nil];lia) (λp hp=>?_) (rY hq (λe=>by cases e) rfl) (o4 (by simp));rcases MN.mp hp with hp|hp
   ·exact w1 p hp
   ·rw[MF.mp hp];exact⟨by decide,λc hc=>nomatch hc⟩
  ·refine cI (W:=("":Str)::qW q) (by simp) (by have:=Xi.l9;simp only [List.length_cons];lia) (λp hp=>?_) ?_ (o4 (by simp))
   ·rcases MU.mp hp with rfl|hp
    ·exact⟨by decide,λc hc=>nomatch hc⟩
    ·exact w1 p hp
   ·rw [show tl (Str.ofString " "++qT q)=[32]++tl (qT q) from aE _ _,w2];rfl
  ·have ne:qW q≠[]:=λe=>nomatch e;have el:=(Pj ne).symm;have i0:(qW q).dropLast≠[]:=λe=>nomatch e;generalize (qW q).dropLast=I at el i0;generalize (qW q).getLast ne=z at el;rw[el] at w1 w2;have l9:=Xi.l9;rw[el] at l9;have wz:=Xi.len z (by simp_all);have tz:tl (z++Str.ofString "\n")=tl z++[10]:=aE _ _;refine cI (W:=I++[z++Str.ofString "\n"]) (by simp) (by grind) (λp hp=>?_) ?_ (De (w:=z++Str.ofString "\n") (c:=10) (by simp) (by simp_all) (by decide))
   ·rcases MN.mp hp with hp|hp
    ·exact w1 p (N6 _ hp)
    ·rw[MF.mp hp];refine⟨by rw[iT];simp_all,λc hc=>?_⟩;rw[tz] at hc;rcases MN.mp hc with hc|hc
     ·exact(w1 z (by simp)).2 c hc
     ·rw[MF.mp hc];decide
   ·rw [show tl (qT q++Str.ofString "\n")=tl (qT q)++[10] from aE _ _,w2,NM,NM];have Oc:I.map tl≠[]:=λe=>i0 (Sh.mp e);rw [rX (B:=[z].map tl) Oc (λe=>by cases e),rX (B:=[z++Str.ofString "\n"].map tl) Oc (λe=>by cases e)];show jn [32] (I.map tl)++([32]++tl z)++[10]=jn [32] (I.map tl)++([32]++tl (z++Str.ofString "\n"))
    simp_all
  ·refine cI (W:=q.w::""::(qW q).drop 1) (by simp) (by have:=Xi.l9;simp only [List.length_cons,List.length_drop];lia) (λp hp=>?_) ?_ (o4 (by simp))
   ·rcases MU.mp hp with rfl|hp
    ·solve_by_elim
    ·rcases MU.mp hp with rfl|hp
     ·exact⟨by decide,λc hc=>nomatch hc⟩
     solve_by_elim
   ·exact Ht (w:=tl q.w) (r:=jn [32] (((qW q).drop 1).map tl)) (λc hc=>((w1 q.w MP).2 c hc).2) w2
  ·exact cI (W:=[q.w]) (by simp) (show 1<=13 by decide) (λp hp=>by rw[MF.mp hp];solve_by_elim) rfl (p8 (by simp))
  ·refine cI (W:=[q.w,q.a]) (by simp) (show 2<=13 by decide) (λp hp=>?_) ?_ (p8 (by simp))
   ·simp only[List.mem_cons,List.not_mem_nil,or_false] at hp;rcases hp with rfl|rfl
    ·solve_by_elim
    solve_by_elim
   ·show tl (q.w++Str.ofString " "++q.a)=tl q.w++([32]++tl q.a);rw [show tl (q.w++Str.ofString " "++q.a)=tl (q.w++Str.ofString " ")++tl q.a from aE _ _,show tl (q.w++Str.ofString " ")=tl q.w++[32] from aE _ _,MZ]
  ·refine cI (W:=("how":Str)::(qW q).drop 1) (by simp) (by have:=Xi.l9;solve_by_elim) (λp hp=>?_) ?_ (yu (show ZV.lookup ("how":Str)=none by solve_by_elim))
   ·rcases MU.mp hp with rfl|hp
    ·exact⟨by decide +kernel,by decide +kernel⟩
    solve_by_elim
   ·rw [show tl (Str.ofString "how"++bh)=tl (Str.ofString "how")++tl bh from aE _ _,hb];rfl
 rintro _ s ⟨g,n,L,bh,hn,en,hl,hL,rfl⟩;refine cX (Wl st p q 15) ?_ ?_
 ·walk_at "WPN";have l1:(Str.ofString " without").length=8:=by decide +kernel
  have l2:(Str.ofString " 7 7").length=4:=by decide +kernel
  refine⟨by lia,by lia,by lia,L,av en,by simp_all,Wl.add (k:=8) (m:=7) g hl rfl hL (λx hx=>?_) 1 rfl⟩;simp only[List.mem_cons,List.not_mem_nil,or_false] at hx;rcases hx with rfl|rfl|rfl|rfl|rfl|rfl|rfl
  ·refine cI (W:=(qW q).map λz=>(⟨((tl z).map up1).toArray⟩:Str)) (by simp[qW]) (by have:=Xi.l9;rw[MI];lia) (λp hp=>?_) ?_ (yu (D_ hq.w))
   ·obtain⟨z,hz,rfl⟩:=MR.mp hp;refine⟨by rw[aj,List.toList_toArray,MI,<-aj];simp[*],λc hc=>?_⟩;rw[Kh] at hc;obtain⟨d,hd,rfl⟩:=MR.mp hc;have:=Xi.VH z hz d hd;unfold up1;grind
   ·have Ql:∀c∈tl (qT q),c<128:=λc hc=>by
     rw[w2] at hc;rcases nX hc with hc|⟨l,hl,hc⟩
     ·rw[MF.mp hc];decide
     ·obtain⟨z,hz,rfl⟩:=MR.mp hl;exact((w1 z hz).2 c hc).1
    rw[show tl (Txt.upper (qT q))=(tl (qT q)).map up1 from qv Ql,w2,Ba,N2,N2];congr 1
  ·refine cI (W:=qW { q with ns:=[] }++[("without":Str)]) (by simp) (by rw [MS];have:=(nO hq).words.l9;simp only [List.length_cons,List.length_nil];lia) (λp hp=>?_) (rY (nO hq) (λe=>by cases e) (by solve_by_elim)) (IM hq);rcases MN.mp hp with hp|hp
   ·exact(xv (nO hq)).1 p hp
   ·rw[MF.mp hp];exact⟨by decide +kernel,by decide +kernel⟩
  ·refine cI (W:=qW q++[("7":Str),"7"]) (by simp) (by rw [MS];have:=Xi.l9;simp only [List.length_cons,List.length_nil];lia) (λp hp=>?_) (rY hq (λe=>by cases e) (by solve_by_elim)) (JI hq);rcases MN.mp hp with hp|hp
   ·exact w1 p hp
   ·simp only[List.mem_cons,List.not_mem_nil,or_false] at hp;rcases hp with rfl|rfl <;> exact⟨by decide +kernel,by decide +kernel⟩
  ·exact ju (by decide +kernel) (by decide +kernel) (by decide +kernel) (by decide +kernel)
  ·exact ju (by decide +kernel) (by decide +kernel) (by decide +kernel) (by decide +kernel)
  ·exact ju (by decide +kernel) (by decide +kernel) (by decide +kernel) (by decide +kernel)
  ·exact ju (by decide +kernel) (by decide +kernel) (by decide +kernel) (by decide +kernel)
 rintro _ s ⟨g,n,L,bh,hn,en,hl,hL,rfl⟩;refine cX (Wl st p q 19) ?_ ?_
 ·walk_at "WPN";refine⟨L,av en,by simp_all,Wl.add (k:=15) (m:=4) g hl rfl hL (λx hx=>?_) 1 rfl⟩;simp only[List.mem_cons,List.not_mem_nil,or_false] at hx;rcases hx with rfl|rfl|rfl|rfl <;> exact ju (by decide +kernel) (by decide +kernel) (by decide +kernel) (by decide +kernel)
 rintro _ s ⟨g,n,L,bh,hn,en,hl,hL,rfl⟩;refine cX (Wl st p q 24) ?_ ?_
 ·walk_at "WPN";refine⟨L,av en,by simp_all,Wl.add (k:=19) (m:=5) g hl rfl hL (λx hx=>?_) 1 rfl⟩;simp only[List.mem_cons,List.not_mem_nil,or_false] at hx;rcases hx with rfl|rfl|rfl|rfl|rfl <;> exact ju (by decide +kernel) (by decide +kernel) (by decide +kernel) (by decide +kernel)
 rintro _ s ⟨g,n,L,bh,hn,en,hl,hL,rfl⟩;refine cX (Wl st p q 25) ?_ ?_
 ·walk_at "WPN";have g0:Gr s p (s++[Cell.lst [PV.str (qT q)],Cell.lst [PV.non,PV.int 7,PV.ref s.length,PV.tup [PV.str (qT q)]]]):=(Gr.refl g.Zc).app;refine⟨p,4,rfl,g0.Zc,by decide,by decide,λy s2 y0 y1 g2=>?_⟩;have G:=g0.trans g2;have l2:=g2.len;rw[MS] at l2;obtain⟨v,ev,hv⟩:=kn (L:=[PV.non,PV.int 7,PV.ref s.length,PV.tup [PV.str (qT q)]]) (P:=Sp s2) (λv hv=>by
   simp only[List.mem_cons,List.not_mem_nil,or_false] at hv;rcases hv with rfl|rfl|rfl|rfl
   ·exact⟨⟨rfl,λz e=>nomatch e⟩,rfl⟩
   ·exact⟨⟨rfl,λz e=>nomatch e⟩,rfl⟩
   ·exact⟨⟨by rw[PV.ZQ];exact M1 (by simp only[List.length_cons,List.length_nil] at l2;lia),λz e=>nomatch e⟩,rfl⟩
   ·exact⟨⟨by solve_by_elim,λz e=>nomatch e⟩,rfl⟩) (y:=y) y0 y1
  have sp:=g.Zc.lt;refine⟨_,ag (g2.get (ZS (k:=1)) (by lia)),v,ev,L,av (G.get en (by have:=hp.lt;lia)),by simp_all,Wl.add (k:=24) (m:=1) (g.trans G) hl rfl (λx hx=>(hL x hx).gr G.len) (λx hx=>?_) 1 rfl⟩;rw[MF.mp hx];exact hv.gr (by simp)
 rintro _ s ⟨g,n,L,bh,hn,en,hl,hL,rfl⟩;walk_at "WP";refine⟨L,ag en,p,_,rfl,g.Zc,by simp_all,by simp_all,λy s2 y0 y1 g2=>?_⟩;obtain⟨v,ev,hv⟩:=kn (L:=L) (P:=Sp s) hL (y:=y) y0 (by omega);exact⟨L,ag (g2.get en (by have:=hp.lt;lia)),v,ev,.inl (k _ _ (g.trans g2) (hv.gr g2.len).1 hv.2)⟩
def IS {q:Qd}(h:Zk q):dat 2 (qV q):=by
 have e:qV q=c6 (qW q) q.ms q.ns:=rfl;rw[e];refine uz (λw hw=>ZJ.mpr λc hc=>?_) λw hw=>(h.ns w hw).ok;have:=h.words.VH w hw c hc
 lia
def Lu {q:Qd}(h:Zk q)(S:AH):Qx S (qV q):=by
 have nl:=h.nl;have ml:=h.ml;have an:Any S (.tup (sV q.ns)):=eC (by rw[MI];omega) λx hx=>by obtain⟨z,hz,rfl⟩:=MR.mp hx;exact cy (by have:=(h.ns z hz).len;omega)
 refine BY (by have:=(qI h.w).1;omega) (by simp only[List.length_cons,List.length_append,List.length_map,List.length_nil];lia) (λy hy=>?_) (.inl λy hy=>?_)
 ·simp only[List.mem_cons,List.mem_append,List.not_mem_nil,or_false] at hy;rcases hy with rfl|rfl|hy|rfl
  ·exact cy (by have:=h.a.len;omega)
  ·exact cy (by have:=h.b.len;omega)
  ·obtain⟨f,hf,rfl⟩:=MR.mp hy;exact tF (jx (h.ms f hf).a) (jx (h.ms f hf).b)
  ·exact an
 ·rw[show PV.str q.a::PV.str q.b::(q.ms.map fr++[.tup (sV q.ns)])=(PV.str q.a::PV.str q.b::q.ms.map fr)++[.tup (sV q.ns)] from rfl,List.dropLast_concat] at hy;simp only[List.mem_cons] at hy;rcases hy with rfl|rfl|hy
  ·exactλa b e=>nomatch e
  ·exactλa b e=>nomatch e
  ·obtain⟨f,hf,rfl⟩:=MR.mp hy;exact xY
def J0 {q:Qd}(h:Zk q):v7 (qT q):=by
 have l:=h.words.line;have s:=h.words.split;refine⟨MX l (by decide),?_,ZJ.mpr λc hc=>?_⟩
 ·show (Txt.split (Txt.join " " (qW q)) " ").length<=40;rw[s];have:=h.words.l9
  lia
 ·rw[(xv h).2] at hc;rcases nX hc with hc|⟨l,hl,hc⟩
  ·rw[MF.mp hc];decide
  ·obtain⟨z,hz,rfl⟩:=MR.mp hl;have:=h.words.VH z hz c hc
   lia
def KO {as st Q}(h:jf as st Q):aO U oG (frame 8 as) st (au st Q):=by
 obtain⟨ns,rfl,hl,k⟩:=h;unfold oG;walk_at "WP";rw[MI];generalize hB:(if (1:Int)<(if (20:Int)<(ns.length:Int) then 20 else (ns.length:Int)) then (if (20:Int)<(ns.length:Int) then 20 else (ns.length:Int)) else 1)=B;have b0:0<=B/\B<=20:=by subst hB;split <;> (try split) <;> omega
 refine⟨by lia,by lia,?_⟩;refine rM Um (λi Z s=>∃b c d e f g h,Z=[some (.YM (ns.map .int)),b,c,d,e,f,g,h]) ⟨_,_,_,_,_,_,_,rfl⟩ (λi v Z s hi hI=>?_) ?_
 ·obtain⟨b,c,d,e,f,g,h,rfl⟩:=hI;obtain⟨N,rfl⟩:∃N:Nat,B=N:=⟨B.toNat,by lia⟩;obtain⟨rfl,hi2⟩:=vO hi;refine⟨trivial,?_⟩;walk_at "WP";refine⟨ns,i,rfl,hl,by lia,λqq rr hpk=>?_⟩;have hp:W8 (s++[pc qq rr]) s.length:=⟨qq,rr,aq,hpk⟩;generalize s++[pc qq rr]=s1 at hp;generalize s.length=p at hp;refine⟨p,rfl,hp,λq s2 hq g2=>?_⟩;walk_at "WP";refine⟨p,q,rfl,g2.Zc,hq,λx s3 g3 hx=>?_⟩;walk_at "WP";refine⟨x,rfl,hx,?_⟩;walk_at "WP";refine⟨_,rfl,Lu hq _,?_⟩;rw[yf hq];have tq:=J0 hq;have th:∀S,TF S (.str (qT q)):=λS=>⟨rfl,λz e=>by simp_all⟩;have rd:∀(S:AH) (P:Prop),P->W5 aC [.str (qT q)] S λx st1=>Ye st1 x (qV q) λk=>if k=false then Xl st Q (PV.bl false) st1 else P:=λS P hP=>by refine⟨_,rfl,th S,?_⟩;rw[K3 hq];show il _ _ (okR (qV q)) _;rw[mY];refine tY (by decide) (IS hq) ?_;assumption
  show (if Ay true (.bl true)=false then _ else _);rw[MM (by decide),MM (by decide)];refine⟨x,rfl,hx,?_⟩;show (if decide (dF x=dF x)=false then _ else _);rw[M1 rfl,MM (by decide)];refine⟨q,rfl,hq,q,rfl,hq,?_⟩;show (if decide (qT q=qT q)=false then _ else _);rw[M1 rfl,MM (by decide)];refine rd _ _ ⟨p,q,rfl,g3.Zc,hq,λy s4 g4 hy hn=>⟨y,rfl,hy,λgg=>?_⟩⟩;rw[hn];show Ye _ _ _ _;refine Hj (o:=none) (av ?_) aq ?_
  ·rw[<-MS];exact aq
  rw[MM (by decide)];refine⟨p,qT q,rfl,g4.Zc.app.app.app,MX hq.words.line (by decide),?_,tq.ok,λz s5 g5 hz=>⟨z,rfl,MX hz.len (by decide),hz.ok,λb=>?_⟩⟩
  ·show (Txt.split (Txt.join " " (qW q)) " ").length<=15;rw[hq.words.split];have:=hq.words.l9
   lia
  cases b with
  | true =>
   walk_at "WP";refine⟨z,rfl,hz,?_⟩
   solve_by_elim
  | false =>
   solve_by_elim
 ·rintro Z s ⟨b,c,d,e,f,g,h,rfl⟩;refine⟨trivial,?_⟩
  solve_by_elim
local macro_rules | `(tactic| walk_at "AR")=>`(tactic| first|exactλ_ _ _ _ _ _ us hl=>ar1 (P:=λus=>bindArgs _ { pos:=us }=pure (List.zip _ us)) (λ_=>rfl) us hl|exactλ_ _ _ _ _ _ us hl=>ar2 (P:=λus=>bindArgs _ { pos:=us }=pure (List.zip _ us)) (λ_ _=>rfl) us hl|exactλ_ _ _ _ _ _ us hl=>ar3 (P:=λus=>bindArgs _ { pos:=us }=pure (List.zip _ us)) (λ_ _ _=>rfl) us hl|exactλ_ _ _ _ _ _ us hl=>ar4 (P:=λus=>bindArgs _ { pos:=us }=pure (List.zip _ us)) (λ_ _ _ _=>rfl) us hl|exactλ_ _ _ _ _ _ us hl=>ar5 (P:=λus=>bindArgs _ { pos:=us }=pure (List.zip _ us)) (λ_ _ _ _ _=>rfl) us hl)
abbrev zn (K:W.Frag)(n:Str):Prop:=W.nsIn K mainGlobals n=some none
def all_mk {l:W.OpenLaw}{w:World}{K:W.Frag}{h:Heap}{mg:Str->Option Value}{fa:Addr}(X:K.In h)(G:h.Ns mainGlobals mg)(hfa:mg "law"=some (.ref fa))
  {C0 C1 C2 C3 C4 C5:Addr}
  {tg0:Tok}
  {tg1:Tok}
  {tg2:Tok}
  {tg3:Tok}
  {tg4:Tok}
  {Nr:Addr}{gp5:Nat}{Vb Vg Vc Vh Vd Vi Ve Vj Vf Vk:Tok}
  {tg6:Tok}
  (sy:K.lookup sysModules=none) (d0:DI K "is_whole" gD) (d1:DI K "common_divisor" cq) (d2:DI K "is_fraction" eD) (d3:DI K "is_below" gw) (d4:DI K "number_text" eA) (d5:DI K "fraction_text" cP) (d6:DI K "is_number_text" cw) (d7:DI K "read_number" et) (d8:DI K "read_fraction" cN) (d9:DI K "is_name" iS) (d10:DI K "is_names" gI) (d11:DI K "is_question" eB) (d12:DI K "question_text" cR) (d13:DI K "read_without" dM) (d14:DI K "read_question" cK) (d15:DI K "_law_pot" gA) (d16:DI K "_law_take" fL) (d17:DI K "_law_low" gN) (d18:DI K "_law_under" e8) (d19:DI K "_law_called" eH) (d20:DI K "_law_moment" eJ) (d21:DI K "_law_question" cM) (d22:DI K "_law_is_name" dz) (d23:DI K "_law_is_moment" cm) (d24:DI K "_law_is_question" bW) (d25:DI K "_law_other" eZ) (d26:DI K "_law_text" fN) (d27:DI K "_law_spoilt" eI) (d28:DI K "_law_told_moment" bV) (d29:DI K "_law_read" fJ) (d30:DI K "_law_altered" dH) (d31:DI K "_law_is_plain" cQ) (d32:DI K "_law_refused" dI) (d33:DI K "_law_as_read" dJ) (d34:DI K "law" lS) (z:∀x∈HS,W.nsIn K mainGlobals x=some none) (y0:CI K "HourError" C0) (y1:CI K "NoText" C1) (y2:CI K "NoTie" C2) (y3:CI K "NotRight" C3) (y4:CI K "NoDay" C4) (y5:CI K "Overtaken" C5) (ex0:W.excIn K C0 iA "ValueError.__new__"=true) (ex1:W.excIn K C1 iA "ValueError.__new__"=true) (xv0:W.mroIn K C1 (.type "ValueError")=some true) (Uz:W.mroIn K C1 (.ref C0)=some true) (UG:W.mroIn K C1 (.ref C1)=some true) (UJ:W.mroIn K C1 (.ref C2)=some false) (Uo:C1≠C2) (UL:W.mroIn K C1 (.ref C3)=some false) (Ur:C1≠C3) (UT:W.mroIn K C1 (.ref C4)=some false) (Us:C1≠C4) (UW:W.mroIn K C1 (.ref C5)=some false) (Ut:C1≠C5) (Py:W.nsIn K mainGlobals "FIGURES"=some (some (.str "0123456789" tg0))) (Pz:W.nsIn K mainGlobals "BLOCK_FIGURES"=some (some (.int 64 tg1))) (Qa:W.nsIn K mainGlobals "BLOCK"=some (some (.int 10000000000000000000000000000000000000000000000000000000000000000 tg2))) (Qc:W.nsIn K mainGlobals "LETTERS"=some (some (.str "abcdefghijklmnopqrstuvwxyz" tg3))) (Qe:W.nsIn K mainGlobals "MOST_LETTERS"=some (some (.int 8 tg4))) (Qg:W.nsIn K mainGlobals "MOMENTS"=some (some (.ref Nr))) (Qj:K.lookup Nr=some ⟨.type "dict",none,.dict #[⟨PyData.keyHash w.params "at",.str "at" Vb,.int 1 Vg⟩,⟨PyData.keyHash w.params "by",.str "by" Vc,.int 1 Vh⟩,⟨PyData.keyHash w.params "all",.str "all" Vd,.int 0 Vi⟩,⟨PyData.keyHash w.params "few",.str "few" Ve,.int 1 Vj⟩,⟨PyData.keyHash w.params "quick",.str "quick" Vf,.int 2 Vk⟩] gp5,#[]⟩) (Qh:W.nsIn K mainGlobals "WITHOUT_WORD"=some (some (.str "without" tg6)))
  : ∃fd:FuncData,(∀(s:Shared) (v:Value),BindsTo s fd ⟨[v],[]⟩ [("_law_script",v)])/\∀base:Heap,K.In base->base.Ns mainGlobals mg->mE l.prog w K mg base Vz 35 fa fd ["_law_script"] (fK K jf):=by
 obtain⟨f,oc,od,kV,dc,pm,an,cd,ct,sl,aL,lL,cL,kL⟩:=d34;have e:=hfa.symm.trans (P6 X G aL);cases e;have hb:∀x∈HS,mg x=none:=λx hx=>W.mg_none_of X G (z x hx);have hgl:∀x v,Qk.lookup x=some v->GL l.prog w K mg x v:=by
  intro x v hx;have e:=NV hx;simp only[Qk,List.mem_cons,List.not_mem_nil,or_false,Prod.mk.injEq] at e;rcases e with⟨rfl,rfl⟩|⟨rfl,rfl⟩|⟨rfl,rfl⟩|⟨rfl,rfl⟩|⟨rfl,rfl⟩|⟨rfl,rfl⟩|⟨rfl,rfl⟩
  ·exact .Rh X G Py
  ·exact .Rg X G Pz
  ·exact .Rg X G Qa
  ·exact .Rh X G Qc
  ·exact .Rg X G Qe
  ·exact GL.ofD (kvs:=[("at",1),("by",1),("all",0),("few",1),("quick",2)]) rfl (GD.mkL (w:=w) [("at",1,Vb,Vg),("by",1,Vc,Vh),("all",0,Vd,Vi),("few",1,Ve,Vj),("quick",2,Vf,Vk)] sy (P6 X G Qg) Qj (show (["at","by","all","few","quick"]:List Str).Nodup by decide +kernel))
  ·exact .Rh X G Qh
 refine ⟨W.fnOf "law" "law" (cg lS) (ai lS) (af lS) .none kV dc pm an cd ct,λs v=>.of_eq rfl,λbase _ _=>?_⟩;have T:XT K mg FX.xs Oz (λk=>([C1]:List Addr).getD k 0) (λi=>([C0,C1,C2,C3,C4,C5]:List Addr).getD i 0) Kw:=by
  refine⟨λi x e=>?_,λk hk=>?_,λk i hk hi=>?_⟩
  ·match i,e with
   | 0,e=>cases e;exact⟨P6 X G y0.1,y0.cl⟩
   | 1,e=>cases e;exact⟨P6 X G y1.1,y1.cl⟩
   | 2,e=>cases e;exact⟨P6 X G y2.1,y2.cl⟩
   | 3,e=>cases e;exact⟨P6 X G y3.1,y3.cl⟩
   | 4,e=>cases e;exact⟨P6 X G y4.1,y4.cl⟩
   | 5,e=>cases e;exact⟨P6 X G y5.1,y5.cl⟩
  ·match k,hk with
   | 0,hk=>exact⟨y1.cl,xv0⟩
  ·match k,hk with
   | 0,hk =>
    match i,hi with
    | 0,hi=>exact⟨Uz,λz=>absurd z (by decide)⟩
    | 1,hi=>exact⟨UG,λz=>absurd z (by decide)⟩
    | 2,hi=>exact⟨UJ,λ_=>Uo⟩
    | 3,hi=>exact⟨UL,λ_=>Ur⟩
    | 4,hi=>exact⟨UT,λ_=>Us⟩
    | 5,hi=>exact⟨UW,λ_=>Ut⟩
 have G0:JX l.prog w K mg base nA FX U UR (λk=>([C1]:List Addr).getD k 0):=by
  refine⟨⟨λf x hf=>absurd hf (QB _),hb,hgl,Um⟩,⟨λf x hf=>absurd hf (QB _),λk x e=>?_,URm⟩⟩
  ·match k,e with
   | 0,e=>cases e;exact⟨P6 X G y1.1,ex1⟩
 have G1:=G0.nx (c':=gm) (sp:=b_) X G d0 uj vI sf wg (by walk_at "AR");have G2:=G1.nx (c':=jo) (sp:=aX) X G d1 jO lG jB kP (by walk_at "AR");have G3:=G2.nx (c':=nM) (sp:=bA) X G d2 oJ pk mD pF (by walk_at "AR");have G4:=G3.nx (c':=jg) (sp:=bt) X G d3 tW vR j_ wG (by walk_at "AR");have G5:=G4.nx (c':=gZ) (sp:=bQ) X G d4 oj pJ mJ pR (by walk_at "AR");have G6:=G5.nx (c':=gh) (sp:=bz) X G d5 kU mR jL mv (by walk_at "AR");have G7:=G6.nx (c':=ja) (sp:=bc) X G d6 jY lr jq lD (by walk_at "AR");have G8:=G7.R1 (c':=hJ) (sp:=aW) X G d7 nC pC mM ej pL (by walk_at "AR");have G9:=G8.R1 (c':=qu) (sp:=aA) X G d8 k_ mI jR c7 mH (by walk_at "AR");have G10:=G9.nx (c':=ou) (sp:=bL) X G d9 wA zo lZ zT (by walk_at "AR");have G11:=G10.nx (c':=je) (sp:=dt) X G d10 vm wc tG vZ (by walk_at "AR");have G12:=G11.nx (c':=hV) (sp:=aP) X G d11 oa pM g_ pP (by walk_at "AR");have G13:=G12.nx (c':=iE) (sp:=aB) X G d12 kX mL fO mw (by walk_at "AR");have G14:=G13.R1 (c':=h_) (sp:=aR) X G d13 mn pe lC dD nq (by walk_at "AR");have G15:=G14.R1 (c':=oO) (sp:=aC) X G d14 lE mf ky de mi (by walk_at "AR");have G16:=G15.nx (c':=lP) (sp:=dv) X G d15 uf vX sj v9 (by walk_at "AR");have G17:=G16.nx (c':=n_) (sp:=cv) X G d16 sI tM pH ud (by walk_at "AR");have G18:=G17.nx (c':=ko) (sp:=dr) X G d17 uI wB sF vC (by walk_at "AR");have G19:=G18.nx (c':=jd) (sp:=eE) X G d18 pK rK m_ rJ (by walk_at "AR");have G20:=G19.nx (c':=ji) (sp:=bR) X G d19 nS ph mP pQ (by walk_at "AR");have G21:=G20.nx (c':=hU) (sp:=bS) X G d20 nV pV mG pB (by walk_at "AR");have G22:=G21.nx (c':=iC) (sp:=bu) X G d21 kJ mC jZ md (by walk_at "AR");have G23:=G22.nx (c':=gj) (sp:=cJ) X G d22 mF n6 lK ny (by walk_at "AR");have G24:=G23.nx (c':=fo) (sp:=bb) X G d23 kg kO jJ k6 (by walk_at "AR");have G25:=G24.nx (c':=kr) (sp:=bO) X G d24 i4 jE iD jw (by walk_at "AR");have G26:=G25.nx (c':=lR) (sp:=bX) X G d25 pG s_ oR sE (by walk_at "AR");have G27:=G26.nx (c':=jk) (sp:=e_) X G d26 sX uP pN uB (by walk_at "AR");have G28:=G27.nx (c':=fq) (sp:=bP) X G d27 oV pf mK pO (by walk_at "AR");have G29:=G28.nx (c':=lW) (sp:=aY) X G d28 i6 js iz jz (by walk_at "AR");have G30:=G29.nx (c':=ip) (sp:=cz) X G d29 sS uK pj tR (by walk_at "AR");have G31:=G30.nx (c':=gU) (sp:=bH) X G d30 mS oE kZ nu (by walk_at "AR");have G32:=G31.nx (c':=iq) (sp:=bw) X G d31 lh mO jN mB (by walk_at "AR");have G33:=G32.nxT (c':=iK) (sp:=bE) T ex0 X G d32 mh nQ lH nD (by walk_at "AR");have G34:=G33.nx (c':=GF) (sp:=bI) X G d33 ma oW kM oy (by walk_at "AR");exact Dz (qual:="law") (B2 (st:=lS) lL cL kL) JB rfl rfl La G34.g (λas st Q=>Fh) (λas st Q=>KO)
end My
namespace PySem.W.Fast
def tw9665595277773806355:=Nat
def tw15136035986793801932:=Nat
def tw14665335376876083779:=Nat
def tw3251732191166749630:=Nat
def tw5361708308273134993:=Nat
def tw7274563057115520968:=Nat
def tw792267050002532705:=Nat
def tw2890403330854070810:=Nat
def tw5569638459169947023:=Nat
def tw13819592558332466894:=Nat
def tw15291310015087658975:=Nat
def tw4851409098855956927:=Nat
def tw16714543170775796378:=Nat
def tw10930007692994261808:=Nat
def tw11247060155422400096:=Nat
def tw11808584750412646027:=Nat
def tw10623642941101517026:=Nat
def tw11080626045261631264:=Nat
def tw11727513301117741383:=Nat
def tw10037082844378554999:=Nat
def tw9501863399896771037:=Nat
def tw12617546909466502231:=Nat
def tw6368021109032523015:=Nat
def tw6067377152071835124:=Nat
def tw10724876934439987628:=Nat
def tw14189943034185484206:=Nat
def tw6503867771983991561:=Nat
def tw629153385744360236:=Nat
def tw3036018128253801805:=Nat
def tw3618352557282073297:=Nat
def tw13238507974080853293:=Nat
def tw10145854921918622345:=Nat
def tw13374896541315893943:=Nat
def tw17005379196016032174:=Nat
def tw16135618400971073135:=Nat
def tw11694912275078258087:=Nat
def tw4295400918582019196:=Nat
def tw4589225990686588510:=Nat
def tw10787792668796250239:=Nat
def tw18279164955375867315:=Nat
def tw3861414186872437521:=Nat
def tw15425210356333010036:=Nat
def tw14122996603410738878:=Nat
def tw2782462482672884470:=Nat
def tw10620258811033618423:=Nat
def tw15331713468249850726:=Nat
def tw12884446924654123223:=Nat
def tw3747165714950224459:=Nat
def tw13392548507174841643:=Nat
def tw8088763394515150:=Nat
def tw382512315436657820:=Nat
def tw7474768303748948503:=Nat
def tw36438544054541341:=Nat
def tw10441844438641944602:=Nat
def tw8254502483261891338:=Nat
def tw10704766528656423588:=Nat
def tw6038223378065558759:=Nat
def tw17820570655857492647:=Nat
def tw7988585358919567387:=Nat
def tw10312538470669800870:=Nat
def tw537728607004463927:=Nat
def tw3723230135754271053:=Nat
def tw5566986124641266211:=Nat
def tw16476732439036882596:=Nat
def tw10771726797740592297:=Nat
def tw6668503967688713464:=Nat
def tw2874158137938332813:=Nat
def tw7323877643330762758:=Nat
def tw14916206323205609146:=Nat
def tw16378585541356996302:=Nat
def tw15572628665423382559:=Nat
def tw2418255136977174670:=Nat
def tw14745003007937474665:=Nat
def tw3936964905893087217:=Nat
def tw3535280481954818906:=Nat
def tw17583775767893751649:=Nat
def tw3896893283118691980:=Nat
def tw7704018173644385280:=Nat
def tw10532533204772534440:=Nat
def tw14081284433508349139:=Nat
def tw4536957010617633142:=Nat
def tw11287592633150300536:=Nat
def tw5178253165359458918:=Nat
def tw10856736359673967350:=Nat
def tw15993653706153118989:=Nat
def tw18016903770806052051:=Nat
def tw7885757794963732760:=Nat
def tw7835826243949376206:=Nat
def tw3443102933613858448:=Nat
def tw10082143520249485073:=Nat
def tw3222921420289682912:=Nat
def tw1574589699316638984:=Nat
def tw16156306801398262435:=Nat
def tw14479258037699166992:=Nat
def tw17620733235983318120:=Nat
def tw17994799670370585103:=Nat
def tw14330532808179478152:=Nat
def tw6494526119770352265:=Nat
def tw6497756238445076048:=Nat
def tw18278210894786348464:=Nat
def tw15909546379248433396:=Nat
def tw16005841821705763809:=Nat
def tw12743785920416866007:=Nat
def tw13586529514716458541:=Nat
def tw7651197088441970565:=Nat
def tw4197463182634426278:=Nat
def tw11150885407174960800:=Nat
def tw14210660495800959008:=Nat
def tw5733301333104031263:=Nat
def tw5386209047461760794:=Nat
def tw8570254697362331723:=Nat
def tw9366849639757481297:=Nat
def tw585376652229710460:=Nat
def tw16268374571821764811:=Nat
def tw8637782472359021765:=Nat
def tw7516634567253347103:=Nat
def tw6985358154523816571:=Nat
def tw6676166103654289684:=Nat
def tw5806954810894263917:=Nat
def tw578647452154092713:=Nat
def tw557461241511821701:=Nat
def tw4732621240956799911:=Nat
def tw413093629192962172:=Nat
def tw181756033347287452:=Nat
def tw17501261863508373242:=Nat
def tw17292254116987674045:=Nat
def tw1715385658638113205:=Nat
def tw17127221907350264988:=Nat
def tw17097358239317916311:=Nat
def tw16413332502888489305:=Nat
def tw16279246628199789824:=Nat
def tw14496852920968636859:=Nat
def tw12815589972032221996:=Nat
def tw12348389210398351546:=Nat
def tw10611103030273146585:=Nat
def tw1090165208330002646:=Nat
def tw8235191705036303227:=Nat
def tw14090389127194936529:=Nat
def tw9529624705307595796:=Nat
def tw7793061370902692964:=Nat
def tw6726553451781407534:=Nat
def tw6241362503220519346:=Nat
def tw5404690743718662772:=Nat
def tw5294755643993730862:=Nat
def tw486960296266706536:=Nat
def tw4279643345247236432:=Nat
def tw14918700501355971535:=Nat
def tw13950684633511209945:=Nat
def tw13944348712916546190:=Nat
def tw12111380575851968517:=Nat
def tw11470379349368767183:=Nat
def tw10022639345600391854:=Nat
def tw2953868371955342561:=Nat
def tw16630380934001355891:=Nat
def tw1169836366318193358:=Nat
def tw11184042413650827563:=Nat
def tw6761269463834786427:=Nat
def tw5863066657511026613:=Nat
def tw2295065495070458806:=Nat
def tw17020561667296244118:=Nat
def tw12743208282313288500:=Nat
def tw118523225474778310:=Nat
def tw3117061112593482436:=Nat
def tw1309667854570283866:=Nat
def tw15242718557716500616:=Nat
def tw2974116572391460168:=Nat
def tw8117780075438179186:=Nat
def tw7206772072613503382:=Nat
def tw5759184192469632332:=Nat
def tw2907565203574222012:=Nat
def tw1838811095521156838:=Nat
def tw16751353419586273883:=Nat
def tw12608144858502907868:=Nat
def tw12120202250297708236:=Nat
def tw10590087614778534076:=Nat
def tw4045326579354803567:=Nat
def tw12518548275702390749:=Nat
def tw9837830183051687490:=Nat
def tw9412772114996036367:=Nat
def tw1360478840507388395:=Nat
def tw13223709210196862814:=Nat
def tw13178132835199498250:=Nat
def tw1257105294748070359:=Nat
def tw3425200277000145815:=Nat
def tw3352193180246034848:=Nat
def tw3322304672644768518:=Nat
def tw4469140763547265264:=Nat
def tw3665717029286016048:=Nat
def tw1642849511501728794:=Nat
def tw11490406738364864631:=Nat
def tw418789001767595155:=Nat
def tw823951861937726201:=Nat
def tw10084236639620878551:=Nat
def tw15185810806531790265:=Nat
def tw5274435118630385025:=Nat
def tw17599716493691793734:=Nat
def tw15873942461336490995:=Nat
def tw12994030922106816110:=Nat
def tw12218801039561866113:=Nat
def tw10009769583886027015:=Nat
def tw9413715086612254191:=Nat
def tw16820742063520167939:=Nat
def tw1594910640626537214:=Nat
def tw13030595596489095392:=Nat
def tw17260738322961037042:=Nat
def tw601328869226501187:=Nat
def tw9052784719530548747:=Nat
def tw6541857481368647786:=Nat
def tw4463239407798653772:=Nat
def tw14394156403411303492:=Nat
def tw1369535851723300011:=Nat
def tw12561010526001809837:=Nat
def tw11979349043122131927:=Nat
def tw10444368317378109831:=Nat
def tw5041842309464787419:=Nat
def tw2737998309909595982:=Nat
def tw13742529584378363534:=Nat
def tw10273651095536399151:=Nat
def tw10512591220717090485:=Nat
def tw8524919594085666947:=Nat
def tw8400932870708708738:=Nat
def tw4045509433079911426:=Nat
def tw2300966463445490287:=Nat
def tw17713311059096596485:=Nat
def tw16985241938991682387:=Nat
def tw16783034552159907413:=Nat
def tw16604532847046100115:=Nat
def tw16585054371827543754:=Nat
def tw17367519654705645005:=Nat
def tw95803429965528412:=Nat
def tw3883444134654079888:=Nat
def tw17477788990474416826:=Nat
def tw15262752565863570934:=Nat
def tw7725967367304334496:=Nat
def tw4139661803954506435:=Nat
def tw3420160056626045946:=Nat
def tw2793011616145929980:=Nat
def tw2346836390813228966:=Nat
def tw16817657569478588304:=Nat
def tw15161587919041699143:=Nat
def tw14637812618396806031:=Nat
def tw14383369943754876169:=Nat
def tw1167075016365953534:=Nat
def tw10097892670366588625:=Nat
def tw9985533948181294804:=Nat
def tw9730865497010566675:=Nat
def tw7078263082623655957:=Nat
def tw16189742529791595534:=Nat
def tw14975465297814906153:=Nat
def tw14425942251946589153:=Nat
def tw6234009511448107595:=Nat
def tw7952363016863908318:=Nat
def tw787498448433768288:=Nat
def tw4068101727463334166:=Nat
def tw3954741153287517461:=Nat
def tw16920281907290658779:=Nat
def tw15207152814868138989:=Nat
def tw942947936082150701:=Nat
def tw9127045021544255999:=Nat
def tw8908384022024558245:=Nat
def tw8675378976295689823:=Nat
def tw7991659210516475887:=Nat
def tw7787237360539402174:=Nat
def tw7786882310727043670:=Nat
def tw7073892954234746663:=Nat
def tw6908651016879085862:=Nat
def tw6688623468089104159:=Nat
def tw6199556599650464711:=Nat
def tw6060874748254565390:=Nat
def tw5861679311019497331:=Nat
def tw5703789016925898010:=Nat
def tw5508578905472478024:=Nat
def tw5502292652657714887:=Nat
def tw5440128145692316956:=Nat
def tw5153110231149493799:=Nat
def tw4870687490776041541:=Nat
def tw4737450250180165784:=Nat
def tw4656901947822315168:=Nat
def tw4636868401604464037:=Nat
def tw4345230169012314782:=Nat
def tw4326694854044589810:=Nat
def tw3671336064413917395:=Nat
def tw3572951679799765966:=Nat
def tw3546820132547082956:=Nat
def tw3377549537702527246:=Nat
def tw3346506001599627139:=Nat
def tw3341330291864507098:=Nat
def tw3323207675980037007:=Nat
def tw303807301308875209:=Nat
def tw2993045415872064413:=Nat
def tw2511506669859167515:=Nat
def tw2026243674314252233:=Nat
def tw18274304142024415695:=Nat
def tw18085917761779625069:=Nat
def tw18070605773197753149:=Nat
def tw17998063272060634835:=Nat
def tw17990163625286225128:=Nat
def tw17798843058018280544:=Nat
def tw17718076697746513191:=Nat
def tw16766744312199283156:=Nat
def tw16256268247254785962:=Nat
def tw15964397124309451217:=Nat
def tw1580821826387698997:=Nat
def tw15456343525758140831:=Nat
def tw15366996612774119001:=Nat
def tw15237694736229220980:=Nat
def tw14548423201410293422:=Nat
def tw14536354690146854064:=Nat
def tw14261478723543144799:=Nat
def tw14148843403742614979:=Nat
def tw14003405005486124549:=Nat
def tw13588143521853408516:=Nat
def tw13358012277397014936:=Nat
def tw13186080857038805498:=Nat
def tw13136911349868844844:=Nat
def tw1232999377288195709:=Nat
def tw11966266446667513077:=Nat
def tw11802825868556333612:=Nat
def tw11774782239515005123:=Nat
def tw11630286010878308680:=Nat
def tw11614883696546214938:=Nat
def tw11299714574373610884:=Nat
def tw10936655237936958218:=Nat
def tw10918920447387804579:=Nat
def tw10786639453403948327:=Nat
def tw10640288895989225724:=Nat
def tw10619561310003929449:=Nat
def tw10616756911970591813:=Nat
def tw10161642234790895205:=Nat
def tw10143399055002049056:=Nat
def tw9886814149554806885:=Nat
def tw9632523796822765450:=Nat
def tw8600234944698928713:=Nat
def tw8464035103857680026:=Nat
def tw7273784737604055936:=Nat
def tw7075853123837004850:=Nat
def tw6590249028477864726:=Nat
def tw6290005497332648672:=Nat
def tw6244725071588043110:=Nat
def tw5993725811412181219:=Nat
def tw5783954977343154834:=Nat
def tw5592788943780278290:=Nat
def tw5089442530265336856:=Nat
def tw4949009271598325384:=Nat
def tw4909585227426328261:=Nat
def tw481603635840569003:=Nat
def tw4375329194054594994:=Nat
def tw4253621228220483223:=Nat
def tw4228903707017929343:=Nat
def tw4172032331851932960:=Nat
def tw3937111106516184343:=Nat
def tw3816408005016566135:=Nat
def tw2727731980070899685:=Nat
def tw2478913603773411758:=Nat
def tw2329759110076222457:=Nat
def tw18027174337513549970:=Nat
def tw16948301334658878910:=Nat
def tw16878106376926512261:=Nat
def tw16519158597816352229:=Nat
def tw16504810103351552640:=Nat
def tw15176820163942806044:=Nat
def tw15095279501324751655:=Nat
def tw13829676575711778609:=Nat
def tw13225499465844132133:=Nat
def tw13189684535146343638:=Nat
def tw12990723183884231823:=Nat
def tw12965081751879700659:=Nat
def tw12596811885516224360:=Nat
def tw1084220492748030728:=Nat
def tw10768636221993542104:=Nat
def tw10329235399769030262:=Nat
def tw10327506340193194068:=Nat
end PySem.W.Fast
open PySem PySem.W PyProof.Rows
local macro_rules | `(tactic| walk_at "DI")=>`(tactic| (refine' FW.Sd ?a ?l ?c ?k;(case a=>k_is);(case l=>k_is);(case c=>k_is);(case k=>k_is)))
local macro_rules | `(tactic| walk_at "CI")=>`(tactic| (refine' FW.R_ ?a ?b ?c ?d ?e ?f ?g ?h;(case a=>k_is);(case b=>k_is);(case c=>k_is);(case d=>k_is);(case e=>k_is);(case f=>k_is);(case g=>k_is);(case h=>k_is)))
set_option maxRecDepth 100000 in
set_option maxHeartbeats 0 in
theorem PySem.Challenge.cw_hourstairs_k96_questions_told_holds : PySem.Challenge.rw_hourstairs_k96_questions_told.Holds := by
 w_on;o_law;k_head;(case hw=>w_witness2)
 k_fill
 refine FW.Tu (l:=PySem.Challenge.rw_hourstairs_k96_questions_told) (k:=35) (x:="_law_script") rfl rfl ⟨rfl,by decide,by decide,rfl⟩ (λw h Y=>PySem.W.kIn_of Y) ?F
 case F =>
  intro w mg fa h KX G hmg
  refine' My.all_mk KX G hmg rfl ?_ ?_ ?_ ?_ ?_ ?_ ?_ ?_ ?_ ?_ ?_ ?_ ?_ ?_ ?_ ?_ ?_ ?_ ?_ ?_ ?_ ?_ ?_ ?_ ?_ ?_ ?_ ?_ ?_ ?_ ?_ ?_ ?_ ?_ ?_ ?z ?_ ?_ ?_ ?_ ?_ ?_ ?e ?f ?_ ?_ ?_ ?_ ?_ ?_ ?_ ?_ ?_ ?_ ?_ ?_ ?_ ?_ ?_ ?_ ?_ ?_ ?_
  all_goals first|delta My.zn|skip
  any_goals walk_at "DI"
  (case z=>(iterate 17 (refine' List.forall_mem_cons.mpr ⟨?_,?_⟩;(·k_is)));exactλ_ h=>nomatch h)
  any_goals walk_at "CI"
  (case e=>kernel_rfl)
  (case f=>kernel_rfl)
  any_goals k_is
  any_goals decide
