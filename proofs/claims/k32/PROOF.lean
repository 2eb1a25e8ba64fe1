import PyProof.Rows.All
import Wide.All
import OpenK.AllK
import Wide.FinOn
import Lean
import PyProof.EqAt
import PyProof.EqKinds
import PyProof.TupleCall
import PyProof.FactsAll.set
import PyProof.DictWalks
import PyProof.CollectWalk
import PyProof.Rows.SetFrom
import PyProof.Rows.SortWalk
import PyProof.Rows.SortStr
import PyProof.Rows.MinMaxN
import KE.LcSums
import KE.KDictSum
import PyProof.DictItems
import PyProof.DictCompW
import PyProof.NeKinds
import KE.KEqDict
import KE.KPairComp
import KE.KDictOf
import PyProof.AttrMissHeap
import PySem.Challenge.RW_hourstairs_k32_whole_stairs_let_wait
open PySem PySem.Spec PyProof.Rows
set_option Elab.async false
set_option linter.all false
set_option maxRecDepth 100000
set_option maxHeartbeats 4000000
set_option genSizeOf false
set_option compiler.extract_closed false
set_option genSizeOfSpec false
abbrev MB:=@PySem.wpAny_bind
abbrev MC:=@List.getElem?_eq_some_iff
abbrev MD:=@PySem.Heap.get?_push_of_some
abbrev ME:=@PySem.wpAny_pure
abbrev MF:=@Bool.false_ne_true
abbrev MG:=@Nat.lt_of_lt_of_le
abbrev MH:=@Classical.byContradiction
abbrev MI:=@List.mem_singleton
abbrev MJ:=@if_neg
abbrev MK:=@List.getElem?_eq_getElem
abbrev ML:=@if_pos
abbrev MM:=@Nat.le_refl
abbrev MN:=@List.getElem?_map
abbrev MP:=@List.nodup_cons
abbrev MQ:=@List.mem_of_getElem?
abbrev MR:=@Int.natCast_mul
abbrev MS:=@List.length_map
abbrev MT:=@List.mem_cons_of_mem
abbrev MU:=@PySem.Heap.lt_size
abbrev MV:=@Rat.le_refl
abbrev MW:=@List.mem_append
abbrev MX:=@PySem.Heap.get?_push_size
abbrev MY:=@List.size_toArray
abbrev MZ:=@List.mem_map
abbrev M0:=@Option.map_eq_some_iff
abbrev M1:=@List.getElem?_append_left
abbrev M2:=@Nat.ne_of_lt
abbrev M3:=@Bool.and_eq_true
abbrev M4:=@Nat.lt_of_le_of_lt
abbrev M5:=@Rat.mul_nonneg
abbrev M6:=@List.getElem?_append_right
abbrev M7:=@List.map_cons
abbrev M8:=@List.map_append
abbrev M9:=@Array.length_toList
abbrev M_:=@List.getElem?_set_self
abbrev NA:=@List.mem_cons
abbrev NB:=@Rat.le_of_lt
abbrev NC:=@Rat.mul_pos
abbrev ND:=@Array.getElem?_eq_getElem
abbrev NE:=@Option.some.inj
abbrev NF:=@List.length_append
abbrev NH:=@List.mem_cons_self
abbrev NI:=@Nat.le_trans
abbrev NJ:=@Rat.natCast_le_natCast
abbrev NK:=@List.getElem?_set_ne
abbrev NL:=@PySem.Heap.get?_update_self
abbrev NM:=@List.getElem?_of_mem
abbrev NN:=@List.getElem_mem
abbrev NO:=@decide_eq_false
abbrev NP:=@Nat.mul_pos
abbrev NQ:=@List.map_map
abbrev NR:=@Int.toNat_natCast
abbrev NT:=@List.mem_append_right
abbrev NU:=@List.drop_eq_getElem_cons
abbrev NV:=@congrArg
abbrev NW:=@decide_eq_true
abbrev NX:=@List.replicate_succ
abbrev NY:=@List.filterMap_cons
abbrev NZ:=@PySem.Heap.SameBut.update
abbrev N0:=@PySem.W.mg_none_of
abbrev N1:=@List.length_eq_zero_iff
abbrev N2:=@PySem.wpAny_holding
abbrev N3:=@List.pairwise_iff_getElem
abbrev N4:=@PySem.mem_of_lookup
abbrev N5:=@Nat.zero_le
abbrev N6:=@Nat.sub_add_cancel
abbrev N7:=@List.take_length
abbrev N8:=@PySem.F.plainAttrs_list
abbrev N9:=@Nat.pow_le_pow_right
abbrev N_:=@PyProof.Rows.callWith_type1
abbrev OA:=@Nat.le_of_lt
abbrev OB:=@PySem.Heap.get?_update_other
abbrev OC:=@List.append_assoc
abbrev OD:=@Nat.lt_trans
abbrev OE:=@Nat.lt_succ_of_lt
abbrev OF:=@PyProof.Rows.slot_tuple_getitem
abbrev OG:=@List.getElem?_take_of_lt
abbrev OH:=@List.map_nil
abbrev OI:=@PySem.Heap.size_push
abbrev OJ:=@List.flatten_cons
abbrev OL:=@PyProof.Rows.F.plain_set_update_loop
abbrev OM:=@Array.getElem?_eq_none
abbrev ON:=@Int.ofNat_le
abbrev OO:=@Nat.lt_irrefl
abbrev OP:=@List.any_cons
abbrev OR:=@PySem.W.kia_one
abbrev OS:=@List.length_take
abbrev OT:=@PySem.F.slot_tuple_iterator_next
abbrev OU:=@List.getElem?_eq_none
abbrev OV:=@List.length_set
abbrev OW:=@Nat.not_lt_zero
abbrev OX:=@Int.natCast_sub
abbrev OY:=@List.nodup_append
abbrev OZ:=@List.getLast?_concat
abbrev O0:=@List.take_succ
abbrev O1:=@Nat.ne_of_gt
abbrev O2:=@Rat.natCast_lt_natCast
abbrev O3:=@Nat.one_lt_two_pow
abbrev O4:=@List.append_nil
abbrev O5:=@List.forIn_cons
abbrev O6:=@List.all_cons
abbrev O7:=@List.set_append_right
abbrev O8:=@of_decide_eq_true
abbrev O9:=@List.mem_of_mem_take
abbrev O_:=@List.pairwise_append
abbrev PB:=@Nat.pow_lt_pow_right
abbrev PC:=@List.length_drop
abbrev PD:=@Nat.le_of_not_lt
abbrev PF:=@Nat.lt_succ_self
abbrev PH:=@Nat.zero_lt_succ
abbrev PJ:=@Nat.gcd_comm
abbrev PL:=@List.take_succ_cons
abbrev PM:=@List.mem_map_of_mem
abbrev PN:=@PySem.F.args_tuple_add_2
abbrev PP:=@List.length_filterMap_le
abbrev PQ:=@Bool.eq_iff_iff
abbrev PR:=@Bool.or_eq_true
abbrev PU:=@Rat.mul_eq_zero
abbrev PX:=@Nat.sub_le
abbrev PY:=@List.getElem?_replicate
abbrev PZ:=@PySem.F.entry_tuple_add
abbrev P0:=@List.getElem?_cons_succ
abbrev P1:=@PySem.F.slot_tuple_add
abbrev P2:=@Nat.mul_comm
abbrev P4:=@List.length_range
abbrev P5:=@List.take_of_length_le
abbrev P6:=@List.length_singleton
abbrev P7:=@List.ext_getElem
abbrev P8:=@List.cons_append
abbrev P9:=@List.prefix_refl
abbrev P_:=@List.drop_length
abbrev QA:=@Int.natCast_ediv
abbrev QB:=@List.map_drop
abbrev QC:=@List.mem_iff_getElem
abbrev QD:=@List.mem_of_mem_drop
abbrev QE:=@Nat.pow_pos
abbrev QF:=@PySem.F.slot_zip_next
abbrev QG:=@List.map_congr_left
abbrev QH:=@Nat.add_comm
abbrev QI:=@List.getElem?_drop
abbrev QJ:=@List.Perm.refl
abbrev QK:=@Nat.pos_of_ne_zero
abbrev QL:=@List.prefix_append
abbrev QM:=@List.drop_zero
abbrev QN:=@Rat.div_lt_iff
abbrev QO:=@List.pairwise_cons
abbrev QP:=@List.drop_sublist
abbrev QQ:=@Nat.le_add_right
abbrev QR:=@List.length_cons
abbrev QS:=@Nat.sub_self
abbrev QT:=@Nat.pow_succ
abbrev QU:=@Rat.not_lt
abbrev QV:=@Int.ofNat_lt
abbrev QW:=@List.mem_filter
abbrev QX:=@List.of_mem_zip
abbrev QY:=@List.nil_append
abbrev QZ:=@Int.natCast_pow
abbrev Q0:=@Nat.le_antisymm
abbrev Q1:=@Int.natCast_add
abbrev Q2:=@Rat.natCast_inj
abbrev Q3:=@Rat.natCast_mul
abbrev Q4:=@List.set_append
abbrev Q5:=@Bool.false_and
abbrev Q6:=@List.nodup_nil
abbrev Q7:=@Nat.mod_lt
abbrev Q8:=@Int.le_of_lt
abbrev Q9:=@PySem.W.kitx_list
abbrev Q_:=@PySem.W.kitx_dict
abbrev RA:=@Nat.log2_lt
abbrev RB:=@Iff.rfl
abbrev RC:=@beq_iff_eq
namespace L2
noncomputable abbrev Key:=Sum Int Str
noncomputable def Eu:Key->Value->Bool
 | .inl k,v=>Value.isInt k v
 | .inr x,v=>Value.isStrOf x v
noncomputable def J5 (w:World):Key->Int
 | .inl k=>hashInt k
 | .inr x=>hashStr w x
theorem a_:∀ {k:Key}{v:Value},Eu k v=true->(∃i t,k=Sum.inl i/\v=Value.int i t)\/(∃x t,k=Sum.inr x/\v=Value.str x t)
 | .inl i,v,h=>by
  obtain⟨t,e⟩:=Value.isInt_shape (k:=i) (v:=v) h
  exact .inl ⟨i,t,rfl,e⟩
 | .inr x,v,h=>by
  obtain⟨t,e⟩:=Value.isStrOf_shape (x:=x) (v:=v) h
  exact .inr ⟨x,t,rfl,e⟩
theorem Gd (a b:Int):decide ((Sum.inl a:Key)=Sum.inl b)=(a == b):=by
 by_cases e:a=b
 ·subst e;simp
 ·have h:¬(Sum.inl a:Key)=Sum.inl b:=fun q=>e (Sum.inl.inj q)
  rw[NO h]
  exact(beq_eq_false_iff_ne.mpr e).symm
theorem FB (a b:Str):decide ((Sum.inr a:Key)=Sum.inr b)=decide (a=b):=by
 by_cases e:a=b
 ·subst e;simp
 ·have h:¬(Sum.inr a:Key)=Sum.inr b:=fun q=>e (Sum.inr.inj q)
  rw[NO h,NO e]
theorem Gx (a:Int)(b:Str):decide ((Sum.inl a:Key)=Sum.inr b)=false:=NO (fun q=>nomatch q)
theorem Fx (a:Str)(b:Int):decide ((Sum.inr a:Key)=Sum.inl b)=false:=NO (fun q=>nomatch q)
noncomputable def sK (prog:Program)(w:World):PySem.KeyKind prog w Key where
 is:=Eu
 hash:=J5 w
 inj:=fun v a b ha hb=>by
  rcases a_ ha with⟨i,t,rfl,rfl⟩|⟨x,t,rfl,rfl⟩
  ·rcases a_ hb with⟨j,u,rfl,e⟩|⟨y,u,rfl,e⟩
   ·injection e with e1 _;rw[e1]
   ·exact nomatch e
  ·rcases a_ hb with⟨j,u,rfl,e⟩|⟨y,u,rfl,e⟩
   ·exact nomatch e
   ·injection e with e1 _;rw[e1]
 byValue:=fun k v h=>by
  rcases a_ h with⟨i,t,rfl,rfl⟩|⟨x,t,rfl,rfl⟩ <;> rfl
 pyHash:=fun hv h=>by
  rcases a_ hv with⟨i,t,rfl,rfl⟩|⟨x,t,rfl,rfl⟩
  ·exact wpAny_pyHash_int h
  ·exact wpAny_pyHash_str h
 eqBool:=fun hu hv h=>by
  rcases a_ hu with⟨i,t,rfl,rfl⟩|⟨x,t,rfl,rfl⟩
  ·rcases a_ hv with⟨j,u,rfl,rfl⟩|⟨y,u,rfl,rfl⟩
   ·rw[Gd] at h;exact wpAny_eqBool_int h
   ·rw[Gx] at h;exact SeqAt.EqAt.int_str i t y u _ _ _ _ h
  ·rcases a_ hv with⟨j,u,rfl,rfl⟩|⟨y,u,rfl,rfl⟩
   ·rw[Fx] at h;exact SeqAt.EqAt.str_int x t j u _ _ _ _ h
   ·rw[FB] at h;exact wpAny_eqBool_str h
 «strs»:=fun k x t v h=>by
  rcases a_ h with⟨i,u,rfl,e⟩|⟨y,u,rfl,e⟩
  ·exact nomatch e
  ·injection e with e1 _
   subst e1
   cases v <;> rfl
end L2
namespace L2
inductive V where
 | non|bl (b:Bool)|int (i:Int)|str (x:Str)|byt (b:Array UInt8)|flt (b:UInt64)|ref (a:Addr)|ty (n:String)
 deriving DecidableEq
noncomputable def RelV:V->Value->Prop
 | .non,u=>u=Value.none
 | .bl b,u=>u=Value.bool b
 | .int i,u=>∃t,u=Value.int i t
 | .str x,u=>∃t,u=Value.str x t
 | .byt b,u=>∃t,u=Value.bytes b t
 | .flt b,u=>∃t,u=Value.float b t
 | .ref a,u=>u=Value.ref a
 | .ty n,u=>u=Value.type n
noncomputable abbrev Vals:List V->List Value->Prop:=Paired RelV
theorem Vals.length {xs:List V}{us:List Value}(r:Vals xs us):xs.length=us.length:=Paired.length r
theorem Vals.get:∀ {xs:List V}{us:List Value}{i:Nat}{x:V},Vals xs us->xs[i]?=some x->∃u,us[i]?=some u/\RelV x u
 | _,_,_,_,.nil,e=>by simp at e
 | _,_,0,_,.cons r _,e=>by simp at e;subst e;exact⟨_,rfl,r⟩
 | _,_,i+1,x,.cons _ t,e=>by
  obtain⟨u,h1,h2⟩:=Vals.get (i:=i) (x:=x) t (by simpa using e)
  exact⟨u,by simpa using h1,h2⟩
theorem Vals.set {x:V}{u:Value}(r:RelV x u):∀ {xs:List V}{us:List Value} (i:Nat),Vals xs us->Vals (xs.set i x) (us.set i u)
 | _,_,_,.nil=>.nil
 | _,_,0,.cons _ t=>.cons r t
 | _,_,i+1,.cons q t=>.cons q (Vals.set r i t)
theorem Vals.append:∀ {xs ys:List V}{us ws:List Value},Vals xs us->Vals ys ws->Vals (xs++ys) (us++ws)
 | _,_,_,_,.nil,s=>s
 | _,_,_,_,.cons r t,s=>.cons r (Vals.append t s)
theorem Vals.take:∀ {xs:List V}{us:List Value} (n:Nat),Vals xs us->Vals (xs.take n) (us.take n)
 | _,_,0,_=>.nil
 | _,_,_+1,.nil=>.nil
 | _,_,n+1,.cons r t=>.cons r (Vals.take n t)
theorem Vals.drop:∀ {xs:List V}{us:List Value} (n:Nat),Vals xs us->Vals (xs.drop n) (us.drop n)
 | _,_,0,r=>r
 | _,_,_+1,.nil=>.nil
 | _,_,n+1,.cons _ t=>Vals.drop n t
noncomputable def F9:Option V->Option Value->Prop
 | some v,some u=>RelV v u
 | none,none=>True
 | _,_=>False
noncomputable def KV {κ:Type}:List (κ × V)->List (κ × Value)->Prop:=Paired fun (p:κ × V) (q:κ × Value)=>p.1=q.1/\RelV p.2 q.2
noncomputable def kV:Key->V
 | .inl i=>.int i
 | .inr x=>.str x
set_option genInjectivity false
inductive HO where
 | lst (xs:List V)
 | tup (xs:List V)
 | dK (kvs:List (Key × V))|dT (kvs:List (List Key × V))
 | set (S:Int->Bool) (n:Nat)
 | ins (C dx:Addr) (fs:List (Str × V))
 | own (x:Addr)
 | xd (fs:List (Str × V))
 | met (f x:Addr)
 | rng (lo hi:Int)
 | frz (o:Obj) (u:HO)
 | tbl (ps:Array Value)
 | ext (φ:Heap->Prop)
noncomputable abbrev Hp:=Addr->Option HO
noncomputable def upd (H:Hp)(a:Addr)(o:HO):Hp:=fun b=>if b=a then some o else H b
theorem bH {H:Hp}{a:Addr}{o:HO}:upd H a o a=some o:=by unfold upd;rw[ML rfl]
theorem am {H:Hp}{a b:Addr}{o:HO}(h:b≠a):upd H a o b=H b:=by unfold upd;rw[MJ h]
theorem aD {H:Hp}{a b:Addr}{o:HO}(h:H a=some o)(h':H b=none):a≠b:=by
 intro e;subst e;rw[h] at h';cases h'
section
variable (P:Program) (w:World)
noncomputable def ObjOk (H:Hp)(h:Heap)(a:Addr):HO->Prop
 | .lst xs=>xs.length<=sizeLine/\∃(its:List Value) (n:Nat),Vals xs its/\h.get? a=some { cls:=.type "list",data:=.seq its.toArray n }
 | .tup xs=>xs.length<=sizeLine/\∃its:List Value,Vals xs its/\IsTup h a its.toArray
 | .dK kvs=>kvs.length<=sizeLine/\(a == sysModules)=false/\∃vs,KV kvs vs/\h.DictOf (sK P w) a vs
 | .dT kvs=>kvs.length<=sizeLine/\(a == sysModules)=false/\∃xs:List (List Key × Addr × Value),
   Paired (fun (p:List Key × V) (q:List Key × Addr × Value)=>p.1=q.1/\H q.2.1=some (.tup (p.1.map kV))/\RelV p.2 q.2.2) kvs xs /\
   ∃o es ep,h.get? a=some o/\o.ExactDict/\o.data=.dict es ep/\es.toList=xs.map (entryOfKey (tupleKind (sK P w)))/\(xs.map (·.1)).Nodup
 | .set S n=>h.SetOf (intKind P w) a S n
 | .ins C dx fs=>H dx=some (.own a)/\fs.length<=1000/\dx≠a/\h.get? a=some (W.instObj C dx) /\
   ∃mA,h.Ns1 dx mA/\(∀f,F9 (fs.lookup f) (mA f))/\PySem.Within mA (fs.map (·.1))
 | .own _=>∃o,h.get? a=some o
 | .xd fs=>∃mA,h.Ns1 a mA/\∀f,F9 (fs.lookup f) (mA f)
 | .rng lo hi=>∃t u v,h.get? a=some { cls:=.type "range",data:=.fields #[.int lo t,.int hi u,.int 1 v] }
 | .frz o u=>h.get? a=some o/\ObjOk H h a u
 | .tbl ps=>h.get? a=some { cls:=.none,data:=.fields ps }
 | .met f x=>h.get? a=some (W.methodObj (.ref f) (.ref x))
 | .ext φ=>φ h/\(∃o,h.get? a=some o)/\∀h1 h2:Heap,φ h1->(∀o,h1.get? a=some o->h2.get? a=some o)->φ h2
def HOk (H:Hp)(h:Heap):Prop:=∀a o,H a=some o->ObjOk P w H h a o
end
section
variable {P:Program}{w:World}{H H':Hp}{h h':Heap}{a:Addr}{o:HO}
theorem ObjOk.lt (x:ObjOk P w H h a o):a<h.objs.size:=by
 cases o with
 | lst xs=>obtain⟨_,_,_,_,e⟩:=x;exact MU e
 | tup xs=>obtain⟨_,_,_,p⟩:=x;exact p.lt
 | dK kvs=>obtain⟨_,_,_,_,o,_,_,e,_⟩:=x;exact MU e
 | dT kvs=>obtain⟨_,_,_,_,o,_,_,e,_⟩:=x;exact MU e
 | set S n=>obtain⟨o,_,_,_,e,_⟩:=x;exact MU e
 | ins C dx fs=>obtain⟨_,_,_,e,_⟩:=x;exact MU e
 | own y=>obtain⟨_,e⟩:=x;exact MU e
 | xd fs=>obtain⟨_,⟨_,_,_,e,_⟩,_⟩:=x;exact MU e
 | rng lo hi=>obtain⟨_,_,_,e⟩:=x;exact MU e
 | frz ob u=>obtain⟨e,_⟩:=x;exact MU e
 | tbl ps=>exact MU (show h.get? a=some _ from x)
 | met f y=>exact MU (show h.get? a=some _ from x)
 | ext φ=>obtain⟨_,⟨_,e⟩,_⟩:=x;exact MU e
theorem Paired.mapP {α β:Type}{F G:α->β->Prop}:∀ {l₁:List α}{l₂:List β},Paired F l₁ l₂->(∀a b,F a b->G a b)->Paired G l₁ l₂
 | _,_,.nil,_=>.nil
 | _,_,.cons r t,f=>.cons (f _ _ r) (Paired.mapP t f)
theorem ObjOk.stay (x:ObjOk P w H h a o)(k:∀b u,(b=a\/H b=some (.own a))->h.get? b=some u->h'.get? b=some u)
  (ho:∀b,H b=some (.own a)->H' b=some (.own a)) (ht:∀b xs,H b=some (.tup xs)->H' b=some (.tup xs)):ObjOk P w H' h' a o:=by
 induction o with
 | lst xs=>obtain⟨z,its,n,r,e⟩:=x;exact⟨z,its,n,r,k _ _ (.inl rfl) e⟩
 | tup xs=>obtain⟨z,its,r,ob,e,c⟩:=x;exact⟨z,its,r,ob,k _ _ (.inl rfl) e,c⟩
 | dK kvs=>obtain⟨z,y,vs,r,ob,es,ep,e,c⟩:=x;exact⟨z,y,vs,r,ob,es,ep,k _ _ (.inl rfl) e,c⟩
 | dT kvs =>
  obtain⟨z,y,xs,r,ob,es,ep,e,c⟩:=x
  exact⟨z,y,xs,Paired.mapP r fun p q z=>⟨z.1,ht _ _ z.2.1,z.2.2⟩,ob,es,ep,k _ _ (.inl rfl) e,c⟩
 | set S n=>obtain⟨ob,es,ep,t,e,c⟩:=x;exact⟨ob,es,ep,t,k _ _ (.inl rfl) e,c⟩
 | ins C dx fs =>
  obtain⟨d,z,ne,e,mA,⟨od,es,ep,e2,c⟩,r⟩:=x
  exact⟨ho _ d,z,ne,k _ _ (.inl rfl) e,mA,⟨od,es,ep,k _ _ (.inr d) e2,c⟩,r⟩
 | own y=>obtain⟨ob,e⟩:=x;exact⟨ob,k _ _ (.inl rfl) e⟩
 | xd fs=>obtain⟨mA,⟨od,es,ep,e,c⟩,r⟩:=x;exact⟨mA,⟨od,es,ep,k _ _ (.inl rfl) e,c⟩,r⟩
 | rng lo hi=>obtain⟨t,u,v,e⟩:=x;exact⟨t,u,v,k _ _ (.inl rfl) e⟩
 | frz ob u ih=>obtain⟨e,q⟩:=x;exact⟨k _ _ (.inl rfl) e,ih q⟩
 | tbl ps =>
  have e:h.get? a=some { cls:=.none,data:=.fields ps }:=x
  show h'.get? a=some { cls:=.none,data:=.fields ps }
  exact k a _ (.inl rfl) e
 | met f y =>
  have e:h.get? a=some (W.methodObj (.ref f) (.ref y)):=x
  show h'.get? a=some (W.methodObj (.ref f) (.ref y))
  exact k a _ (.inl rfl) e
 | ext φ=>obtain⟨p,⟨o,e⟩,st⟩:=x;exact⟨st _ _ p fun o q=>k _ _ (.inl rfl) q,⟨o,k _ _ (.inl rfl) e⟩,st⟩
theorem HOk.lt (x:HOk P w H h)(e:H a=some o):a<h.objs.size:=(x a o e).lt
theorem HOk.fresh (x:HOk P w H h)(e:h.objs.size<=a):H a=none:=by
 cases q:H a with
 | none=>rfl
 | some u=>exact absurd (MG (x.lt q) e) (OO _)
theorem HOk.kept (x:HOk P w H h)(k:∀b u,h.get? b=some u->h'.get? b=some u):HOk P w H h':=fun a o e =>
 (x a o e).stay (fun b u _ q=>k b u q) (fun _ q=>q) fun _ _ q=>q
theorem HOk.laid (x:HOk P w H h)(k:∀b u,h.get? b=some u->h'.get? b=some u)(hp:h.objs.size<=a)(new:ObjOk P w (upd H a o) h' a o):HOk P w (upd H a o) h':=fun b u e=>by
 have hn:=x.fresh hp
 by_cases hb:b=a
 ·subst hb;rw[bH] at e;cases e;exact new
 ·rw[am hb] at e
  exact(x b u e).stay (fun c v _ q=>k c v q) (fun c q=>by rw[am (aD q hn)];exact q) fun c xs q=>by rw[am (aD q hn)];exact q
end
def Rd (H:Hp)(a:Addr)(u:HO):Prop:=H a=some u\/∃o,H a=some (.frz o u)
theorem Rd.ok {P:Program}{w:World}{H:Hp}{h:Heap}{a:Addr}{u:HO}(r:Rd H a u)(x:HOk P w H h):ObjOk P w H h a u:=by
 rcases r with r|⟨o,r⟩
 ·exact x a u r
 ·obtain⟨_,q⟩:=x a _ r
  exact q
noncomputable def Mut:Option HO->Prop
 | some (.lst _)=>True
 | some (.dK _)=>True
 | some (.dT _)=>True
 | some (.set _ _)=>True
 | some (.ins _ _ _)=>True
 | some (.ext _)=>True
 | _=>False
section
variable {P:Program}{w:World}{H:Hp}{h h':Heap}{x e:Addr}{o':HO}
theorem HOk.write (ok:HOk P w H h)(mu:Mut (H x))(he:e=x\/H e=some (.own x))(k:∀b u,b≠e->h.get? b=some u->h'.get? b=some u)(heo:∃u,h'.get? e=some u)
  (new:ObjOk P w (upd H x o') h' x o'):HOk P w (upd H x o') h':=fun b u q=>by
 have nown:∀c y,H c=some (.own y)->c≠x:=fun c y r z=>by subst z;rw[r] at mu;exact mu
 have ntup:∀c xs,H c=some (.tup xs)->c≠x:=fun c xs r z=>by subst z;rw[r] at mu;exact mu
 by_cases hb:b=x
 ·subst hb;rw[bH] at q;cases q;exact new
 ·rw[am hb] at q
  by_cases hbe:b=e
  ·have q':H b=some (.own x):=by
    rcases he with z|z
    ·exact absurd (hbe.trans z) hb
    ·rw[hbe];exact z
   rw[q] at q';cases q'
   obtain⟨v,hv⟩:=heo
   exact⟨v,by rw[hbe];exact hv⟩
  ·refine(ok b u q).stay (fun c v hc r=>k c v ?_ r) (fun c r=>by rw[am (nown c b r)];exact r) fun c xs r=>by rw[am (ntup c xs r)];exact r
   rcases hc with rfl|hc
   ·exact hbe
   ·rintro rfl
    rcases he with z|z
    ·exact nown c b hc z
    ·rw[hc] at z;cases z;exact hb rfl
end
set_option genCtorIdx false
structure Un (fs ex:List Addr)(H H':Hp)(h h':Heap):Prop where
 keep:∀b o,h.get? b=some o->H b=none->b ∉ fs->b ∉ ex->h'.get? b=some o
 slot:∀b o,h.get? b=some o->H b=none->b∈fs->b ∉ ex->∃sl,h'.get? b=some { o with slots:=sl }
 free:∀b o,h.get? b=some o->H b=none->b ∉ ex->H' b=none
 there:∀b o,h.get? b=some o->b ∉ ex->∃o',h'.get? b=some o'
 tups:∀b xs,H b=some (.tup xs)->H' b=some (.tup xs)
 frzs:∀b o u,H b=some (.frz o u)->H' b=some (.frz o u)
 tbls:∀b ps,H b=some (.tbl ps)->∃more,H' b=some (.tbl (ps++more))
section
variable {fs fs' ex ex':List Addr}{H H1 H2:Hp}{h h1 h2 h':Heap}{a x e:Addr}{o:HO}
theorem Un.any (u:Un fs ex H H1 h h1){b:Addr}{ob:Obj}(q:h.get? b=some ob)(n:H b=none)(hx:b ∉ ex):∃sl,h1.get? b=some { ob with slots:=sl }:=by
 by_cases hb:b∈fs
 ·exact u.slot b ob q n hb hx
 ·exact⟨ob.slots,u.keep b ob q n hb hx⟩
theorem Un.kept (k:∀b u,h.get? b=some u->h'.get? b=some u):Un fs ex H H h h' :=
 ⟨fun b ob q _ _ _=>k b ob q,fun b ob q _ _ _=>⟨ob.slots,k b ob q⟩,fun _ _ _ n _=>n,fun b ob q _=>⟨ob,k b ob q⟩,fun _ _ q=>q,fun _ _ _ q=>q,fun _ ps q=>⟨#[],by rw[q];simp⟩⟩
theorem Un.refl:Un fs ex H H h h:=Un.kept fun _ _ q=>q
theorem Un.laid (k:∀b u,h.get? b=some u->h'.get? b=some u)(hp:h.objs.size<=a)(hn:H a=none):Un fs ex H (upd H a o) h h' where
 keep:=fun b u q _ _ _=>k b u q
 slot:=fun b u q _ _ _=>⟨u.slots,k b u q⟩
 free:=fun b u q n _=>by rw[am (M2 (MG (MU q) hp))];exact n
 there:=fun b u q _=>⟨u,k b u q⟩
 tups:=fun b xs q=>by rw[am (aD q hn)];exact q
 frzs:=fun b u xs q=>by rw[am (aD q hn)];exact q
 tbls:=fun b ps q=>⟨#[],by rw[am (aD q hn),q];simp⟩
theorem Un.write (mu:Mut (H x))(he:e=x\/H e=some (.own x))(k:∀b u,b≠e->h.get? b=some u->h'.get? b=some u)(heo:∃u,h'.get? e=some u):Un fs ex H (upd H x o) h h':=by
 have hx:∀b,H b=none->b≠x:=fun b n z=>by subst z;rw[n] at mu;exact mu
 have hb:∀b,H b=none->b≠e:=fun b n z=>by
  subst z
  rcases he with r|r
  ·exact hx b n r
  ·rw[n] at r;cases r
 have hm:∀b u,H b=some u->¬Mut (some u)->b≠x:=fun b u q nm z=>by subst z;rw[q] at mu;exact nm mu
 refine⟨fun b u q n _ _=>k b u (hb b n) q,fun b u q n _ _=>⟨u.slots,k b u (hb b n) q⟩,fun b u q n _=>by rw[am (hx b n)];exact n,fun b u q _=>?_,
  fun b xs q=>by rw[am (hm b _ q fun z=>z)];exact q,fun b u xs q=>by rw[am (hm b _ q fun z=>z)];exact q,fun b ps q=>⟨#[],by rw[am (hm b _ q fun z=>z),q];simp⟩⟩
 by_cases hbe:b=e
 ·subst hbe;exact heo
 ·exact⟨u,k b u hbe q⟩
end
noncomputable def trk (h:Heap)(H:Hp):List Addr:=(List.range h.objs.size).filter fun a=>(H a).isSome
noncomputable def pI (h:Heap)(H:Hp):Heap:=W.hideAll h (trk h H)
theorem zj (h:Heap)(H:Hp):(pI h H).objs.size=h.objs.size:=W.hideAll_size _ _
theorem Bk {h:Heap}{H:Hp}{b:Addr}{o:Obj}(e:h.get? b=some o)(n:H b=none):(pI h H).get? b=some o :=
 W.hideAll_get _ e fun hm=>by
  have q:(H b).isSome=true:=(QW.mp hm).2
  rw[n] at q;simp at q
theorem D8 {h:Heap}{H:Hp}{b:Addr}{o:Obj}(e:(pI h H).get? b=some o):h.get? b=some o/\H b=none:=by
 have e':h.get? b=some o:=W.of_hideAll (trk h H) e
 refine⟨e',?_⟩
 cases q:H b with
 | none=>rfl
 | some x =>
  have hm:b∈trk h H:=QW.mpr ⟨List.mem_range.mpr (MU e'),by simp[q]⟩
  have z:(pI h H).get? b=none:=W.hideAll_none (trk h H) hm
  rw[z] at e;cases e
end L2
namespace L2
structure Mod (K:W.Frag)(mg:Str->Option Value)(base:Heap):Prop where
 kin:K.In base
 glob:base.Ns mainGlobals mg
 blt:∃mb,base.Ns builtinsNs mb/\∀x:Str,x≠"__name__"->mb x=bootBuiltins x
 nolimit:base.NoLimit
structure Cx where
 prog:Program
 w:World
 K:W.Frag
 mg:Str->Option Value
 base:Heap
 A:Around
 N:List Str
 s₀:Shared
 H₀:Hp
 env:Env
 outer:List Env
 stack:List Env
 ex:List Addr
 fn:Str->Bool
 calm:Bool
 pn:List (Addr × Obj)
 xe:Value->Shared->Prop
noncomputable def frs (l:List Env):List Addr:=l.filterMap (·.frame)
noncomputable abbrev Cx.fs (X:Cx):List Addr:=frs X.outer
def Vis (sc:Scope)(x:Str):Prop:=sc.names.lookup x=some .local\/sc.names.lookup x=some .cell\/sc.names.lookup x=some .free
def Loc (sc:Scope)(x:Str):Prop:=sc.names.lookup x=some .local\/sc.names.lookup x=some .cell
def JD (env:Env)(h:Heap)(m:Str->Option Value)(x:Str)(u:Value):Prop :=
 (env.kindOf x=some .local/\m x=some u)\/((env.kindOf x=some .cell\/env.kindOf x=some .free)/\∃c,env.cells.lookup x=some c/\h.IsCell c (some u))
structure Cx.Ok (X:Cx):Prop where
 mod:Mod X.K X.mg X.base
 kind:X.env.scope.kind=.function
 glob:X.env.globals=mainGlobals
 blt:X.env.builtins=builtinsNs
 above:X.s₀.heap.objs.size<=X.env.locals
 inj:∀x y c,X.env.cells.lookup x=some c->X.env.cells.lookup y=some c->x=y
 has:∀x,(X.env.kindOf x=some .cell\/X.env.kindOf x=some .free)->∃c,X.env.cells.lookup x=some c
 cab:∀x c,X.fn x=true->X.env.cells.lookup x=some c->X.s₀.heap.objs.size<=c
 hd:X.calm=true->X.A.handled=none
 frames:X.A.frames=some X.stack
 stk:X.stack=X.outer\/(X.stack=X.env::X.outer/\X.env.frame=some X.env.locals)
 exf:∀b∈X.ex,b≠X.env.locals/\∀x c,X.env.cells.lookup x=some c->c≠b
 bs:∀b o,X.base.get? b=some o->X.s₀.heap.get? b=some o/\X.H₀ b=none
 bsz:X.base.objs.size<=X.s₀.heap.objs.size
 noex:∀b o,X.base.get? b=some o->b ∉ X.ex
 exfs:∀b∈X.ex,b ∉ X.fs
 funs:X.s₀.heap.FunFrames X.base X.outer
 frf:∀b∈X.fs,X.H₀ b=none
structure Inv (X:Cx)(pins:List (Addr × Obj))(σ:List (Option V))(H:Hp)(s:Shared):Prop where
 ok:X.Ok
 os:s.os=X.s₀.os
 bare:AllBare s.gens
 base:Un X.fs X.ex X.H₀ H X.s₀.heap s.heap
 loc:∃m,s.heap.Ns X.env.locals m/\∀(i:Nat) (x:Str) (v:V),X.N[i]?=some x->σ[i]?=some (some v)->Vis X.env.scope x->∃u,RelV v u/\JD X.env s.heap m x u
 cell:∀x c,X.env.cells.lookup x=some c->∃v,s.heap.IsCell c v
 free:H X.env.locals=none
 freeC:∀x c,X.env.cells.lookup x=some c->H c=none
 pin:∀p∈X.pn++pins,s.heap.get? p.1=some p.2/\H p.1=none/\p.1≠X.env.locals/\p.1 ∉ X.fs/\∀v,p.2.data≠.cell v
 hok:HOk X.prog X.w H s.heap
 len:σ.length=X.N.length
section
variable {X:Cx}{pins:List (Addr × Obj)}{σ:List (Option V)}{H H':Hp}{s:Shared}{h':Heap}
theorem Cx.Ok.nofr (ok:X.Ok){b:Addr}{o:Obj}(e:X.base.get? b=some o):b ∉ X.fs:=fun hb=>by
 have:=(ok.funs.mem hb).1
 rw[e] at this;cases this
theorem Inv.bs (I:Inv X pins σ H s):∀b o,X.base.get? b=some o->s.heap.get? b=some o/\H b=none:=fun b o e =>
 ⟨I.base.keep b o (I.ok.bs b o e).1 (I.ok.bs b o e).2 (I.ok.nofr e) (I.ok.noex b o e),I.base.free b o (I.ok.bs b o e).1 (I.ok.bs b o e).2 (I.ok.noex b o e)⟩
theorem Inv.bk (I:Inv X pins σ H s):∀b o,X.base.get? b=some o->s.heap.get? b=some o:=fun b o e=>(I.bs b o e).1
theorem Inv.mod (I:Inv X pins σ H s):Mod X.K X.mg X.base:=I.ok.mod
theorem Inv.kIn (I:Inv X pins σ H s):X.K.In s.heap:=I.ok.mod.kin.keeps I.bk
theorem Inv.lt (I:Inv X pins σ H s):X.env.locals<s.heap.objs.size:=let ⟨_,hn,_⟩:=I.loc;hn.lt
theorem Inv.sz (I:Inv X pins σ H s):X.s₀.heap.objs.size<=s.heap.objs.size:=NI I.ok.above (OA I.lt)
theorem Inv.nofs (I:Inv X pins σ H s){a:Addr}(h:s.heap.objs.size<=a):a ∉ X.fs:=fun hb=>by
 obtain⟨_,o,ho,_⟩:=I.ok.funs.mem hb
 exact absurd (MG (MU ho) (NI I.sz h)) (OO _)
theorem Inv.cne (I:Inv X pins σ H s):∀x c,X.env.cells.lookup x=some c->c≠X.env.locals:=fun x c e z=>by
 obtain⟨v,o,ho,hd⟩:=I.cell x c e
 obtain⟨m,⟨o',es,ep,ho',hd',_⟩,_⟩:=I.loc
 rw[z,ho'] at ho;cases ho;rw[hd'] at hd;cases hd
theorem Inv.funs (I:Inv X pins σ H s):s.heap.FunFrames X.base X.outer:=by
 have all:∀(l:List Env),(∀b∈frs l,b∈X.fs)->X.s₀.heap.FunFrames X.base l->s.heap.FunFrames X.base l:=by
  intro l
  induction l with
  | nil=>intro _ _;trivial
  | cons env r ih =>
   intro hs hl
   obtain⟨hk,⟨L,o,hf,hn,ho,hd⟩,hr⟩:=hl
   have hL:L∈X.fs:=hs L (by unfold frs;rw[NY,hf];exact NH)
   obtain⟨sl,e⟩:=I.base.slot L o ho (I.ok.frf L hL) hL fun z=>I.ok.exfs L z hL
   exact⟨hk,⟨L,_,hf,hn,e,hd⟩,ih (fun b hb=>hs b (by unfold frs;rw[NY,hf];exact MT _ hb)) hr⟩
 exact all X.outer (fun _ hb=>hb) I.ok.funs
theorem Inv.stack (I:Inv X pins σ H s):s.heap.FunFrames X.base X.stack:=by
 rcases I.ok.stk with e|⟨e,hf⟩
 ·rw[e];exact I.funs
 ·rw[e]
  obtain⟨m,hn,_⟩:=I.loc
  refine .cons (by rw[I.ok.kind];decide) hf hn ?_ I.funs
  exact Heap.get?_none_of_le (NI I.ok.bsz I.ok.above)
theorem Inv.stkSub (I:Inv X pins σ H s):∀b∈frs X.stack,b∈X.env.locals::X.fs:=fun b hb=>by
 rcases I.ok.stk with e|⟨e,hf⟩
 ·rw[e] at hb;exact MT _ hb
 ·rw[e] at hb
  unfold frs at hb
  rw[NY,hf] at hb
  exact hb
theorem Inv.stkFree (I:Inv X pins σ H s):∀b∈frs X.stack,H b=none:=fun b hb=>by
 rcases NA.mp (I.stkSub b hb) with e|hb
 ·rw[e];exact I.free
 ·obtain⟨_,o,ho,_⟩:=I.ok.funs.mem hb
  exact I.base.free b o ho (I.ok.frf b hb) fun z=>I.ok.exfs b z hb
theorem Inv.step {g':Array GenState}{t':Nat}{d':Drawn}{ch:List Addr}(I:Inv X pins σ H s)
  (hch:∀b∈ch,(b∈X.ex\/X.s₀.heap.objs.size<=b)/\b≠X.env.locals/\(∀x c,X.env.cells.lookup x=some c->c≠b)/\∀p∈X.pn++pins,p.1≠b)
  (keep:∀b o,b≠X.env.locals->b ∉ X.fs->b ∉ ch->s.heap.get? b=some o->H b=none->h'.get? b=some o)
  (slot:∀b o,b≠X.env.locals->b∈X.fs->b ∉ ch->s.heap.get? b=some o->H b=none->∃sl,h'.get? b=some { o with slots:=sl }) (free:∀b o,b ∉ ch->s.heap.get? b=some o->H b=none->H' b=none)
  (there:∀b o,b ∉ ch->s.heap.get? b=some o->∃o',h'.get? b=some o')
  (tups:∀b xs,H b=some (.tup xs)->H' b=some (.tup xs)) (frzs:∀b o u,H b=some (.frz o u)->H' b=some (.frz o u)) (tbls:∀b ps,H b=some (.tbl ps)->∃more,H' b=some (.tbl (ps++more)))
  (ns:∀m,s.heap.Ns X.env.locals m->h'.Ns X.env.locals m) (hok:HOk X.prog X.w H' h') (hg:AllBare g') :
  Inv X pins σ H' { s with heap:=h',gens:=g',drawn:=d',toks:=t' }:=by
 have neL:∀b o,X.s₀.heap.get? b=some o->b≠X.env.locals:=fun b o e=>M2 (MG (MU e) I.ok.above)
 have neC:∀b o,X.s₀.heap.get? b=some o->b ∉ X.ex->b ∉ ch:=fun b o e hx hb=>by
  rcases (hch b hb).1 with z|z
  ·exact hx z
  ·exact absurd (MG (MU e) z) (OO _)
 have cellK:∀x c,X.env.cells.lookup x=some c->∀v,s.heap.IsCell c v->h'.IsCell c v:=fun x c e v ⟨o,ho,hd⟩=>by
  have nch:c ∉ ch:=fun z=>(hch c z).2.2.1 x c e rfl
  by_cases hc:c∈X.fs
  ·obtain⟨sl,q⟩:=slot c o (I.cne x c e) hc nch ho (I.freeC x c e)
   exact⟨_,q,hd⟩
  ·exact⟨o,keep c o (I.cne x c e) hc nch ho (I.freeC x c e),hd⟩
 refine⟨I.ok,I.os,hg,⟨fun b o e n hb hx=>?_,fun b o e n hb hx=>?_,fun b o e n hx=>?_,fun b o e hx=>?_,fun b xs e=>tups b xs (I.base.tups b xs e),fun b o xs e=>frzs b o xs (I.base.frzs b o xs e),fun b ps e=>?_⟩,?_,fun x c e=>?_,?_,fun x c e=>?_,fun p hp=>?_,hok,I.len⟩
 ·exact keep b o (neL b o e) hb (neC b o e hx) (I.base.keep b o e n hb hx) (I.base.free b o e n hx)
 ·obtain⟨sl,e1⟩:=I.base.slot b o e n hb hx
  obtain⟨sl',e2⟩:=slot b _ (neL b o e) hb (neC b o e hx) e1 (I.base.free b o e n hx)
  exact⟨sl',e2⟩
 ·obtain⟨o',e1⟩:=I.base.there b o e hx
  exact free b o' (neC b o e hx) e1 (I.base.free b o e n hx)
 ·obtain⟨o',e1⟩:=I.base.there b o e hx
  exact there b o' (neC b o e hx) e1
 ·obtain⟨m1,e1⟩:=I.base.tbls b ps e
  obtain⟨m2,e2⟩:=tbls b _ e1
  exact⟨m1++m2,by rw[e2,Array.append_assoc]⟩
 ·obtain⟨m,hn,hl⟩:=I.loc
  refine⟨m,ns m hn,fun i x v e1 e2 e3=>?_⟩
  obtain⟨u,r,l⟩:=hl i x v e1 e2 e3
  refine⟨u,r,?_⟩
  rcases l with l|⟨k,c,e,z⟩
  ·exact .inl l
  ·exact .inr ⟨k,c,e,cellK x c e _ z⟩
 ·obtain⟨v,z⟩:=I.cell x c e
  exact⟨v,cellK x c e v z⟩
 ·obtain⟨m,⟨o,_,_,ho,_⟩,_⟩:=I.loc
  exact free _ o (fun z=>(hch _ z).2.1 rfl) ho I.free
 ·obtain⟨v,o,ho,hd⟩:=I.cell x c e
  exact free c o (fun z=>(hch c z).2.2.1 x c e rfl) ho (I.freeC x c e)
 ·obtain⟨e,n,ne,nf,d⟩:=I.pin p hp
  have nch:p.1 ∉ ch:=fun z=>(hch p.1 z).2.2.2 p hp rfl
  exact⟨keep p.1 p.2 ne nf nch e n,free p.1 p.2 nch e n,ne,nf,d⟩
theorem Inv.un {t':Nat}(I:Inv X pins σ H s)(u:Un X.fs [] H H' s.heap h')(hok:HOk X.prog X.w H' h'):Inv X pins σ H' { s with heap:=h',toks:=t' }:=by
 obtain⟨m,⟨o,es,ep,ho,r⟩,_⟩:=id I.loc
 obtain⟨sl,hL⟩:=u.any ho I.free (by simp)
 exact I.step (g':=s.gens) (d':=s.drawn) (ch:=[]) (fun _ z=>nomatch z) (fun b o _ hb _ e n=>u.keep b o e n hb (by simp)) (fun b o _ hb _ e n=>u.slot b o e n hb (by simp)) (fun b o _ e n=>u.free b o e n (by simp)) (fun b o _ e=>u.there b o e (by simp)) u.tups u.frzs u.tbls (fun m' hm=>by
  obtain⟨o',es',ep',ho',r'⟩:=hm
  rw[ho] at ho';cases ho'
  exact⟨_,es',ep',hL,r'⟩) hok I.bare
theorem Inv.call {g':Array GenState}{t':Nat}{d':Drawn}{ch:List Addr}(I:Inv X pins σ H s)(u:Un (frs X.stack) ch H H' s.heap h')(hok:HOk X.prog X.w H' h')(hg:AllBare g')
  (hch:∀b∈ch,(b∈X.ex\/X.s₀.heap.objs.size<=b)/\b≠X.env.locals/\(∀x c,X.env.cells.lookup x=some c->c≠b)/\∀p∈X.pn++pins,p.1≠b) :
  Inv X pins σ H' { s with heap:=h',gens:=g',drawn:=d',toks:=t' }:=by
 obtain⟨m,⟨o,es,ep,ho,r⟩,_⟩:=id I.loc
 obtain⟨sl,hL⟩:=u.any ho I.free fun z=>(hch _ z).2.1 rfl
 exact I.step (ch:=ch) hch (fun b o hL hb hc e n=>u.keep b o e n (fun z=>(NA.mp (I.stkSub b z)).elim hL hb) hc) (fun b o _ _ hc e n=>u.any e n hc) (fun b o hc e n=>u.free b o e n hc) (fun b o hc e=>u.there b o e hc) u.tups u.frzs u.tbls (fun m' hm=>by
  obtain⟨o',es',ep',ho',r'⟩:=hm
  rw[ho] at ho';cases ho'
  exact⟨_,es',ep',hL,r'⟩) hok hg
theorem Inv.turned {t':Nat}{it:Addr}(I:Inv X pins σ H s)(k:∀b o,b≠it->s.heap.get? b=some o->h'.get? b=some o)(hn:H it=none)(hL:it≠X.env.locals)
  (h1:it∈X.ex\/X.s₀.heap.objs.size<=it) (h2:∀x c,X.env.cells.lookup x=some c->c≠it) (h3:∀p∈X.pn++pins,p.1≠it):Inv X pins σ H { s with heap:=h',toks:=t' }:=by
 have nit:∀b u,H b=some u->b≠it:=fun b u e z=>by rw[z,hn] at e;cases e
 refine I.step (g':=s.gens) (d':=s.drawn) (ch:=[it]) (fun b hb=>?_) (fun b o _ _ hc e _=>k b o (fun z=>hc (by simp[z])) e) (fun b o _ _ hc e _=>⟨o.slots,k b o (fun z=>hc (by simp[z])) e⟩) (fun _ _ _ _ n=>n)
  (fun b o hc e=>⟨o,k b o (fun z=>hc (by simp[z])) e⟩) (fun _ _ e=>e) (fun _ _ _ e=>e) (fun b ps e=>⟨#[],by rw[e];simp⟩) (fun m hm=>?_) (fun b u e=>?_) I.bare
 ·have e:b=it:=by simpa using hb
  subst e
  exact⟨h1,hL,h2,h3⟩
 ·obtain⟨o,es,ep,ho,r⟩:=hm
  exact⟨o,es,ep,k _ o (Ne.symm hL) ho,r⟩
 ·refine(I.hok b u e).stay (fun c v hc q=>k c v ?_ q) (fun _ q=>q) fun _ _ q=>q
  rcases hc with z|z
  ·rw[z];exact nit b u e
  ·exact nit c _ z
theorem Inv.tok (I:Inv X pins σ H s)(t:Nat):Inv X pins σ H { s with toks:=t }:=I.un (h':=s.heap) (t':=t) Un.refl I.hok
theorem Inv.kept {t':Nat}(I:Inv X pins σ H s)(k:∀b u,s.heap.get? b=some u->h'.get? b=some u):Inv X pins σ H { s with heap:=h',toks:=t' }:=I.un (Un.kept k) (I.hok.kept k)
theorem Inv.laid {a:Addr}{o:HO}{t':Nat}(I:Inv X pins σ H s)(k:∀b u,s.heap.get? b=some u->h'.get? b=some u)(hp:s.heap.objs.size<=a)(new:ObjOk X.prog X.w (upd H a o) h' a o) :
  Inv X pins σ (upd H a o) { s with heap:=h',toks:=t' }:=I.un (Un.laid k hp (I.hok.fresh hp)) (I.hok.laid k hp new)
theorem Inv.write {x e:Addr}{o:HO}{t':Nat}(I:Inv X pins σ H s)(mu:Mut (H x))(he:e=x\/H e=some (.own x))(k:∀b u,b≠e->s.heap.get? b=some u->h'.get? b=some u)(heo:∃u,h'.get? e=some u)
  (new:ObjOk X.prog X.w (upd H x o) h' x o):Inv X pins σ (upd H x o) { s with heap:=h',toks:=t' }:=I.un (Un.write mu he k heo) (I.hok.write mu he k heo new)
theorem Inv.pins_of {pins':List (Addr × Obj)}(I:Inv X pins σ H s)(h:∀p∈pins',s.heap.get? p.1=some p.2/\H p.1=none/\p.1≠X.env.locals/\p.1 ∉ X.fs/\∀v,p.2.data≠.cell v):Inv X pins' σ H s :=
 ⟨I.ok,I.os,I.bare,I.base,I.loc,I.cell,I.free,I.freeC,fun p hp=>(MW.mp hp).elim (fun z=>I.pin p (List.mem_append_left _ z)) (h p),I.hok,I.len⟩
theorem vm {N:List Str}(hN:N.Nodup){i j:Nat}{x:Str}(a:N[i]?=some x)(b:N[j]?=some x):i=j:=by
 obtain⟨h1,e1⟩:=MC.mp a
 obtain⟨h2,e2⟩:=MC.mp b
 exact(List.getElem_inj hN).mp (e1.trans e2.symm)
theorem rl {M:Model}{A:Around}{E:Value->Shared->Prop}{i:Nat}{x:Str}{v:V}{u:Value}{Q:Unit->Shared->Prop}(I:Inv X pins σ H s)(hN:X.N.Nodup)(hi:X.N[i]?=some x)(hx:Loc X.env.scope x)(r:RelV v u)
  (h:∀s',Inv X pins (σ.set i (some v)) H s'->(∃a,Heap.SameBut a s.heap s'.heap/\(a=X.env.locals\/X.env.cells.lookup x=some a))->Q () s') (hf:X.fn x=true\/X.env.scope.names.lookup x=some .local:=by first|exact .inl rfl|exact .inr rfl|assumption):wpAny M A (storeName X.env x u) Q E s:=by
 obtain⟨m,hn,hl⟩:=id I.loc
 have hcls:(X.env.scope.kind == .class || (X.env.scope.kind == .module && X.env.locals != X.env.globals))=false:=by rw[I.ok.kind];rfl
 have hiσ:i<σ.length:=by rw[I.len];exact(MC.mp hi).1
 have cne:=I.cne
 have tracked:∀ {a:Addr}{h':Heap},(∃o,s.heap.get? a=some o/\H a=none)->Heap.SameBut a s.heap h'->HOk X.prog X.w H h':=fun {a h'} ha hs b ob e=>by
  obtain⟨_,_,hfree⟩:=ha
  refine(I.hok b ob e).stay (fun c w' hc q=>(hs.2 c ?_).trans q) (fun _ q=>q) fun _ _ q=>q
  rintro rfl
  rcases hc with rfl|hc
  ·rw[hfree] at e;cases e
  ·rw[hfree] at hc;cases hc
 rcases hx with hk|hk
 ·refine wpAny_storeName_local hk hn (fun h' hn' hs=>?_) hcls
  obtain⟨oL,_,_,hoL,_⟩:=id hn
  refine h _ ⟨I.ok,I.os,I.bare,⟨fun b o e n hb hx=>?_,fun b o e n hb hx=>?_,I.base.free,fun b o e hx=>?_,I.base.tups,I.base.frzs,I.base.tbls⟩,⟨_,hn',fun j y v' e1 e2 e3=>?_⟩,fun y c e=>?_,I.free,I.freeC,fun p hp=>?_,tracked ⟨oL,hoL,I.free⟩ hs,by simpa using I.len⟩ ⟨_,hs,.inl rfl⟩
  ·exact(hs.2 b (M2 (MG (MU e) I.ok.above))).trans (I.base.keep b o e n hb hx)
  ·obtain⟨sl,e1⟩:=I.base.slot b o e n hb hx
   exact⟨sl,(hs.2 b (M2 (MG (MU e) I.ok.above))).trans e1⟩
  ·obtain⟨o',e1⟩:=I.base.there b o e hx
   exact⟨o',(hs.2 b (M2 (MG (MU e) I.ok.above))).trans e1⟩
  ·by_cases hj:j=i
   ·subst hj
    rw[hi] at e1;cases e1
    rw[M_ hiσ] at e2
    cases e2
    exact⟨u,r,.inl ⟨hk,by simp⟩⟩
   ·rw[NK (Ne.symm hj)] at e2
    obtain⟨u',r',q⟩:=hl j y v' e1 e2 e3
    refine⟨u',r',?_⟩
    rcases q with⟨k,e⟩|⟨k,c,e,z⟩
    ·refine .inl ⟨k,?_⟩
     have:y≠x:=fun e=>hj (vm hN e1 (e ▸ hi))
     simp[this,e]
    ·exact .inr ⟨k,c,e,z.sameBut hs (cne y c e)⟩
  ·obtain⟨w',z⟩:=I.cell y c e
   exact⟨w',z.sameBut hs (cne y c e)⟩
  ·obtain⟨e,n,ne,nf,d⟩:=I.pin p hp
   exact⟨(hs.2 p.1 ne).trans e,n,ne,nf,d⟩
 ·have hfn:X.fn x=true:=by
   rcases hf with z|z
   ·exact z
   ·rw[z] at hk;cases hk
  obtain⟨c,hc⟩:=I.ok.has x (.inl hk)
  obtain⟨w',z⟩:=I.cell x c hc
  refine wpAny_storeName_cell I.ok.kind hk hc z (fun h' hc' hs=>?_)
  obtain⟨oc,hoc,hocd⟩:=id z
  refine h { s with heap:=h' } ⟨I.ok,I.os,I.bare,⟨fun b o e n hb hx=>?_,fun b o e n hb hx=>?_,I.base.free,fun b o e hx=>?_,I.base.tups,I.base.frzs,I.base.tbls⟩,⟨m,hn.sameBut hs (Ne.symm (cne x c hc)),fun j y v' e1 e2 e3=>?_⟩,fun y c' e=>?_,I.free,I.freeC,fun p hp=>?_,tracked ⟨oc,hoc,I.freeC x c hc⟩ hs,by simpa using I.len⟩ ⟨c,hs,.inr hc⟩
  ·exact(hs.2 b (M2 (MG (MU e) (I.ok.cab x c hfn hc)))).trans (I.base.keep b o e n hb hx)
  ·obtain⟨sl,e1⟩:=I.base.slot b o e n hb hx
   exact⟨sl,(hs.2 b (M2 (MG (MU e) (I.ok.cab x c hfn hc)))).trans e1⟩
  ·obtain⟨o',e1⟩:=I.base.there b o e hx
   exact⟨o',(hs.2 b (M2 (MG (MU e) (I.ok.cab x c hfn hc)))).trans e1⟩
  ·by_cases hj:j=i
   ·subst hj
    rw[hi] at e1;cases e1
    rw[M_ hiσ] at e2
    cases e2
    exact⟨u,r,.inr ⟨.inl hk,c,hc,hc'⟩⟩
   ·rw[NK (Ne.symm hj)] at e2
    obtain⟨u',r',q⟩:=hl j y v' e1 e2 e3
    refine⟨u',r',?_⟩
    rcases q with q|⟨k,c',e,z'⟩
    ·exact .inl q
    ·refine .inr ⟨k,c',e,z'.sameBut hs ?_⟩
     rintro rfl
     exact hj (vm hN e1 (I.ok.inj _ _ _ e hc ▸ hi))
  ·by_cases hcc:c'=c
   ·subst hcc;exact⟨_,hc'⟩
   ·obtain⟨w2,z2⟩:=I.cell y c' e
    exact⟨w2,z2.sameBut hs hcc⟩
  ·obtain⟨e,n,ne,nf,d⟩:=I.pin p hp
   refine⟨(hs.2 p.1 ?_).trans e,n,ne,nf,d⟩
   intro q
   rw[q,hoc] at e
   have q':oc=p.2:=NE e
   exact d w' (by rw[<-q'];exact hocd)
theorem eQ {M:Model}{A:Around}{E:Value->Shared->Prop}{i:Nat}{x:Str}{v:V}{u:Value}{Q:Unit->Shared->Prop}(I:Inv X pins σ H s)(hN:X.N.Nodup)(hi:X.N[i]?=some x)(hx:Loc X.env.scope x)(r:RelV v u)
  (h:∀s',Inv X pins (σ.set i (some v)) H s'->Q () s') (hf:X.fn x=true\/X.env.scope.names.lookup x=some .local:=by first|exact .inl rfl|exact .inr rfl|assumption):wpAny M A (storeName X.env x u) Q E s :=
 rl I hN hi hx r (fun s' I' _=>h s' I') hf
theorem Inv.call' {s':Shared}{ch:List Addr}(I:Inv X pins σ H s)(ho:s'.os=s.os)(u:Un (frs X.stack) ch H H' s.heap s'.heap)(hok:HOk X.prog X.w H' s'.heap)(hg:AllBare s'.gens)
  (hch:∀b∈ch,(b∈X.ex\/X.s₀.heap.objs.size<=b)/\b≠X.env.locals/\(∀x c,X.env.cells.lookup x=some c->c≠b)/\∀p∈X.pn++pins,p.1≠b):Inv X pins σ H' s':=by
 obtain⟨h',g',d',t',o'⟩:=s'
 have e:o'=s.os:=ho
 subst e
 exact I.call (g':=g') (t':=t') (d':=d') u hok hg hch
end
noncomputable abbrev XK:=Value->Option Addr->Hp->Prop
noncomputable abbrev St:=List (Option V)
noncomputable abbrev VK:=V->Hp->Prop
noncomputable abbrev TE:=St->Hp->VK->Prop
noncomputable abbrev TT:=St->Hp->(Bool->Hp->Prop)->Prop
noncomputable abbrev TA:=St->Hp->(List V->Hp->Prop)->Prop
structure Ends where
 nx:St->Hp->Prop
 rt:VK
 bk:St->Hp->Prop:=fun _ _=>False
 ct:St->Hp->Prop:=fun _ _=>False
noncomputable abbrev TS:=Ends->St->Hp->Prop
def EP (X:Cx)(pins:List (Addr × Obj))(σ:St)(Q:VK)(u:Value)(s':Shared):Prop:=∃v H',Inv X pins σ H' s'/\RelV v u/\Q v H'
def TP (X:Cx)(pins:List (Addr × Obj))(σ:St)(Q:Bool->Hp->Prop)(b:Bool)(s':Shared):Prop:=∃H',Inv X pins σ H' s'/\Q b H'
def AP (X:Cx)(pins:List (Addr × Obj))(σ:St)(Q:List V->Hp->Prop)(us:List Value)(s':Shared):Prop:=∃vs H',Inv X pins σ H' s'/\Vals vs us/\Q vs H'
def SP (X:Cx)(pins:List (Addr × Obj))(D:Ends)(f:Flow)(s':Shared):Prop :=
 match f with
 | .next=>∃σ' H',Inv X pins σ' H' s'/\D.nx σ' H'
 | .brk=>∃σ' H',Inv X pins σ' H' s'/\D.bk σ' H'
 | .cont=>∃σ' H',Inv X pins σ' H' s'/\D.ct σ' H'
 | .ret u=>∃v σ' H',Inv X pins σ' H' s'/\RelV v u/\D.rt v H'
def PE (X:Cx)(e:Expr)(t:TE):Prop :=
 ∀(pins:List (Addr × Obj)) (s:Shared) (σ:St) (H:Hp) (Q:VK),Inv X pins σ H s->t σ H Q->wpAny (model X.prog X.w) X.A (eval e X.env) (EP X pins σ Q) X.xe s
def PT (X:Cx)(e:Expr)(t:TT):Prop :=
 ∀(pins:List (Addr × Obj)) (s:Shared) (σ:St) (H:Hp) (Q:Bool->Hp->Prop),Inv X pins σ H s->t σ H Q->wpAny (model X.prog X.w) X.A (isTrue e X.env (eval e X.env)) (TP X pins σ Q) X.xe s
def PW (X:Cx)(e:Expr)(t:TT):Prop :=
 ∀(whole:Sem Value) (pins:List (Addr × Obj)) (s:Shared) (σ:St) (H:Hp) (Q:Bool->Hp->Prop),Inv X pins σ H s->t σ H Q->wpAny (model X.prog X.w) X.A (isTrue e X.env whole) (TP X pins σ Q) X.xe s
theorem PW.pt {X:Cx}{e:Expr}{t:TT}(h:PW X e t):PT X e t:=h _
def PA (X:Cx)(es:List Expr)(t:TA):Prop :=
 ∀(pos:Pos) (pins:List (Addr × Obj)) (s:Shared) (σ:St) (H:Hp) (Q:List V->Hp->Prop),Inv X pins σ H s->t σ H Q->wpAny (model X.prog X.w) X.A (spliced (backTo pos (starEach es X.env))) (AP X pins σ Q) X.xe s
def PS (X:Cx)(st:Stmt)(t:TS):Prop :=
 ∀(pins:List (Addr × Obj)) (s:Shared) (σ:St) (H:Hp) (D:Ends),Inv X pins σ H s->t D σ H->wpAny (model X.prog X.w) X.A (exec st X.env) (SP X pins D) X.xe s
def PSs (X:Cx)(st:List Stmt)(t:TS):Prop :=
 ∀(pins:List (Addr × Obj)) (s:Shared) (σ:St) (H:Hp) (D:Ends),Inv X pins σ H s->t D σ H->wpAny (model X.prog X.w) X.A (execs st X.env) (SP X pins D) X.xe s
theorem thn {α:Type}{t:Sem α}{Q Q':α->Shared->Prop}{M:Model}{A:Around}{E:Value->Shared->Prop}{s:Shared}(h:wpAny M A t Q E s)(hQ:∀a s,Q a s->Q' a s):wpAny M A t Q' E s:=wpAny_mono h hQ fun _ _ x=>x
end L2
namespace L2
section
variable {X:Cx}
noncomputable def J8 (i:Nat):TE:=fun σ H Q=>∃v,σ[i]?=some (some v)/\Q v H
noncomputable def tC (v:V):TE:=fun _ H Q=>Q v H
theorem FI {i:Nat}{x:Str}{pos:Pos}(hN:X.N[i]?=some x)(hv:Vis X.env.scope x)(hd:(x == ("__debug__":Str))=false:=by decide)(hcd:(x == ("__classdict__":Str))=false:=by decide):PE X (.Name x pos) (J8 i):=by
 intro pins s σ H Q I h
 obtain⟨v,e,h⟩:=h
 obtain⟨m,hn,hl⟩:=I.loc
 obtain⟨u,r,l⟩:=hl i x v hN e hv
 have fin:EP X pins σ Q u s:=⟨v,H,I,r,h⟩
 rcases l with⟨hk,hm⟩|⟨hk,c,hc,hcell⟩
 ·exact wpAny_Name (wpAny_loadName_local I.ok.kind hk hn hm fin) hd
 ·rcases hk with hk|hk
  ·exact wpAny_Name (wpAny_loadName_cell I.ok.kind hk hc hcell fin) hd
  ·exact wpAny_Name (wpAny_loadName_free I.ok.kind hk hc hcell fin hcd) hd
theorem Gc {i j pos}:PE X (.Constant (.int i) j pos) (tC (.int i)):=fun _ _ _ H _ I h=>wpAny_Constant_int ⟨.int i,H,I.tok _,⟨_,rfl⟩,h⟩
theorem Ho {b j pos}:PE X (.Constant (.bool b) j pos) (tC (.bl b)):=fun _ _ _ H _ I h=>Constant_bool ⟨.bl b,H,I,rfl,h⟩
theorem E8 {j pos}:PE X (.Constant .none j pos) (tC .non):=fun _ _ _ H _ I h=>Constant_none ⟨.non,H,I,rfl,h⟩
theorem Fu {x j pos}:PE X (.Constant (.str x) j pos) (tC (.str x)):=fun _ _ _ H _ I h=>Calls.Constant_str ⟨.str x,H,I.tok _,⟨_,rfl⟩,h⟩
def Gl (X:Cx)(x:Str):Prop:=X.env.kindOf x=some .globalImplicit
theorem sH {E:Value->Shared->Prop}{pins:List (Addr × Obj)}{s:Shared}{σ:St}{H:Hp}{x:Str}{u:Value}{pos:Pos}{Q:Value->Shared->Prop}(I:Inv X pins σ H s)(hg:Gl X x)(hm:X.mg x=some u)(h:Q u s)
  (hd:(x == ("__debug__":Str))=false:=by decide):wpAny (model X.prog X.w) X.A (eval (.Name x pos) X.env) Q E s :=
 Calls.Name_function_global I.ok.kind hg (Calls.loadGlobal_global (by rw[I.ok.glob];exact I.mod.glob.keeps I.bk) hm h) hd
theorem jZ {E:Value->Shared->Prop}{pins:List (Addr × Obj)}{s:Shared}{σ:St}{H:Hp}{x:Str}{u:Value}{pos:Pos}{Q:Value->Shared->Prop}(I:Inv X pins σ H s)(hg:Gl X x)(hm:X.mg x=none)(hv:bootBuiltins x=some u)(h:Q u s)
  (hn:x≠"__name__":=by decide) (hd:(x == ("__debug__":Str))=false:=by decide):wpAny (model X.prog X.w) X.A (eval (.Name x pos) X.env) Q E s:=by
 obtain⟨mb,h1,h2⟩:=I.mod.blt
 exact Calls.Name_function_global I.ok.kind hg (Calls.loadGlobal_builtin (by rw[I.ok.glob];exact I.mod.glob.keeps I.bk) hm (by rw[I.ok.blt];exact h1.keeps I.bk) ((h2 x hn).trans hv) h) hd
theorem De {x:Str}{v:V}{u:Value}{pos:Pos}(hg:Gl X x)(hm:X.mg x=some u)(r:RelV v u)(hd:(x == ("__debug__":Str))=false:=by decide):PE X (.Name x pos) (tC v) :=
 fun _ _ _ H _ I h=>sH I hg hm ⟨v,H,I,r,h⟩ hd
theorem CY {x:Str}{v:V}{u:Value}{pos:Pos}(hg:Gl X x)(hm:X.mg x=none)(hv:bootBuiltins x=some u)(r:RelV v u)(hn:x≠"__name__":=by decide)(hd:(x == ("__debug__":Str))=false:=by decide):PE X (.Name x pos) (tC v) :=
 fun _ _ _ H _ I h=>jZ I hg hm hv ⟨v,H,I,r,h⟩ hn hd
variable {a b:Expr}{ta tb:TE}{pos:Pos}
variable {tA tB':TT}{rest:List Expr}
noncomputable def HM (t u:TT):TT:=fun σ H Q=>t σ H fun c H1=>if c=true then u σ H1 Q else Q false H1
noncomputable def tOr (t u:TT):TT:=fun σ H Q=>t σ H fun c H1=>if c=true then Q true H1 else u σ H1 Q
noncomputable def IR (t:TT):TT:=fun σ H Q=>t σ H fun c H1=>Q (!c) H1
theorem Di (ha:PT X a tA):PW X (.BoolOp .And [a] pos) tA:=by
 intro wh pins s σ H Q I h
 refine isTrue_and (thn (ha pins s σ H Q I h) fun c s1 e=>?_)
 cases c with
 | true=>exact isTrue_and_nil e
 | false=>exact e
theorem FC (ha:PT X a tA):PW X (.BoolOp .Or [a] pos) tA:=by
 intro wh pins s σ H Q I h
 refine isTrue_or (thn (ha pins s σ H Q I h) fun c s1 e=>?_)
 cases c with
 | false=>exact isTrue_or_nil e
 | true=>exact e
theorem Gg (ha:PT X a tA)(hb:PW X (.BoolOp .And (b::rest) pos) tB'):PW X (.BoolOp .And (a::b::rest) pos) (HM tA tB'):=by
 intro wh pins s σ H Q I h
 refine isTrue_and (thn (ha pins s σ H _ I h) fun c s1 ⟨H1,I1,q1⟩=>?_)
 cases c with
 | true=>exact hb wh pins s1 σ H1 Q I1 q1
 | false=>exact⟨H1,I1,q1⟩
theorem GS (ha:PT X a tA)(hb:PW X (.BoolOp .Or (b::rest) pos) tB'):PW X (.BoolOp .Or (a::b::rest) pos) (tOr tA tB'):=by
 intro wh pins s σ H Q I h
 refine isTrue_or (thn (ha pins s σ H _ I h) fun c s1 ⟨H1,I1,q1⟩=>?_)
 cases c with
 | true=>exact⟨H1,I1,q1⟩
 | false=>exact hb wh pins s1 σ H1 Q I1 q1
theorem ER (ha:PT X a tA):PT X (.UnaryOp .Not a pos) (IR tA):=by
 intro pins s σ H Q I h
 exact isTrue_not (ha pins s σ H (fun c H1=>Q (!c) H1) I h)
noncomputable def Hf (ta tb:TE):TE:=fun σ H Q=>ta σ H fun x H1=>∃c,x=.bl c/\if c=true then tb σ H1 Q else Q (.bl false) H1
noncomputable def J9 (ta tb:TE):TE:=fun σ H Q=>ta σ H fun x H1=>∃c,x=.bl c/\if c=true then Q (.bl true) H1 else tb σ H1 Q
noncomputable def Hq (ta:TE):TE:=fun σ H Q=>ta σ H fun x H1=>∃c,x=.bl c/\Q (.bl (!c)) H1
theorem B4 {op}{t:TE}(h:PE X a t):PE X (.BoolOp op [a] pos) t:=fun pins s σ H Q I hw=>BoolOp_one (h pins s σ H Q I hw)
theorem F8 (ha:PE X a ta)(hb:PE X (.BoolOp .And (b::rest) pos) tb):PE X (.BoolOp .And (a::b::rest) pos) (Hf ta tb):=by
 intro pins s σ H Q I h
 refine BoolOp_and (thn (ha pins s σ H _ I h) fun v s1 ⟨x,H1,I1,r1,q1⟩=>?_)
 obtain⟨c,rfl,q1⟩:=q1
 cases r1
 refine wpAny_truthy_bool ?_
 cases c with
 | true=>exact hb pins s1 σ H1 Q I1 q1
 | false=>exact⟨.bl false,H1,I1,rfl,q1⟩
theorem HA (ha:PE X a ta)(hb:PE X (.BoolOp .Or (b::rest) pos) tb):PE X (.BoolOp .Or (a::b::rest) pos) (J9 ta tb):=by
 intro pins s σ H Q I h
 refine BoolOp_or (thn (ha pins s σ H _ I h) fun v s1 ⟨x,H1,I1,r1,q1⟩=>?_)
 obtain⟨c,rfl,q1⟩:=q1
 cases r1
 refine wpAny_truthy_bool ?_
 cases c with
 | false=>exact hb pins s1 σ H1 Q I1 q1
 | true=>exact⟨.bl true,H1,I1,rfl,q1⟩
theorem F4 (ha:PE X a ta):PE X (.UnaryOp .Not a pos) (Hq ta):=by
 intro pins s σ H Q I h
 refine UnaryOp_ (thn (ha pins s σ H _ I h) fun v s1 ⟨x,H1,I1,r1,q1⟩=>?_)
 obtain⟨c,rfl,q1⟩:=q1
 cases r1
 exact not_of (wpAny_truthy_bool ⟨.bl (!c),H1,I1,rfl,q1⟩)
noncomputable def tIf (t:TT)(ta tb:TE):TE:=fun σ H Q=>t σ H fun c H1=>if c=true then ta σ H1 Q else tb σ H1 Q
theorem Ck {c:Expr}(hc:PT X c tA)(ha:PE X a ta)(hb:PE X b tb):PE X (.IfExp c a b pos) (tIf tA ta tb):=by
 intro pins s σ H Q I h
 refine wpAny_IfExp (thn (hc pins s σ H _ I h) fun d s1 ⟨H1,I1,q1⟩=>?_)
 cases d with
 | true=>exact ha pins s1 σ H1 Q I1 q1
 | false=>exact hb pins s1 σ H1 Q I1 q1
end
end L2
namespace L2
def SqL (K:W.Frag)(H:Hp)(a:Addr)(xs:List V):Prop :=
 Rd H a (.lst xs) \/
  ∃(o:Obj) (its:Array Value) (n:Nat),K.lookup a=some o/\o.cls=.type "list"/\o.dict=none/\o.data=.seq its n/\its.size<=sizeLine/\Vals xs its.toList
def SqT (K:W.Frag)(H:Hp)(a:Addr)(xs:List V):Prop :=
 Rd H a (.tup xs) \/
  ∃(o:Obj) (its:Array Value) (n:Nat),K.lookup a=some o/\o.cls=.type "tuple"/\o.data=.seq its n/\its.size<=sizeLine/\Vals xs its.toList
noncomputable def IH:Value->Option V
 | .none=>some .non
 | .bool b=>some (.bl b)
 | .int i _=>some (.int i)
 | .str x _=>some (.str x)
 | .bytes b _=>some (.byt b)
 | .float b _=>some (.flt b)
 | .ref a=>some (.ref a)
 | .type n=>some (.ty n)
 | _=>none
theorem RelV.abs {x:V}{u:Value}(r:RelV x u):IH u=some x:=by
 cases x with
 | non=>cases r;rfl
 | bl _=>cases r;rfl
 | int _=>obtain⟨t,rfl⟩:=r;rfl
 | str _=>obtain⟨t,rfl⟩:=r;rfl
 | byt _=>obtain⟨t,rfl⟩:=r;rfl
 | flt _=>obtain⟨t,rfl⟩:=r;rfl
 | ref _=>cases r;rfl
 | ty _=>cases r;rfl
theorem RelV.inj {x y:V}{u:Value}(r:RelV x u)(q:RelV y u):x=y:=NE (r.abs.symm.trans q.abs)
theorem Vals.inj:∀ {xs ys:List V}{us:List Value},Vals xs us->Vals ys us->xs=ys
 | _,_,_,.nil,.nil=>rfl
 | _,_,_,.cons r t,.cons r' t'=>by rw[r.inj r',Vals.inj t t']
section
variable {X:Cx}{pins:List (Addr × Obj)}{σ:St}{H:Hp}{s:Shared}{a:Addr}{xs ys:List V}
theorem SqL.of {K:W.Frag}(h:H a=some (.lst xs)):SqL K H a xs:=.inl (.inl h)
theorem SqT.of {K:W.Frag}(h:H a=some (.tup xs)):SqT K H a xs:=.inl (.inl h)
theorem Inv.list (I:Inv X pins σ H s)(h:SqL X.K H a xs):∃its:List Value,Vals xs its/\PlainL s.heap a its.toArray/\xs.length<=sizeLine:=by
 rcases h with h|⟨o,its,n,hk,hc,hd,hs,hz,r⟩
 ·obtain⟨z,its,n,r,e⟩:=h.ok I.hok
  exact⟨its,r,⟨_,n,e,rfl,rfl,rfl⟩,z⟩
 ·refine⟨its.toList,r,⟨o,n,I.kIn a o hk,hc,hd,by simpa using hs⟩,?_⟩
  have e:=r.length
  simp only[Array.length_toList] at e
  omega
theorem Inv.tuple (I:Inv X pins σ H s)(h:SqT X.K H a xs):∃its:List Value,Vals xs its/\IsTup s.heap a its.toArray/\xs.length<=sizeLine:=by
 rcases h with h|⟨o,its,n,hk,hc,hs,hz,r⟩
 ·obtain⟨z,its,r,p⟩:=h.ok I.hok
  exact⟨its,r,p,z⟩
 ·refine⟨its.toList,r,⟨o,I.kIn a o hk,hc,n,by simpa using hs⟩,?_⟩
  have e:=r.length
  simp only[Array.length_toList] at e
  omega
theorem Inv.list_inj (I:Inv X pins σ H s)(h:SqL X.K H a xs)(h':SqL X.K H a ys):xs=ys:=by
 obtain⟨its,r,⟨o,n,e,_,_,d⟩,_⟩:=I.list h
 obtain⟨its',r',⟨o',n',e',_,_,d'⟩,_⟩:=I.list h'
 rw[e] at e';cases e'
 rw[d] at d'
 injection d' with d1 _
 have:its=its':=by simpa using NV Array.toList d1
 subst this
 exact r.inj r'
theorem Inv.tuple_inj (I:Inv X pins σ H s)(h:SqT X.K H a xs)(h':SqT X.K H a ys):xs=ys:=by
 obtain⟨its,r,⟨o,e,_,n,d⟩,_⟩:=I.tuple h
 obtain⟨its',r',⟨o',e',_,n',d'⟩,_⟩:=I.tuple h'
 rw[e] at e';cases e'
 rw[d] at d'
 injection d' with d1 _
 have:its=its':=by simpa using NV Array.toList d1
 subst this
 exact r.inj r'
end
noncomputable abbrev Cx.wish (X:Cx)(E:Value->Shared->Prop):Cx:={ X with xe:=E }
noncomputable abbrev Cx.nox (X:Cx):Cx:=X.wish fun _ _=>False
theorem Cx.Ok.wish {X:Cx}(ok:X.Ok)(E:Value->Shared->Prop):(X.wish E).Ok :=
 ⟨ok.mod,ok.kind,ok.glob,ok.blt,ok.above,ok.inj,ok.has,ok.cab,ok.hd,ok.frames,ok.stk,ok.exf,ok.bs,ok.bsz,ok.noex,ok.exfs,ok.funs,ok.frf⟩
theorem Cx.Ok.unwish {X:Cx}{E:Value->Shared->Prop}(ok:(X.wish E).Ok):X.Ok :=
 ⟨ok.mod,ok.kind,ok.glob,ok.blt,ok.above,ok.inj,ok.has,ok.cab,ok.hd,ok.frames,ok.stk,ok.exf,ok.bs,ok.bsz,ok.noex,ok.exfs,ok.funs,ok.frf⟩
section
variable {X:Cx}{pins:List (Addr × Obj)}{σ:St}{H:Hp}{s:Shared}{E:Value->Shared->Prop}
theorem Inv.wish (I:Inv X pins σ H s)(E:Value->Shared->Prop):Inv (X.wish E) pins σ H s:=⟨I.ok.wish E,I.os,I.bare,I.base,I.loc,I.cell,I.free,I.freeC,I.pin,I.hok,I.len⟩
theorem Inv.unwish (I:Inv (X.wish E) pins σ H s):Inv X pins σ H s:=⟨I.ok.unwish,I.os,I.bare,I.base,I.loc,I.cell,I.free,I.freeC,I.pin,I.hok,I.len⟩
theorem SP.unwish {D:Ends}{f:Flow}{s':Shared}(h:SP (X.wish E) pins D f s'):SP X pins D f s':=by
 cases f with
 | next=>obtain⟨σ',H',I,q⟩:=h;exact⟨σ',H',I.unwish,q⟩
 | brk=>obtain⟨σ',H',I,q⟩:=h;exact⟨σ',H',I.unwish,q⟩
 | cont=>obtain⟨σ',H',I,q⟩:=h;exact⟨σ',H',I.unwish,q⟩
 | ret u=>obtain⟨v,σ',H',I,r,q⟩:=h;exact⟨v,σ',H',I.unwish,r,q⟩
theorem PSs.nox {st:List Stmt}{t:TS}(h:PSs X.nox st t):PSs X st t:=fun pins s σ H D I hw =>
 wpAny_mono (h pins s σ H D (I.wish _) hw) (fun _ _ q=>q.unwish) fun _ _ z=>False.elim z
end
section
variable {X:Cx}{st:Stmt}{rest:List Stmt}{t u:TS}{e:Expr}{te:TE}{pos:Pos}
noncomputable def En:TS:=fun D σ H=>D.nx σ H
noncomputable def JO (t u:TS):TS:=fun D σ H=>t { D with nx:=u D } σ H
theorem DL:PSs X [] En:=fun _ _ σ H _ I h=>wpAny_execs_nil ⟨σ,H,I,h⟩
theorem Bq (h1:PS X st t)(h2:PSs X rest u):PSs X (st::rest) (JO t u):=by
 intro pins s σ H D I h
 refine wpAny_execs_cons (thn (h1 pins s σ H { D with nx:=u D } I h) fun f s1 q=>?_)
 cases f with
 | next =>
  obtain⟨σ',H',I',q⟩:=q
  exact h2 pins s1 σ' H' D I' q
 | ret v=>exact q
 | brk=>exact q
 | cont=>exact q
noncomputable def F5:TS:=fun D σ H=>D.bk σ H
noncomputable def Hn:TS:=fun D σ H=>D.ct σ H
theorem DH:PS X (.Pass pos) En:=fun _ _ σ H _ I h=>wpAny_Pass ⟨σ,H,I,h⟩
theorem AW:PS X (.Break pos) F5:=fun _ _ σ H _ I h=>wpAny_Break ⟨σ,H,I,h⟩
theorem uq:PS X (.Continue pos) Hn:=fun _ _ σ H _ I h=>wpAny_Continue ⟨σ,H,I,h⟩
theorem Inv.quiet {pins:List (Addr × Obj)}{σ:St}{H:Hp}{s:Shared}(I:Inv X pins σ H s):interactive X.env=false:=by simp[interactive,I.ok.kind]
noncomputable def Hr (te:TE):TS:=fun D σ H=>te σ H fun _ H1=>D.nx σ H1
theorem Cs (he:PE X e te)(hs:swapsWith e none pos.line X.env=pure false:=by rfl):PS X (.Expr e pos) (Hr te):=by
 intro pins s σ H D I h
 exact wpAny_Expr_any (thn (he pins s σ H _ I h) fun v s1 ⟨x,H1,I1,r1,q1⟩=>⟨σ,H1,I1,q1⟩) I.quiet hs
noncomputable def Kc (te:TE):TS:=fun D σ H=>te σ H D.rt
theorem FP (he:PE X e te):PS X (.Return (some e) pos) (Kc te):=by
 intro pins s σ H D I h
 exact wpAny_Return_some (thn (he pins s σ H _ I h) fun v s1 ⟨x,H1,I1,r1,q1⟩=>⟨x,σ,H1,I1,r1,q1⟩)
noncomputable def Ib:TS:=fun D _ H=>D.rt .non H
theorem CI:PS X (.Return none pos) Ib:=fun _ _ σ H _ I h=>wpAny_Return_none ⟨.non,σ,H,I,rfl,h⟩
noncomputable def JB (c:TT)(t u:TS):TS:=fun D σ H=>c σ H fun b H1=>if b=true then t D σ H1 else u D σ H1
theorem HJ {c:Expr}{a b:List Stmt}{tc:TT}(hc:PT X c tc)(ha:PSs X a t)(hb:PSs X b u):PS X (.If c a b pos) (JB tc t u):=by
 intro pins s σ H D I h
 refine wpAny_If (thn (hc pins s σ H _ I h) fun d s1 ⟨H1,I1,q1⟩=>?_)
 cases d with
 | true=>exact ha pins s1 σ H1 D I1 q1
 | false=>exact hb pins s1 σ H1 D I1 q1
end
noncomputable abbrev TG:=V->St->Hp->(St->Hp->Prop)->Prop
noncomputable abbrev TGs:=List V->St->Hp->(St->Hp->Prop)->Prop
def PG (X:Cx)(target:Expr)(t:TG):Prop :=
 ∀(pins:List (Addr × Obj)) (s:Shared) (σ:St) (H:Hp) (v:V) (u:Value) (Q:St->Hp->Prop),Inv X pins σ H s->RelV v u->t v σ H Q ->
  wpAny (model X.prog X.w) X.A (assign target X.env u) (fun _ s'=>∃σ' H',Inv X pins σ' H' s'/\Q σ' H') X.xe s
def PGs (X:Cx)(ts:List Expr)(t:TGs):Prop :=
 ∀(pins:List (Addr × Obj)) (s:Shared) (σ:St) (H:Hp) (vs:List V) (us:List Value) (Q:St->Hp->Prop),Inv X pins σ H s->Vals vs us->t vs σ H Q ->
  wpAny (model X.prog X.w) X.A (assignInOrder ((assignEach ts X.env).map (·.2)) us) (fun _ s'=>∃σ' H',Inv X pins σ' H' s'/\Q σ' H') X.xe s
noncomputable abbrev FU:=V->V->V->Hp->(Hp->Prop)->Prop
def EX (X:Cx)(t:FU):Prop :=
 ∀(pins:List (Addr × Obj)) (s:Shared) (σ:St) (H:Hp) (o i v:V) (ov iv u:Value) (Q:Hp->Prop),Inv X pins σ H s->RelV o ov->RelV i iv->RelV v u->t o i v H Q ->
  wpAny (model X.prog X.w) X.A (setItem ov iv u) (fun _ s'=>∃H',Inv X pins σ H' s'/\Q H') X.xe s
noncomputable abbrev TIp:=V->V->Hp->VK->Prop
def PIp (X:Cx)(op:Operator)(t:TIp):Prop :=
 ∀(pins:List (Addr × Obj)) (s:Shared) (σ:St) (H:Hp) (x y:V) (v u:Value) (Q:VK),Inv X pins σ H s->RelV x v->RelV y u->t x y H Q ->
  wpAny (model X.prog X.w) X.A (inplaceOp op v u) (EP X pins σ Q) X.xe s
section
variable {X:Cx}{pos:Pos}
noncomputable def Ej (i:Nat):TG:=fun v σ H Q=>Q (σ.set i (some v)) H
theorem DF {i:Nat}{x:Str}(hN:X.N.Nodup)(hi:X.N[i]?=some x)(hx:Loc X.env.scope x)(hf:X.fn x=true\/X.env.scope.names.lookup x=some .local:=by first|exact .inl rfl|exact .inr rfl|assumption):PG X (.Name x pos) (Ej i):=by
 intro pins s σ H v u Q I r h
 exact wpAny_assign_Name (eQ I hN hi hx r (fun s' I'=>⟨_,H,I',h⟩) hf)
noncomputable def Jw:TGs:=fun vs σ H Q=>vs=[]/\Q σ H
noncomputable def Ik (t:TG)(u:TGs):TGs:=fun vs σ H Q=>∃v r,vs=v::r/\t v σ H fun σ' H'=>u r σ' H' Q
theorem D_:PGs X [] Jw:=by
 intro pins s σ H vs us Q I r h
 obtain⟨e,h⟩:=h
 subst e
 cases r
 exact assignInOrder_nil ⟨σ,H,I,h⟩
theorem A6 {e:Expr}{es:List Expr}{t:TG}{u:TGs}(h1:PG X e t)(h2:PGs X es u)
  (hs:(assignEach (e::es) X.env).map (·.2)=assign e X.env::(assignEach es X.env).map (·.2):=by rfl):PGs X (e::es) (Ik t u):=by
 intro pins s σ H vs us Q I r h
 obtain⟨v,vr,e1,h⟩:=h
 subst e1
 cases r with
 | cons r rr =>
  rw[hs]
  refine assignInOrder_cons (thn (h1 pins s σ H _ _ _ I r h) fun _ s1 ⟨σ1,H1,I1,q1⟩=>?_)
  exact h2 pins s1 σ1 H1 _ _ Q I1 rr q1
noncomputable def Jz (K:W.Frag)(n:Nat)(t:TGs):TG:=fun v σ H Q=>∃a xs,v=.ref a/\SqT K H a xs/\xs.length=n/\t xs σ H Q
theorem E6 {es:List Expr}{k:Nat}{t:TGs}{n:Nat}(hc:X.calm=true)(h:PGs X es t)
  (hn:(assignEach es X.env).length=n:=by rfl) (hst:(assignEach es X.env).findIdx? (·.1)=none:=by rfl):PG X (.Tuple es k pos) (Jz X.K n t):=by
 intro pins s σ H v u Q I r hw
 obtain⟨a,xs,e1,hq,hl,hw⟩:=hw
 subst e1
 cases r
 obtain⟨its,rv,ht,hz⟩:=I.tuple hq
 refine assign_Tuple_tuple (I.ok.hd hc) ht (by simp[hn,<-hl,rv.length]) hst fun h' hx=>?_
 have I1:Inv X pins σ H { s with heap:=h' }:=I.kept (t':=s.toks) fun b o e=>hx b o (M2 (MU e)) e
 exact h pins _ σ H xs _ Q I1 (by simpa using rv) hw
noncomputable def Jb (to ti:TE)(t:FU):TG:=fun v σ H Q=>to σ H fun o H1=>ti σ H1 fun i H2=>t o i v H2 fun H3=>Q σ H3
theorem F_ {o i:Expr}{to ti:TE}{t:FU}(ho:PE X o to)(hi:PE X i ti)(hs:EX X t)
  (ha:∀v,assign (.Subscript o i pos) X.env v=(do
   let ov <-holding [v] (eval o X.env)
   let iv <-holding [v,ov] (eval i X.env)
   standAt pos
   holding [v,ov,iv] (setItem ov iv v)
   release [v,ov,iv] []):=by intro _;rfl):PG X (.Subscript o i pos) (Jb to ti t):=by
 intro pins s σ H v u Q I r h
 rw[ha]
 refine MB (N2 (thn (ho pins s σ H _ I h) fun ov s1 ⟨x,H1,I1,r1,q1⟩=>?_))
 refine MB (N2 (thn (hi pins s1 σ H1 _ I1 q1) fun iv s2 ⟨y,H2,I2,r2,q2⟩=>?_))
 refine MB (wpAny_standAt (MB (N2 (thn (hs pins s2 σ H2 x y v ov iv u _ I2 r1 r2 r q2) fun _ s3 ⟨H3,I3,q3⟩=>?_))))
 exact wpAny_release ⟨σ,H3,I3,q3⟩
noncomputable def DQ (te:TE)(g:TG):TS:=fun D σ H=>te σ H fun x H1=>g x σ H1 D.nx
theorem oh {tg e:Expr}{te:TE}{g:TG}(he:PE X e te)(hg:PG X tg g)(hs:swapsWithSole [tg] e pos.line X.env=pure false:=by rfl)(hw:swappedStores [tg] e X.env=pure none:=by rfl)
  (h1:(assignEach [tg] X.env).map (·.2)=[assign tg X.env]:=by rfl):PS X (.Assign [tg] e pos) (DQ te g):=by
 intro pins s σ H D I h
 refine wpAny_Assign_stores (thn (he pins s σ H _ I h) fun v s1 ⟨x,H1,I1,r1,q1⟩=>?_) hs hw
 rw[h1]
 exact thn (hg pins s1 σ H1 x v _ I1 r1 q1) fun _ s2 q=>q
theorem A4 {i:Nat}{x:Str}{e:Expr}{te:TE}{pos':Pos}(hN:X.N.Nodup)(hi:X.N[i]?=some x)(hx:Loc X.env.scope x)(he:PE X e te)(hs:swapsWith e (some (.Name x pos')) pos.line X.env=pure false:=by rfl)(hf:X.fn x=true\/X.env.scope.names.lookup x=some .local:=by first|exact .inl rfl|exact .inr rfl|assumption) :
  PS X (.Assign [.Name x pos'] e pos) (DQ te (Ej i)):=by
 intro pins s σ H D I h
 refine wpAny_Assign_Name (thn (he pins s σ H _ I h) fun v s1 ⟨y,H1,I1,r1,q1⟩=>?_) hs
 exact eQ I1 hN hi hx r1 (fun s2 I2=>⟨_,H1,I2,q1⟩) hf
noncomputable def JA (i j:Nat)(ta:TA):TS:=fun D σ H=>ta σ H fun vs H1=>∃v w,vs=[v,w]/\D.nx ((σ.set i (some v)).set j (some w)) H1
theorem Gp {i j:Nat}{x y:Str}{a b:Expr}{ta:TA}{px py pt:Pos}{kt k2 pt2}(hc:X.calm=true)(hN:X.N.Nodup)(hi:X.N[i]?=some x)(hj:X.N[j]?=some y)(hij:i≠j)
  (hx:X.env.scope.names.lookup x=some .local) (hy:X.env.scope.names.lookup y=some .local) (ha:PA X [a,b] ta)
  (hw:swappedStores [.Tuple [.Name x px,.Name y py] kt pt] (.Tuple [a,b] k2 pt2) X.env=pure (some [x,y]))
  (hs:swapsWithSole [.Tuple [.Name x px,.Name y py] kt pt] (.Tuple [a,b] k2 pt2) pos.line X.env=pure false:=by rfl) :
  PS X (.Assign [.Tuple [.Name x px,.Name y py] kt pt] (.Tuple [a,b] k2 pt2) pos) (JA i j ta):=by
 intro pins s σ H D I h
 rw[exec_Assign_arm]
 refine MB (wpAny_standAt ?_)
 rw[hs]
 refine MB (ME ?_)
 rw[MJ (by decide)]
 refine MB (Tuple_ (thn (ha _ pins s σ H _ I h) fun us s1 ⟨vs,H1,I1,r1,q1⟩=>?_))
 obtain⟨v,w,e1,q1⟩:=q1
 subst e1
 obtain⟨u1,u2,rfl,rv,rw'⟩:∃u1 u2,us=[u1,u2]/\RelV v u1/\RelV w u2:=by
  cases r1 with
  | cons p q =>
   cases q with
   | cons p' q' =>
    cases q'
    exact⟨_,_,rfl,p,p'⟩
 refine wpAny_newObj_type ?_ (by show 2<=sizeLine;decide)
 have I2:Inv X pins σ H1 { s1 with heap:=s1.heap.push { cls:=.type "tuple",data:=.seq [u1,u2].toArray } }:=I1.kept (t':=s1.toks) fun b o e=>MD _ e
 rw[hw]
 refine MB (ME ?_)
 show wpAny (model X.prog X.w) X.A (do rule "assign.swapped-stores";let items <-unpackItems (.ref s1.heap.objs.size) 2 none;assignInOrder [fun v=>bindName X.env y v,fun v=>bindName X.env x v] items.reverse;pure Flow.next) _ _ _
 refine MB (wpAny_rule (MB (unpackItems_tuple (items:=#[u1,u2]) (I.ok.hd hc) (IsTup.new s1.heap _) fun h' hx'=>?_)))
 have I3:=I2.kept (h':=h') (t':=s1.toks) fun b o e=>hx' b o (M2 (MU e)) e
 show wpAny _ _ (assignInOrder [fun v=>bindName X.env y v,fun v=>bindName X.env x v] [u2,u1] >>= fun _=>pure Flow.next) _ _ _
 refine MB (assignInOrder_cons (wpAny_bindName (eQ I3 hN hj (.inl hy) rw' (fun s2 I4=>?_) (.inr hy))))
 refine assignInOrder_cons (wpAny_bindName (eQ I4 hN hi (.inl hx) rv (fun s3 I5=>assignInOrder_nil (ME ?_)) (.inr hx)))
 rw[List.set_comm _ _ (Ne.symm hij)] at I5
 exact⟨_,H1,I5,q1⟩
noncomputable def Jj (i:Nat)(te:TE)(ti:TIp):TS:=fun D σ H=>∃x,σ[i]?=some (some x)/\te σ H fun y H1=>ti x y H1 fun z H2=>D.nx (σ.set i (some z)) H2
theorem Fy {i:Nat}{x:Str}{e:Expr}{te:TE}{op:Operator}{ti:TIp}{pos':Pos}(hN:X.N.Nodup)(hi:X.N[i]?=some x)(hx:Loc X.env.scope x)(he:PE X e te)(ho:PIp X op ti)(hf:X.fn x=true\/X.env.scope.names.lookup x=some .local:=by first|exact .inl rfl|exact .inr rfl|assumption) :
  PS X (.AugAssign (.Name x pos') op e pos) (Jj i te ti):=by
 intro pins s σ H D I h
 obtain⟨v,e1,h⟩:=h
 obtain⟨m,hn,hl⟩:=I.loc
 have vis:Vis X.env.scope x:=by rcases hx with k|k;exact .inl k;exact .inr (.inl k)
 obtain⟨u,r,l⟩:=hl i x v hi e1 vis
 refine wpAny_AugAssign_Name ?_
 have go:wpAny (model X.prog X.w) X.A (eval e X.env) (fun w s₂=>wpAny (model X.prog X.w) X.A (inplaceOp op u w) (fun r s₃=>wpAny (model X.prog X.w) X.A (storeName X.env x r) (fun _=>SP X pins D .next) X.xe s₃) X.xe s₂) X.xe s:=by
  refine thn (he pins s σ H _ I h) fun w s1 ⟨y,H1,I1,r1,q1⟩=>?_
  refine thn (ho pins s1 σ H1 v y u w _ I1 r r1 q1) fun z s2 ⟨zv,H2,I2,r2,q2⟩=>?_
  exact eQ I2 hN hi hx r2 (fun s3 I3=>⟨_,H2,I3,q2⟩) hf
 rcases l with⟨hk,hm⟩|⟨hk,c,hc,hcell⟩
 ·exact wpAny_loadName_local I.ok.kind hk hn hm go
 ·rcases hk with hk|hk
  ·exact wpAny_loadName_cell I.ok.kind hk hc hcell go
  ·rcases hx with k|k
   ·have:X.env.scope.names.lookup x=some .free:=hk
    rw[k] at this;cases this
   ·have:X.env.scope.names.lookup x=some .free:=hk
    rw[k] at this;cases this
noncomputable def ipI (f:Int->Int->Int):TIp:=fun x y H Q=>∃i j,x=.int i/\y=.int j/\Q (.int (f i j)) H
theorem EV:PIp X .Add (ipI fun i j=>i+j):=by
 intro pins s σ H x y v u Q I r1 r2 h
 obtain⟨i,j,e1,e2,q⟩:=h
 subst e1;subst e2
 obtain⟨t,rfl⟩:=r1
 obtain⟨t',rfl⟩:=r2
 exact iadd_int ⟨.int _,H,I.tok _,⟨_,rfl⟩,q⟩
theorem Fk:PIp X .Sub (ipI fun i j=>i-j):=by
 intro pins s σ H x y v u Q I r1 r2 h
 obtain⟨i,j,e1,e2,q⟩:=h
 subst e1;subst e2
 obtain⟨t,rfl⟩:=r1
 obtain⟨t',rfl⟩:=r2
 exact isub_int ⟨.int _,H,I.tok _,⟨_,rfl⟩,q⟩
end
section
variable {X:Cx}{pos:Pos}
noncomputable def Ax (c:TT)(tb:TS):TS:=fun D σ H=>∃W:Nat->St->Hp->Prop,(∃m,W m σ H)/\∀m σ H,W m σ H ->
 c σ H fun b H1=>if b=true then ∃N:St->Hp->Prop,(∀σ' H',N σ' H'->∃m',m'<m/\W m' σ' H')/\tb { D with nx:=N,ct:=N,bk:=D.nx } σ H1 else D.nx σ H1
theorem AO {c:Expr}{body:List Stmt}{tc:TT}{tb:TS}(hp:PassesOwn (model X.prog X.w) X.A X.env X.xe)(hc:PT X c tc)(hb:PSs X body tb):PS X (.While c body [] pos) (Ax tc tb):=by
 intro pins s σ H D I h
 obtain⟨W,⟨m0,w0⟩,turn⟩:=h
 refine wpAny_While (codeAny_whileLoop (fun n s'=>∃σ' H',Inv X pins σ' H' s'/\W n σ' H') ?_ m0 ⟨σ,H,I,w0⟩)
 rintro n s1 ⟨σ1,H1,I1,w1⟩
 refine wpAny_passesOwn hp (thn (hc pins s1 σ1 H1 _ I1 (turn n σ1 H1 w1)) fun b s2 ⟨H2,I2,q2⟩=>?_)
 cases b with
 | true =>
  obtain⟨N,hN,q2⟩:=q2
  rw[ML rfl]
  refine wpAny_passesOwn hp (thn (hb pins s2 σ1 H2 _ I2 q2) fun f s3 q3=>?_)
  cases f with
  | next =>
   obtain⟨σ3,H3,I3,n3⟩:=q3
   obtain⟨m',hm,w3⟩:=hN σ3 H3 n3
   exact⟨m',hm,σ3,H3,I3,w3⟩
  | cont =>
   obtain⟨σ3,H3,I3,n3⟩:=q3
   obtain⟨m',hm,w3⟩:=hN σ3 H3 n3
   exact⟨m',hm,σ3,H3,I3,w3⟩
  | brk=>exact q3
  | ret v=>exact q3
 | false =>
  rw[MJ MF]
  exact wpAny_execs_nil ⟨σ1,H2,I2,q2⟩
end
structure It where
 go:Nat->Hp->Prop
 yld:Nat->Hp->V->Hp->Prop
 stop:Nat->Hp->Prop
def mX (X:Cx)(pins:List (Addr × Obj))(H:Hp)(b:Addr):Prop :=
 H b=none/\b≠X.env.locals/\b ∉ X.fs/\(b∈X.ex\/X.s₀.heap.objs.size<=b)/\(∀x c,X.env.cells.lookup x=some c->c≠b)/\∀p∈X.pn++pins,p.1≠b
theorem Inv.fpOk {X:Cx}{pins:List (Addr × Obj)}{σ:St}{H H':Hp}{s:Shared}{b:Addr}(I:Inv X pins σ H s)(hb:s.heap.objs.size<=b)(hn:H' b=none):mX X pins H' b:=by
 refine⟨hn,O1 (MG I.lt hb),I.nofs hb,.inr (NI I.sz hb),fun x c e z=>?_,fun p hp z=>?_⟩
 ·obtain⟨v,q⟩:=I.cell x c e
  exact absurd (MG q.lt (by rw[z];exact hb)) (OO _)
 ·exact absurd (MG (MU (I.pin p hp).1) (by rw[z];exact hb)) (OO _)
structure zQ (P:Program)(w:World)(K:W.Frag)(tg:Expr)(J:It)(fp:List Addr)(it:Addr)(tn:Nat->Heap->Prop):Prop where
 mem:it∈fp
 obj:∀i h,tn i h->∀b∈fp,∃o,h.get? b=some o/\∀v,o.data≠.cell v
 keep:∀i h h',tn i h->(∀b∈fp,∀o,h.get? b=some o->h'.get? b=some o)->tn i h'
 item:∀(X:Cx),X.prog=P->X.w=w->X.K=K->X.calm=true->∀(i:Nat) (pins:List (Addr × Obj)) (s:Shared) (σ:St) (H:Hp) (E:Value->Shared->Prop),Inv X pins σ H s->(∀b∈fp,mX X pins H b)->tn i s.heap->J.go i H ->
  wpAny (model P w) X.A (pyNext (.ref it)) (fun r s1=>∃u,r=some u /\
   wpAny (model P w) X.A (letOwnedTupleGo tg (.ref it) u) (fun _ s2=>∃x H',Inv X pins σ H' s2/\RelV x u/\J.yld i H x H'/\tn (i+1) s2.heap/\∀b∈fp,H' b=none) E s1) E s
 done:∀(X:Cx),X.prog=P->X.w=w->X.K=K->X.calm=true->∀(i:Nat) (pins:List (Addr × Obj)) (s:Shared) (σ:St) (H:Hp) (E:Value->Shared->Prop),Inv X pins σ H s->(∀b∈fp,mX X pins H b)->tn i s.heap->J.stop i H ->
  wpAny (model P w) X.A (pyNext (.ref it)) (fun r s1=>r=none/\Inv X pins σ H s1) E s
 self:∀(A:Around) (i:Nat) (s:Shared) (Q:Value->Shared->Prop) (E:Value->Shared->Prop),tn i s.heap->Q (.ref it) s->wpAny (model P w) A (pyIter (.ref it)) Q E s
noncomputable abbrev TI:=St->Hp->(It->Hp->Prop)->Prop
def PIE (X:Cx)(pins:List (Addr × Obj))(σ:St)(tg:Expr)(R:It->Hp->Prop)(itv:Value)(s2:Shared):Prop :=
 ∃(it:Addr) (fp:List Addr) (tn:Nat->Heap->Prop) (J:It) (H':Hp),itv=.ref it/\Inv X pins σ H' s2/\zQ X.prog X.w X.K tg J fp it tn/\tn 0 s2.heap/\(∀b∈fp,mX X pins H' b)/\R J H'
def PI (X:Cx)(tg iter:Expr)(wi:TI):Prop :=
 ∀(pins:List (Addr × Obj)) (s:Shared) (σ:St) (H:Hp) (R:It->Hp->Prop),Inv X pins σ H s->wi σ H R ->
  wpAny (model X.prog X.w) X.A (eval iter X.env) (fun v s1=>wpAny (model X.prog X.w) X.A (pyIter v) (PIE X pins σ tg R) X.xe s1) X.xe s
theorem Ac {M:Model}{A:Around}{E:Value->Shared->Prop}{s:Shared}{tg:Expr}{it:Addr}{u:Value}{o:Obj}{n:String}{vs:Array Value}{Q:Unit->Shared->Prop}(ho:s.heap.get? it=some o)(hc:o.cls=.type n)(hd:o.data=.fields vs)
  (hn:["enumerate","zip","dict_itemiterator","dict_reverseitemiterator","odict_iterator","itertools.zip_longest","itertools.pairwise"].contains n=false) (hQ:Q () s):wpAny M A (letOwnedTupleGo tg (.ref it) u) Q E s:=by
 unfold letOwnedTupleGo
 cases tg <;> first
  | exact ME hQ
  | (cases u <;> first
    | exact ME hQ
    | (refine MB (wpAny_load ho ?_)
       rw[hc,hd]
       show wpAny M A (if (["enumerate","zip","dict_itemiterator","dict_reverseitemiterator","odict_iterator","itertools.zip_longest","itertools.pairwise"].contains n && vs[0]? == some (rawInt _))=true then _ else _) Q E s
       rw[MJ (by intro h;rw[hn,Q5] at h;cases h)]
       exact ME hQ))
noncomputable def Itl (K:W.Frag)(a:Addr):It :=
 ⟨fun i H=>∃xs x,SqL K H a xs/\xs[i]?=some x,fun i H x H'=>H'=H/\∀xs,SqL K H a xs->xs[i]?=some x,fun i H=>∃xs,SqL K H a xs/\xs.length<=i⟩
noncomputable def Itt (K:W.Frag)(a:Addr):It :=
 ⟨fun i H=>∃xs x,SqT K H a xs/\xs[i]?=some x,fun i H x H'=>H'=H/\∀xs,SqT K H a xs->xs[i]?=some x,fun i H=>∃xs,SqT K H a xs/\xs.length<=i⟩
noncomputable def Itr (lo:Int)(n:Nat):It:=⟨fun i _=>i<n,fun i H x H'=>H'=H/\x=.int (lo+i),fun i _=>n<=i⟩
theorem x_ {P:Program}{w:World}{K:W.Frag}{tg:Expr}(a it:Addr):zQ P w K tg (Itl K a) [it] it (fun i h=>h.IsListIter it a i) where
 mem:=by simp
 obj:=fun i h st b hb=>by
  have e:b=it:=by simpa using hb
  subst e
  obtain⟨o,e,c,d⟩:=st
  exact⟨o,e,fun v z=>by rw[d] at z;cases z⟩
 keep:=fun i h h' st k=>st.at fun o e=>k it (by simp) o e
 item:=by
  intro X hP hw hK hc i pins s σ H E I hf st hg
  subst hP hw hK
  obtain⟨xs,x,hq,hx⟩:=hg
  obtain⟨its,rv,p,hz⟩:=I.list hq
  obtain⟨u,hu,ru⟩:=rv.get hx
  obtain⟨f0,f1,f2,f3,f4,f5⟩:=hf it (by simp)
  refine wpAny_pyNext_list_item st p.isList (x:=u) (by simpa using hu) fun h' st' sb=>?_
  have I1:Inv X pins σ H { s with heap:=h' }:=I.turned (t':=s.toks) (fun b o hb e=>(sb.2 b hb).trans e) f0 f1 f3 f4 f5
  obtain⟨o,e,c,d⟩:=id st'
  exact⟨u,rfl,Ac (s:={ s with heap:=h' }) e c d (by decide) ⟨x,H,I1,ru,⟨rfl,fun ys hy=>by rw[I.list_inj hy hq];exact hx⟩,st',fun b hb=>(hf b hb).1⟩⟩
 done:=by
  intro X hP hw hK hc i pins s σ H E I hf st hg
  subst hP hw hK
  obtain⟨xs,hq,hx⟩:=hg
  obtain⟨its,rv,p,hz⟩:=I.list hq
  obtain⟨f0,f1,f2,f3,f4,f5⟩:=hf it (by simp)
  have hl:=rv.length
  exact wpAny_pyNext_list_end (I.ok.hd hc) st p.isList (by simp;omega) fun h' eb=>⟨rfl,I.turned (t':=s.toks) (fun b o hb e=>eb b o hb e) f0 f1 f3 f4 f5⟩
 self:=fun _ _ _ _ _ st h=>wpAny_pyIter_listiter st h
theorem vH {P:Program}{w:World}{K:W.Frag}{tg:Expr}(a it:Addr):zQ P w K tg (Itt K a) [it] it (fun i h=>h.IsTupleIter it a i) where
 mem:=by simp
 obj:=fun i h st b hb=>by
  have e:b=it:=by simpa using hb
  subst e
  obtain⟨o,e,c,d⟩:=st
  exact⟨o,e,fun v z=>by rw[d] at z;cases z⟩
 keep:=fun i h h' st k=>st.at fun o e=>k it (by simp) o e
 item:=by
  intro X hP hw hK hc i pins s σ H E I hf st hg
  subst hP hw hK
  obtain⟨xs,x,hq,hx⟩:=hg
  obtain⟨its,rv,p,hz⟩:=I.tuple hq
  obtain⟨u,hu,ru⟩:=rv.get hx
  obtain⟨f0,f1,f2,f3,f4,f5⟩:=hf it (by simp)
  refine wpAny_pyNext_tuple_item st (show s.heap.IsTuple a its.toArray from p) (x:=u) (by simpa using hu) fun h' st' sb=>?_
  have I1:Inv X pins σ H { s with heap:=h' }:=I.turned (t':=s.toks) (fun b o hb e=>(sb.2 b hb).trans e) f0 f1 f3 f4 f5
  obtain⟨o,e,c,d⟩:=id st'
  exact⟨u,rfl,Ac (s:={ s with heap:=h' }) e c d (by decide) ⟨x,H,I1,ru,⟨rfl,fun ys hy=>by rw[I.tuple_inj hy hq];exact hx⟩,st',fun b hb=>(hf b hb).1⟩⟩
 done:=by
  intro X hP hw hK hc i pins s σ H E I hf st hg
  subst hP hw hK
  obtain⟨xs,hq,hx⟩:=hg
  obtain⟨its,rv,p,hz⟩:=I.tuple hq
  obtain⟨f0,f1,f2,f3,f4,f5⟩:=hf it (by simp)
  have hl:=rv.length
  exact wpAny_pyNext_tuple_end (I.ok.hd hc) st (show s.heap.IsTuple a its.toArray from p) (by simp;omega) fun h' eb=>⟨rfl,I.turned (t':=s.toks) (fun b o hb e=>eb b o hb e) f0 f1 f3 f4 f5⟩
 self:=fun _ _ _ _ _ st h=>wpAny_pyIter_tupleiter st h
theorem wm {P:Program}{w:World}{K:W.Frag}{tg:Expr}(it:Addr)(lo:Int)(n:Nat):zQ P w K tg (Itr lo n) [it] it (fun i h=>IsRangeIter h it (lo+(i:Nat)*1) ((n:Int)-(i:Nat)) 1) where
 mem:=by simp
 obj:=fun i h st b hb=>by
  have e:b=it:=by simpa using hb
  subst e
  exact⟨_,st,fun v z=>by
   have z':Data.fields _=Data.cell v:=z
   cases z'⟩
 keep:=fun i h h' st k=>k it (by simp) _ st
 item:=by
  intro X hP hw hK hc i pins s σ H E I hf st hg
  subst hP hw hK
  obtain⟨f0,f1,f2,f3,f4,f5⟩:=hf it (by simp)
  have W:=Walks.range (prog:=X.prog) (w:=X.w) (I.ok.hd hc) it lo 1 n
  refine W.item i s _ _ hg st fun v h' tk hv st' kk=>?_
  obtain⟨t,rfl⟩:=hv
  have I1:Inv X pins σ H { s with heap:=h',toks:=tk }:=I.turned (fun b o hb e=>kk b o (by simpa using hb) e) f0 f1 f3 f4 f5
  refine ⟨_,rfl,Ac (s:={ s with heap:=h',toks:=tk }) (n:="range_iterator") st' rfl rfl (by decide) ⟨.int (lo+i),H,I1,⟨t,?_⟩,⟨rfl,rfl⟩,st',fun b hb=>(hf b hb).1⟩⟩
  rw[Int.mul_one]
 done:=by
  intro X hP hw hK hc i pins s σ H E I hf st hg
  subst hP hw hK
  obtain⟨f0,f1,f2,f3,f4,f5⟩:=hf it (by simp)
  exact wpAny_pyNext_range_end (I.ok.hd hc) st (by have:n<=i:=hg;omega) fun h' eb=>⟨rfl,I.turned (t':=s.toks) (fun b o hb e=>eb b o hb e) f0 f1 f3 f4 f5⟩
 self:=fun _ _ _ _ _ st h=>wpAny_pyIter_rangeiter st h
end L2
namespace L2
section
variable {X:Cx}{tg:Expr}
theorem Cb {pins:List (Addr × Obj)}{σ:St}{H:Hp}{s:Shared}{R:It->Hp->Prop}{E:Value->Shared->Prop}{lo hi:Int}{t u v:Tok}{tk:Nat}(I:Inv X pins σ H s)(h1:-(2 ^ 62)<=lo)(h2:lo<2 ^ 62)(h3:-(2 ^ 62)<=hi)(h4:hi<2 ^ 62)
  (q:R (Itr lo (hi-lo).toNat) H):wpAny (model X.prog X.w) X.A (pyIter (.ref s.heap.objs.size)) (PIE X pins σ tg R) E { s with heap:=s.heap.push { cls:=.type "range",data:=.fields #[.int lo t,.int hi u,.int 1 v] },toks:=tk }:=by
 refine wpAny_pyIter_range (IsRange.new ..) (small_one h1 h2 h3 h4) ?_
 have I1:Inv X pins σ H { s with heap:=s.heap.push { cls:=.type "range",data:=.fields #[.int lo t,.int hi u,.int 1 v] },toks:=tk }:=I.kept fun b o e=>MD _ e
 refine ⟨(s.heap.push { cls:=.type "range",data:=.fields #[.int lo t,.int hi u,.int 1 v] }).objs.size,[(s.heap.push { cls:=.type "range",data:=.fields #[.int lo t,.int hi u,.int 1 v] }).objs.size],_,_,H,rfl,
  I1.kept (t':=tk) fun b o e=>MD _ e,wm _ lo (hi-lo).toNat,?_,fun b hb=>?_,q⟩
 ·have e1:lo+((0:Nat):Int)*1=lo:=by simp
  have e2:(((hi-lo).toNat:Nat):Int)-((0:Nat):Int)=Builtin.Range.rangeSize lo hi 1:=by rw[rangeSize_one];split <;> omega
  show IsRangeIter _ _ (lo+((0:Nat):Int)*1) ((((hi-lo).toNat:Nat):Int)-((0:Nat):Int)) 1
  rw[e1,e2]
  exact MX _ rfl
 ·have e:b=(s.heap.push { cls:=.type "range",data:=.fields #[.int lo t,.int hi u,.int 1 v] }).objs.size:=by simpa using hb
  subst e
  exact I1.fpOk (MM _) (I1.hok.fresh (MM _))
noncomputable def HQ (ta:TA):TI:=fun σ H R=>ta σ H fun vs H1=>∃j:Int,vs=[.int j]/\-(2 ^ 62)<=j/\j<2 ^ 62/\R (Itr 0 j.toNat) H1
theorem zJ {a:Expr}{ta:TA}{p pos:Pos}(hg:Gl X "range")(hm:X.mg "range"=none)(ha:PA X [a] ta)(hs:starEach [a] X.env=[(false,eval a X.env)]:=by rfl):PI X tg (.Call (.Name "range" p) [a] [] pos) (HQ ta):=by
 intro pins s σ H R I h
 refine Call_ (jZ I hg hm boot_range (N_ (thn (ha pos pins s σ H _ I h) fun us s1 ⟨vs,H1,I1,r1,q1⟩=>?_) hs rfl))
 obtain⟨j,e,q1,q2,q⟩:=q1
 subst e
 cases r1 with
 | cons r rr =>
  cases rr
  obtain⟨t,rfl⟩:=r
  exact call_range_1 (Cb I1 (by decide) (by decide) q1 q2 (by simpa using q))
noncomputable def Hb (wi:TI)(g:TG)(tb:TS):TS:=fun D σ H=>wi σ H fun J H1=>∃W:Nat->Nat->St->Hp->Prop,(∃m,W 0 m σ H1)/\∀i m σ H,W i m σ H ->
 (J.stop i H/\D.nx σ H)\/(J.go i H/\∃N:St->Hp->Prop,(∀σ' H',N σ' H'->∃m',m'<m/\W (i+1) m' σ' H')/\∀x H',J.yld i H x H'->g x σ H' fun σ2 H2=>tb { D with nx:=N,ct:=N,bk:=D.nx } σ2 H2)
noncomputable def nV (fp:List Addr)(h:Heap):List (Addr × Obj):=fp.filterMap fun b=>(h.get? b).map fun o=>(b,o)
theorem gK {fp:List Addr}{h:Heap}{b:Addr}{o:Obj}(hb:b∈fp)(e:h.get? b=some o):(b,o)∈nV fp h:=List.mem_filterMap.mpr ⟨b,hb,by rw[e];rfl⟩
theorem y8 {fp:List Addr}{h:Heap}{p:Addr × Obj}(hp:p∈nV fp h):p.1∈fp/\h.get? p.1=some p.2:=by
 obtain⟨b,hb,e⟩:=List.mem_filterMap.mp hp
 cases q:h.get? b with
 | none=>rw[q] at e;cases e
 | some o =>
  rw[q] at e
  have e':(b,o)=p:=NE e
  subst e'
  exact⟨hb,q⟩
theorem Inv.pinned {pins:List (Addr × Obj)}{σ:St}{H:Hp}{s:Shared}{fp:List Addr}(I:Inv X pins σ H s)(hf:∀b∈fp,mX X pins H b)(ho:∀b∈fp,∃o,s.heap.get? b=some o/\∀v,o.data≠.cell v):Inv X (pins++nV fp s.heap) σ H s :=
 I.pins_of fun p hp=>(MW.mp hp).elim (fun z=>I.pin p (NT _ z)) fun z=>by
  obtain⟨hb,e⟩:=y8 z
  obtain⟨f0,f1,f2,_⟩:=hf p.1 hb
  obtain⟨o,e',d⟩:=ho p.1 hb
  rw[e] at e';cases e'
  exact⟨e,f0,f1,f2,d⟩
theorem Inv.unpinned {pins pl:List (Addr × Obj)}{σ:St}{H:Hp}{s:Shared}(I:Inv X (pins++pl) σ H s):Inv X pins σ H s:=I.pins_of fun p hp=>I.pin p (NT _ (List.mem_append_left _ hp))
theorem F' {iter:Expr}{body:List Stmt}{wi:TI}{g:TG}{tb:TS}{pos:Pos}(hp:PassesOwn (model X.prog X.w) X.A X.env X.xe)(hc:X.calm=true)(hi:PI X tg iter wi)(hg:PG X tg g)(hb:PSs X body tb)
  (hs:∀x,foldedSetIterable iter X.env x=pure x:=by intro _;rfl):PS X (.For tg iter body [] pos) (Hb wi g tb):=by
 intro pins s σ H D I h
 refine wpAny_For (thn (hi pins s σ H _ I h) fun v s1 h1=>thn h1 fun itv s2 h2=>?_) hs
 obtain⟨it,fp,tn,J,H2,e,I2,T,st2,f2,W,⟨m0,w0⟩,turn⟩:=h2
 subst e
 have stat:∀ {H':Hp},(∀b∈fp,H' b=none)->∀b∈fp,mX X pins H' b:=fun hn b hb=>⟨hn b hb,(f2 b hb).2⟩
 refine codeAny_forLoop_any (fun n s'=>∃i σ' H',Inv X pins σ' H' s'/\tn i s'.heap/\(∀b∈fp,H' b=none)/\W i n σ' H') ?_ m0 ⟨0,σ,H2,I2,st2,fun b hb=>(f2 b hb).1,w0⟩
 rintro n s3 ⟨i,σ3,H3,I3,st3,fr3,w3⟩
 rcases turn i n σ3 H3 w3 with⟨stop,qn⟩|⟨go,N,hN,step⟩
 ·refine wpAny_passesOwn hp (thn (T.done X rfl rfl rfl hc i pins s3 σ3 H3 X.xe I3 (stat fr3) st3 stop) fun r s4 ⟨hr,I4⟩=>?_)
  subst hr
  exact wpAny_execs_nil ⟨σ3,H3,I4,qn⟩
 ·refine wpAny_passesOwn hp (thn (T.item X rfl rfl rfl hc i pins s3 σ3 H3 X.xe I3 (stat fr3) st3 go) fun r s4 ⟨u,hr,h4⟩=>?_)
  subst hr
  refine wpAny_passesOwn hp (thn h4 fun _ s5 ⟨x,H5,I5,r5,y5,st5,fr5⟩=>?_)
  have I5':=I5.pinned (stat fr5) (T.obj _ _ st5)
  refine wpAny_passesOwn hp (thn (hg _ s5 σ3 H5 x u _ I5' r5 (step x H5 y5)) fun _ s6 ⟨σ6,H6,I6,q6⟩=>?_)
  refine wpAny_passesOwn hp (thn (hb _ s6 σ6 H6 _ I6 q6) fun f s7 q7=>?_)
  have again:∀ {σ7:St}{H7:Hp},Inv X (pins++nV fp s5.heap) σ7 H7 s7->N σ7 H7->∃m,m<n/\∃i σ' H',Inv X pins σ' H' s7/\tn i s7.heap/\(∀b∈fp,H' b=none)/\W i m σ' H':=fun {σ7 H7} I7 n7=>by
   obtain⟨m',hm,w7⟩:=hN σ7 H7 n7
   refine⟨m',hm,i+1,σ7,H7,I7.unpinned,T.keep _ _ _ st5 fun b hb o e=>(I7.pin (b,o) (NT _ (NT _ (gK hb e)))).1,fun b hb=>?_,w7⟩
   obtain⟨o,e,d⟩:=T.obj _ _ st5 b hb
   exact(I7.pin (b,o) (NT _ (NT _ (gK hb e)))).2.1
  cases f with
  | next=>obtain⟨σ7,H7,I7,n7⟩:=q7;exact again I7 n7
  | cont=>obtain⟨σ7,H7,I7,n7⟩:=q7;exact again I7 n7
  | brk=>obtain⟨σ7,H7,I7,q7⟩:=q7;exact⟨σ7,H7,I7.unpinned,q7⟩
  | ret v=>obtain⟨x7,σ7,H7,I7,r7,q7⟩:=q7;exact⟨x7,σ7,H7,I7.unpinned,r7,q7⟩
end
end L2
namespace L2
noncomputable abbrev R2:=V->V->Hp->VK->Prop
def OpR (X:Cx)(f:Value->Value->Sem Value)(r:R2):Prop :=
 ∀(pins:List (Addr × Obj)) (s:Shared) (σ:St) (H:Hp) (x y:V) (v u:Value) (Q:VK),Inv X pins σ H s->RelV x v->RelV y u->r x y H Q ->
  wpAny (model X.prog X.w) X.A (f v u) (EP X pins σ Q) X.xe s
def UnR (X:Cx)(f:Value->Sem Value)(r:V->Hp->VK->Prop):Prop :=
 ∀(pins:List (Addr × Obj)) (s:Shared) (σ:St) (H:Hp) (x:V) (v:Value) (Q:VK),Inv X pins σ H s->RelV x v->r x H Q ->
  wpAny (model X.prog X.w) X.A (f v) (EP X pins σ Q) X.xe s
def eW (X:Cx)(f:Value)(r:List V->Hp->VK->Prop):Prop :=
 ∀(pins:List (Addr × Obj)) (s:Shared) (σ:St) (H:Hp) (xs:List V) (us:List Value) (Q:VK),Inv X pins σ H s->Vals xs us->r xs H Q ->
  wpAny (model X.prog X.w) X.A (call f us) (EP X pins σ Q) X.xe s
def Kj (X:Cx)(r:V->Hp->(Bool->Hp->Prop)->Prop):Prop :=
 ∀(pins:List (Addr × Obj)) (s:Shared) (σ:St) (H:Hp) (x:V) (v:Value) (Q:Bool->Hp->Prop),Inv X pins σ H s->RelV x v->r x H Q ->
  wpAny (model X.prog X.w) X.A (truthy v) (TP X pins σ Q) X.xe s
noncomputable def tOp (r:R2)(ta tb:TE):TE:=fun σ H Q=>ta σ H fun x H1=>tb σ H1 fun y H2=>r x y H2 Q
noncomputable def tUn (r:V->Hp->VK->Prop)(ta:TE):TE:=fun σ H Q=>ta σ H fun x H1=>r x H1 Q
noncomputable def rI (C:Int->Int->Prop)(g:Int->Int->V):R2:=fun x y H Q=>∃i j,x=.int i/\y=.int j/\C i j/\Q (g i j) H
noncomputable def rI0 (g:Int->Int->V):R2:=fun x y H Q=>∃i j,x=.int i/\y=.int j/\Q (g i j) H
noncomputable def rU (g:Int->V):V->Hp->VK->Prop:=fun x H Q=>∃i,x=.int i/\Q (g i) H
section
variable {X:Cx}{a b c:Expr}{ta tb tc:TE}{pos:Pos}
theorem Gz (ha:PE X a ta)(hb:PE X b tb){pins:List (Addr × Obj)}{s:Shared}{σ:St}{H:Hp}{R:V->V->Hp->Prop}(I:Inv X pins σ H s)
  (h:ta σ H fun x H1=>tb σ H1 fun y H2=>R x y H2) {Q:Value->Shared->Prop}{f:Value->Value->Sem Value}
  (hf:∀v u s2 x y H2,Inv X pins σ H2 s2->RelV x v->RelV y u->R x y H2->wpAny (model X.prog X.w) X.A (f v u) Q X.xe s2) :
  wpAny (model X.prog X.w) X.A (eval a X.env) (fun v s₁=>wpAny (model X.prog X.w) X.A (eval b X.env) (fun u s₂=>wpAny (model X.prog X.w) X.A (f v u) Q X.xe s₂) X.xe s₁) X.xe s:=by
 refine thn (ha pins s σ H _ I h) fun v s1 ⟨x,H1,I1,r1,q1⟩=>?_
 refine thn (hb pins s1 σ H1 _ I1 q1) fun u s2 ⟨y,H2,I2,r2,q2⟩=>?_
 exact hf v u s2 x y H2 I2 r1 r2 q2
theorem Hh {op:Operator}{r:R2}(ho:OpR X (binaryOp op) r)(ha:PE X a ta)(hb:PE X b tb):PE X (.BinOp a op b pos) (tOp r ta tb):=by
 intro pins s σ H Q I h
 exact wpAny_BinOp (Gz ha hb I h fun v u s2 x y H2 I2 rx ry q=>ho pins s2 σ H2 x y v u Q I2 rx ry q)
theorem Ih {op:UnaryOp}{r:V->Hp->VK->Prop}(ho:UnR X (unaryOp op) r)(ha:PE X a ta):PE X (.UnaryOp op a pos) (tUn r ta):=by
 intro pins s σ H Q I h
 exact UnaryOp_ (thn (ha pins s σ H _ I h) fun v s1 ⟨x,H1,I1,r1,q1⟩=>ho pins s1 σ H1 x v Q I1 r1 q1)
theorem opI {f:Value->Value->Sem Value}{C:Int->Int->Prop}{g:Int->Int->Int}
  (rule:∀(i j:Int) (t u:Tok) (s:Shared) (Q:Value->Shared->Prop) (E:Value->Shared->Prop),C i j->Q (.int (g i j) s.toks) { s with toks:=s.toks+1 }->wpAny (model X.prog X.w) X.A (f (.int i t) (.int j u)) Q E s) :
  OpR X f (rI C fun i j=>.int (g i j)):=by
 intro pins s σ H x y v u Q I rx ry h
 obtain⟨i,j,rfl,rfl,hc,q⟩:=h
 obtain⟨t,rfl⟩:=rx
 obtain⟨t',rfl⟩:=ry
 exact rule i j t t' s _ _ hc ⟨.int (g i j),H,I.tok _,⟨_,rfl⟩,q⟩
theorem GZ {f:Value->Value->Sem Value}{g:Int->Int->Int}
  (rule:∀(i j:Int) (t u:Tok) (s:Shared) (Q:Value->Shared->Prop) (E:Value->Shared->Prop),Q (.int (g i j) s.toks) { s with toks:=s.toks+1 }->wpAny (model X.prog X.w) X.A (f (.int i t) (.int j u)) Q E s) :
  OpR X f (rI0 fun i j=>.int (g i j)):=by
 intro pins s σ H x y v u Q I rx ry h
 obtain⟨i,j,rfl,rfl,q⟩:=h
 obtain⟨t,rfl⟩:=rx
 obtain⟨t',rfl⟩:=ry
 exact rule i j t t' s _ _ ⟨.int (g i j),H,I.tok _,⟨_,rfl⟩,q⟩
theorem DN {f:Value->Value->Sem Value}{g:Int->Int->Bool}
  (rule:∀(i j:Int) (t u:Tok) (s:Shared) (Q:Value->Shared->Prop) (E:Value->Shared->Prop),Q (.bool (g i j)) s->wpAny (model X.prog X.w) X.A (f (.int i t) (.int j u)) Q E s) :
  OpR X f (rI0 fun i j=>.bl (g i j)):=by
 intro pins s σ H x y v u Q I rx ry h
 obtain⟨i,j,rfl,rfl,q⟩:=h
 obtain⟨t,rfl⟩:=rx
 obtain⟨t',rfl⟩:=ry
 exact rule i j t t' s _ _ ⟨.bl (g i j),H,I,rfl,q⟩
def wp (i j:Int):Prop:=0<=j/\j<=1000000/\i.natAbs<2 ^ 64
theorem Fw:OpR X (binaryOp .Add) (rI0 fun i j=>.int (i+j)):=GZ fun _ _ _ _ _ _ _ q=>add_int q
theorem Ge:OpR X (binaryOp .Sub) (rI0 fun i j=>.int (i-j)):=GZ fun _ _ _ _ _ _ _ q=>sub_int q
theorem ES:OpR X (binaryOp .Mod) (rI (fun _ j=>0<j) fun i j=>.int (i % j)):=opI fun i j _ _ _ _ _ hc q=>by
 have h1:(0:Int)<j:=hc
 exact mod_int' (by omega) (by rw[Int.fmod_eq_emod_of_nonneg i (by exact Int.le_of_lt ‹_›)];exact q)
theorem FN:OpR X (binaryOp .Pow) (rI wp fun i j=>.int (i ^ j.toNat)):=opI fun _ _ _ _ _ _ _ hc q=>pow_int_small hc.1 hc.2.1 hc.2.2 q
theorem unI {f:Value->Sem Value}{g:Int->Int}
  (rule:∀(i:Int) (t:Tok) (s:Shared) (Q:Value->Shared->Prop) (E:Value->Shared->Prop),Q (.int (g i) s.toks) { s with toks:=s.toks+1 }->wpAny (model X.prog X.w) X.A (f (.int i t)) Q E s) :
  UnR X f (rU fun i=>.int (g i)):=by
 intro pins s σ H x v Q I rx h
 obtain⟨i,rfl,q⟩:=h
 obtain⟨t,rfl⟩:=rx
 exact rule i t s _ _ ⟨.int (g i),H,I.tok _,⟨_,rfl⟩,q⟩
theorem EJ:UnR X (unaryOp .USub) (rU fun i=>.int (-i)):=unI fun _ _ _ _ _ q=>neg_int q
end
noncomputable def HW:V->V->Bool
 | .non,.non=>true | .non,.int _=>true | .int _,.non=>true | .non,.bl _=>true | .bl _,.non=>true | .non,.str _=>true | .str _,.non=>true
 | .int _,.int _=>true | .bl _,.bl _=>true | .str _,.str _=>true | .byt _,.byt _=>true
 | .int _,.str _=>true | .str _,.int _=>true | .bl _,.str _=>true | .str _,.bl _=>true
 | _,_=>false
noncomputable def rEq:R2:=fun x y H Q=>HW x y=true/\Q (.bl (decide (x=y))) H
noncomputable def rNe:R2:=fun x y H Q=>HW x y=true/\Q (.bl (!decide (x=y))) H
theorem xF {i j:Int}:decide (V.int i=V.int j)=(i == j):=by
 rw[PQ]
 simp
theorem AG {i j:Bool}:decide (V.bl i=V.bl j)=(i == j):=by
 rw[PQ]
 simp
theorem xJ {i j:Str}:decide (V.str i=V.str j)=(i == j):=by
 rw[PQ]
 simp
theorem xp {i j:Array UInt8}:decide (V.byt i=V.byt j)=(i.toList == j.toList):=by
 rw[PQ]
 cases i
 cases j
 simp
section
variable {X:Cx}{a b c:Expr}{ta tb tc:TE}{pos:Pos}
theorem aE {pins:List (Addr × Obj)}{σ:St}{H:Hp}{s:Shared}{Q:VK}{k k':Bool}(I:Inv X pins σ H s)(q:Q (.bl k) H)(e:k=k'):EP X pins σ Q (.bool k') s:=by
 subst e
 exact⟨.bl k,H,I,rfl,q⟩
theorem BH:OpR X (compareOp .Eq) rEq:=by
 intro pins s σ H x y v u Q I rx ry h
 obtain⟨hs,q⟩:=h
 cases x with
 | non =>
  cases rx
  cases y with
  | non=>cases ry;exact PySem.EqNone.eq_none_none (aE I q (by simp))
  | bl j=>cases ry;exact PySem.EqNone.eq_none_bool (aE I q (by simp))
  | int j=>obtain⟨t',rfl⟩:=ry;exact PySem.EqNone.eq_none_int (aE I q (by simp))
  | str j=>obtain⟨t',rfl⟩:=ry;exact PySem.EqNone.eq_none_str (aE I q (by simp))
  | _=>exact absurd (show false=true from hs) MF
 | bl i =>
  cases rx
  cases y with
  | non=>cases ry;exact PySem.EqNone.eq_bool_none (aE I q (by simp))
  | bl j=>cases ry;exact eq_bool (aE I q AG)
  | str j=>obtain⟨t',rfl⟩:=ry;exact PySem.EqMixed.eq_bool_str (aE I q (by simp))
  | _=>exact absurd (show false=true from hs) MF
 | int i =>
  obtain⟨t,rfl⟩:=rx
  cases y with
  | non=>cases ry;exact PySem.EqNone.eq_int_none (aE I q (by simp))
  | int j=>obtain⟨t',rfl⟩:=ry;exact eq_int (aE I q xF)
  | str j=>obtain⟨t',rfl⟩:=ry;exact PySem.EqMixed.eq_int_str (aE I q (by simp))
  | _=>exact absurd (show false=true from hs) MF
 | str i =>
  obtain⟨t,rfl⟩:=rx
  cases y with
  | non=>cases ry;exact PySem.EqNone.eq_str_none (aE I q (by simp))
  | bl j=>cases ry;exact PySem.EqMixed.eq_str_bool (aE I q (by simp))
  | int j=>obtain⟨t',rfl⟩:=ry;exact PySem.EqMixed.eq_str_int (aE I q (by simp))
  | str j=>obtain⟨t',rfl⟩:=ry;exact eq_str (aE I q xJ)
  | _=>exact absurd (show false=true from hs) MF
 | byt i =>
  obtain⟨t,rfl⟩:=rx
  cases y with
  | byt j=>obtain⟨t',rfl⟩:=ry;exact W.eq_bytes (aE I q xp)
  | _=>exact absurd (show false=true from hs) MF
 | _=>cases y <;> exact absurd (show false=true from hs) MF
theorem Cq:OpR X (compareOp .NotEq) rNe:=by
 intro pins s σ H x y v u Q I rx ry h
 obtain⟨hs,q⟩:=h
 cases x with
 | non =>
  cases rx
  cases y with
  | non=>cases ry;exact PySem.EqNone.ne_none_none (aE I q (by simp))
  | bl j=>cases ry;exact PySem.EqNone.ne_none_bool (aE I q (by simp))
  | int j=>obtain⟨t',rfl⟩:=ry;exact PySem.EqNone.ne_none_int (aE I q (by simp))
  | str j=>obtain⟨t',rfl⟩:=ry;exact PySem.EqNone.ne_none_str (aE I q (by simp))
  | _=>exact absurd (show false=true from hs) MF
 | bl i =>
  cases rx
  cases y with
  | non=>cases ry;exact PySem.EqNone.ne_bool_none (aE I q (by simp))
  | bl j=>cases ry;exact ne_bool (aE I q (NV not AG))
  | str j=>obtain⟨t',rfl⟩:=ry;exact PySem.EqMixed.ne_bool_str (aE I q (by simp))
  | _=>exact absurd (show false=true from hs) MF
 | int i =>
  obtain⟨t,rfl⟩:=rx
  cases y with
  | non=>cases ry;exact PySem.EqNone.ne_int_none (aE I q (by simp))
  | int j=>obtain⟨t',rfl⟩:=ry;exact ne_int (aE I q (NV not xF))
  | str j=>obtain⟨t',rfl⟩:=ry;exact PySem.EqMixed.ne_int_str (aE I q (by simp))
  | _=>exact absurd (show false=true from hs) MF
 | str i =>
  obtain⟨t,rfl⟩:=rx
  cases y with
  | non=>cases ry;exact PySem.EqNone.ne_str_none (aE I q (by simp))
  | bl j=>cases ry;exact PySem.EqMixed.ne_str_bool (aE I q (by simp))
  | int j=>obtain⟨t',rfl⟩:=ry;exact PySem.EqMixed.ne_str_int (aE I q (by simp))
  | str j=>obtain⟨t',rfl⟩:=ry;exact ne_str (aE I q (NV not xJ))
  | _=>exact absurd (show false=true from hs) MF
 | byt i =>
  obtain⟨t,rfl⟩:=rx
  cases y with
  | byt j=>obtain⟨t',rfl⟩:=ry;exact W.ne_bytes (aE I q (NV not xp))
  | _=>exact absurd (show false=true from hs) MF
 | _=>cases y <;> exact absurd (show false=true from hs) MF
theorem Ij:OpR X (compareOp .Lt) (rI0 fun i j=>.bl (decide (i<j))):=DN fun _ _ _ _ _ _ _ q=>lt_int q
theorem HE:OpR X (compareOp .LtE) (rI0 fun i j=>.bl (decide (i<=j))):=DN fun _ _ _ _ _ _ _ q=>le_int q
theorem HD:OpR X (compareOp .Gt) (rI0 fun i j=>.bl (decide (j<i))):=DN fun _ _ _ _ _ _ _ q=>gt_int q
theorem HF:OpR X (compareOp .GtE) (rI0 fun i j=>.bl (decide (j<=i))):=DN fun _ _ _ _ _ _ _ q=>ge_int q
theorem zM:OpR X (compareOp .In) (fun x y H Q=>∃i j,x=.str i/\y=.str j/\Q (.bl (!(Builtin.Str.occurrences j i 0 j.length 1).isEmpty)) H):=by
 intro pins s σ H x y v u Q I rx ry h
 obtain⟨i,j,rfl,rfl,q⟩:=h
 obtain⟨t,rfl⟩:=rx
 obtain⟨t',rfl⟩:=ry
 exact in_str (aE I q rfl)
theorem Gv:OpR X (compareOp .Is) (fun x y H Q=>y=.non/\Q (.bl (decide (x=.non))) H):=by
 intro pins s σ H x y v u Q I rx ry h
 obtain⟨rfl,q⟩:=h
 cases ry
 refine is_none_gen (aE I q ?_)
 cases x <;> first
  | (cases rx;rfl)
  | (obtain⟨t,rfl⟩:=rx;rfl)
theorem CB:OpR X (compareOp .IsNot) (fun x y H Q=>y=.non/\Q (.bl (!decide (x=.non))) H):=by
 intro pins s σ H x y v u Q I rx ry h
 obtain⟨rfl,q⟩:=h
 cases ry
 refine isnot_none_gen (aE I q ?_)
 cases x <;> first
  | (cases rx;rfl)
  | (obtain⟨t,rfl⟩:=rx;rfl)
theorem CQ {op:CmpOp}{r:R2}(ho:OpR X (compareOp op) r)(ha:PE X a ta)(hb:PE X b tb)(hm:behindInMarks op b=false):PE X (.Compare a [op] [b] pos) (tOp r ta tb):=by
 intro pins s σ H Q I h
 exact wpAny_Compare1 (Gz ha hb I h fun v u s2 x y H2 I2 rx ry q=>ho pins s2 σ H2 x y v u Q I2 rx ry q) hm
noncomputable def Ha (t:TE):TT:=fun σ H Q=>t σ H fun x H'=>∃k,x=.bl k/\Q k H'
theorem Dl {op:CmpOp}{r:R2}(ho:OpR X (compareOp op) r)(ha:PE X a ta)(hb:PE X b tb)(hm:behindInMarks op b=false):PT X (.Compare a [op] [b] pos) (Ha (tOp r ta tb)):=by
 intro pins s σ H Q I h
 refine wpAny_isTrue_Compare1 (thn (ha pins s σ H _ I h) fun v s1 ⟨x,H1,I1,r1,q1⟩=>thn (hb pins s1 σ H1 _ I1 q1) fun u s2 ⟨y,H2,I2,r2,q2⟩ =>
  thn (ho pins s2 σ H2 x y v u _ I2 r1 r2 q2) fun c s3 ⟨z,H3,I3,r3,k,e,q3⟩=>?_) hm
 subst e
 cases r3
 exact wpAny_truthy_bool ⟨H3,I3,q3⟩
def Fq (K:W.Frag)(x:V)(H:Hp)(k:Bool):Prop :=
 match x with
 | .non=>k=false
 | .bl b=>k=b
 | .int i=>k=(i != 0)
 | .str y=>y.length<=sizeLine/\k=((y.length:Int) != 0)
 | .byt y=>y.size<=sizeLine/\k=((y.size:Int) != 0)
 | .ref p=>(∃xs,SqL K H p xs/\k=!xs.isEmpty)\/(∃xs,SqT K H p xs/\k=!xs.isEmpty)\/∃kvs,H p=some (.dK kvs)/\k=!kvs.isEmpty
 | _=>False
theorem vE {κ:Type}{kvs:List (κ × V)}{vs:List (κ × Value)}(r:KV kvs vs):(!vs.isEmpty)=!kvs.isEmpty:=by
 cases r <;> rfl
theorem n6 {xs:List V}{its:List Value}(r:Vals xs its):(!its.toArray.isEmpty)=!xs.isEmpty:=by
 cases r <;> simp
theorem jU:(sizeLine:Nat)<2 ^ 63:=by rw[sizeLine_eq];decide
theorem FK:Kj X (fun x H Q=>∃k,Fq X.K x H k/\Q k H):=by
 intro pins s σ H x v Q I rx h
 obtain⟨k,e,q⟩:=h
 have hl:=jU
 have hs:sizeLine=16777216:=sizeLine_eq
 cases x with
 | non =>
  cases rx
  have e':k=false:=e
  subst e'
  exact truthy_none ⟨H,I,q⟩
 | bl b =>
  cases rx
  have e':k=b:=e
  subst e'
  exact wpAny_truthy_bool ⟨H,I,q⟩
 | int i =>
  obtain⟨t,rfl⟩:=rx
  have e':k=(i != 0):=e
  subst e'
  exact PySem.P.truthy_int ⟨H,I,q⟩
 | str y =>
  obtain⟨t,rfl⟩:=rx
  obtain⟨hy,e'⟩:y.length<=sizeLine/\k=((y.length:Int) != 0):=e
  subst e'
  exact PySem.P.truthy_str (by omega) ⟨H,I.tok _,q⟩
 | byt y =>
  obtain⟨t,rfl⟩:=rx
  obtain⟨hy,e'⟩:y.size<=sizeLine/\k=((y.size:Int) != 0):=e
  subst e'
  exact W.truthy_bytes (by omega) ⟨H,I.tok _,q⟩
 | ref p =>
  cases rx
  have e':(∃xs,SqL X.K H p xs/\k=!xs.isEmpty)\/(∃xs,SqT X.K H p xs/\k=!xs.isEmpty)\/∃kvs,H p=some (.dK kvs)/\k=!kvs.isEmpty:=e
  rcases e' with⟨xs,hx,e'⟩|⟨xs,hx,e'⟩|⟨kvs,hx,e'⟩
  ·subst e'
   obtain⟨its,r,pl,hz⟩:=I.list hx
   have hlen:=r.length
   exact wpAny_truthy_list pl.isList (by simp only[List.size_toArray];omega) ⟨H,I.tok _,by rw[n6 r];exact q⟩
  ·subst e'
   obtain⟨its,r,pl,hz⟩:=I.tuple hx
   have hlen:=r.length
   exact truthy_tuple pl (by simp only[List.size_toArray];omega) ⟨H,I.tok _,by rw[n6 r];exact q⟩
  ·subst e'
   obtain⟨hz,hS,vs,r,m⟩:kvs.length<=sizeLine/\(p == sysModules)=false/\∃vs,KV kvs vs/\s.heap.DictOf (sK X.prog X.w) p vs:=I.hok p _ hx
   have hlen:kvs.length=vs.length:=Paired.length r
   exact wpAny_truthy_dict hS m (by omega) ⟨H,I.tok _,by rw[vE r];exact q⟩
 | _=>exact(show False from e).elim
theorem gf (ha:PE X a ta)(he:∀whole,isTrue a X.env whole=(do let v <-whole;standAt a.pos;holding [v] (truthy v))) :
  PT X a (fun σ H Q=>ta σ H fun x H'=>∃k,Fq X.K x H' k/\Q k H'):=by
 intro pins s σ H Q I h
 exact isTrue_plain (thn (ha pins s σ H _ I h) fun v s1 ⟨x,H1,I1,r1,q1⟩=>FK pins s1 σ H1 x v Q I1 r1 q1) (he _)
theorem wq:OpR X (binaryOp .Add) (fun x y H Q=>∃i j,x=.str i/\y=.str j/\i.length+j.length<=sizeLine/\Q (.str (i++j)) H):=by
 intro pins s σ H x y v u Q I rx ry h
 obtain⟨i,j,rfl,rfl,hz,q⟩:=h
 obtain⟨t,rfl⟩:=rx
 obtain⟨t',rfl⟩:=ry
 exact add_str (fun t' tk=>⟨.str (i++j),H,I.tok _,⟨_,rfl⟩,q⟩) hz
theorem j9 {x:V}{us:List Value}(r:Vals [x] us):∃u,us=[u]/\RelV x u:=by
 cases r with
 | cons r1 r2=>cases r2;exact⟨_,rfl,r1⟩
theorem rm {x y:V}{us:List Value}(r:Vals [x,y] us):∃u w',us=[u,w']/\RelV x u/\RelV y w':=by
 cases r with
 | cons r1 r2 =>
  cases r2 with
  | cons r3 r4=>cases r4;exact⟨_,_,rfl,r1,r3⟩
theorem Ci:eW X (.builtin "abs") (fun xs H Q=>∃i,xs=[.int i]/\Q (.int (if i<0 then -i else i)) H):=by
 intro pins s σ H xs us Q I r h
 obtain⟨i,rfl,q⟩:=h
 obtain⟨u,rfl,t,rfl⟩:=j9 r
 exact call_abs_int fun u tk=>⟨.int (if i<0 then -i else i),H,I.tok _,⟨_,rfl⟩,q⟩
theorem yO (hc:X.calm=true):eW X (.builtin "max") (fun xs H Q=>∃i j,xs=[.int i,.int j]/\Q (.int (if j > i then j else i)) H):=by
 intro pins s σ H xs us Q I r h
 obtain⟨i,j,rfl,q⟩:=h
 obtain⟨u,w',rfl,⟨t,rfl⟩,⟨t',rfl⟩⟩:=rm r
 refine max_two_ints (I.ok.hd hc) fun h' tk k=>⟨_,H,I.kept k,?_,q⟩
 by_cases hj:j > i
 ·rw[ML hj,ML hj];exact⟨_,rfl⟩
 ·rw[MJ hj,MJ hj];exact⟨_,rfl⟩
theorem yD (hc:X.calm=true):eW X (.builtin "min") (fun xs H Q=>∃i j,xs=[.int i,.int j]/\Q (.int (if j<i then j else i)) H):=by
 intro pins s σ H xs us Q I r h
 obtain⟨i,j,rfl,q⟩:=h
 obtain⟨u,w',rfl,⟨t,rfl⟩,⟨t',rfl⟩⟩:=rm r
 refine min_two_ints (I.ok.hd hc) fun h' tk k=>⟨_,H,I.kept k,?_,q⟩
 by_cases hj:j<i
 ·rw[ML hj,ML hj];exact⟨_,rfl⟩
 ·rw[MJ hj,MJ hj];exact⟨_,rfl⟩
end
end L2
namespace L2
structure ObjM (h:Heap)(x dx C:Addr)(mA:Str->Option Value):Prop where
 obj:h.get? x=some (W.instObj C dx)
 ns:h.Ns1 dx mA
 ne:dx≠x
theorem zP {h:Heap}{dx:Addr}{mA:Str->Option Value}(n:h.Ns1 dx mA):∃od,h.get? dx=some od/\∀name,W.lookIn name od=some (mA name):=by
 obtain⟨o,es,ep,ho,hd,hk,_,hm⟩:=n
 refine⟨o,ho,fun name=>?_⟩
 have e:=hm name
 unfold nsFind findBy at e
 rw[<-Array.find?_toList] at e
 unfold W.lookIn
 rw[hd]
 dsimp only
 split
 ·rename_i y q
  rw[q] at e
  exact NV some e
 ·rename_i q
  rw[q] at e
  have a:es.toList.any (·.refKey)=false:=by
   rw[List.any_eq_false]
   intro y hy
   obtain⟨z,t,hkey⟩:=hk y (Array.mem_toList_iff.mp hy)
   simp[DictEntry.refKey,hkey]
  have a':¬es.toList.any (·.refKey)=true:=by rw[a];exact MF
  rw[MJ a']
  exact NV some e
theorem ObjM.look {h:Heap}{x dx C:Addr}{mA:Str->Option Value}(I:ObjM h x dx C mA):∃od,W.InstAt h x (W.instObj C dx) C (some od)/\∀name,W.lookIn name od=some (mA name) :=
 let ⟨od,ho,hl⟩:=zP I.ns
 ⟨od,⟨I.obj,rfl,rfl,ho⟩,hl⟩
section
variable {prog:Program}{w:World}{A:Around}{E:Value->Shared->Prop}{s:Shared}{K:W.Frag}{x dx C f:Addr}{mA:Str->Option Value}{name:Str}{v:Value}
end
section
variable {P:Program}{w:World}{H H':Hp}{h h':Heap}{a C dx:Addr}{fs fs':List (Str × V)}
theorem DZ (hok:HOk P w H h)(e:H a=some (.ins C dx fs)):∃mA,ObjM h a dx C mA/\(∀f,F9 (fs.lookup f) (mA f))/\PySem.Within mA (fs.map (·.1))/\fs.length<=1000/\H dx=some (.own a):=by
 obtain⟨d,z,ne,ob,mA,n,r,q⟩:=(show ObjOk P w H h a (.ins C dx fs) from hok a _ e)
 exact⟨mA,⟨ob,n,ne⟩,r,q,z,d⟩
end
structure Cls (K:W.Frag)(C:Addr):Prop where
 pg:W.plainGet K C Str.empty=true
 hd:W.hasDictIn K C=true
 po:W.plainOver K C=true
 sa:W.findIn K (.ref C) "__setattr__"=some (some (.builtin "object.__setattr__"))
theorem Cls.get {K:W.Frag}{C:Addr}(c:Cls K C)(f:Str):W.plainGet K C f=true:=c.pg
structure Con (K:W.Frag)(C:Addr)(f:Str)(v:V)(u:Value):Prop where
 at_:W.findIn K (.ref C) f=some (some u)
 rel:RelV v u
 get:W.specialIn K u "__get__"=some none
 cp:W.copiedNames.contains f=false
structure Mw (K:W.Frag)(C:Addr)(m:Str)(f:Addr):Prop where
 at_:W.findIn K (.ref C) m=some (some (.ref f))
 fn:W.isFn K (.ref f)=true
 kp:W.keepIn K (.ref f)=true
section
variable {X:Cx}{pins:List (Addr × Obj)}{σ:St}{H:Hp}{s:Shared}{a C dx:Addr}{fs:List (Str × V)}{f:Str}{v:V}{A:Around}{E:Value->Shared->Prop}
end
section
variable {X:Cx}{o e value:Expr}{f:Str}{pos pos' tpos:Pos}{ta tv:TE}
end
section
variable {X:Cx}{pins:List (Addr × Obj)}{σ:St}{H:Hp}{s:Shared}{A:Around}{E:Value->Shared->Prop}{Q:Value->Shared->Prop}{c:Value}{b:Bool}
inductive nr (K:W.Frag)(H:Hp):V->Value->Prop where
 | non:nr K H .non (.type "NoneType")
 | bl (x:Bool):nr K H (.bl x) (.type "bool")
 | int (i:Int):nr K H (.int i) (.type "int")
 | str (x:Str):nr K H (.str x) (.type "str")
 | flt (x:UInt64):nr K H (.flt x) (.type "float")
 | lst {a:Addr} {xs:List V} (e:H a=some (.lst xs)):nr K H (.ref a) (.type "list")
 | frz {a:Addr} {o:Obj} {xs:List V} (e:H a=some (.frz o (.lst xs))):nr K H (.ref a) (.type "list")
 | tup {a:Addr} {xs:List V} (e:H a=some (.tup xs)):nr K H (.ref a) (.type "tuple")
 | dK {a:Addr} {kvs:List (Key × V)} (e:H a=some (.dK kvs)):nr K H (.ref a) (.type "dict")
 | dT {a:Addr} {kvs:List (List Key × V)} (e:H a=some (.dT kvs)):nr K H (.ref a) (.type "dict")
 | ins {a C dx:Addr} {fs:List (Str × V)} (e:H a=some (.ins C dx fs)) (cl:Cls K C) (ha:W.findIn K (.ref C) "__class__"=some (some (.builtin "object.__class__")))
   (hn:W.specialIn K (.builtin "object.__class__") "__get__"=some (some (.builtin "getset_descriptor.__get__"))) (htk:W.takesIn K (.builtin "object.__class__")=some true)
   (hm:W.mroIn K C (.type "object")=some true):nr K H (.ref a) (.ref C)
theorem eh {x:V}{u t:Value}(I:Inv X pins σ H s)(rx:RelV x u)(ty:nr X.K H x t)(e:W.kitOne X.K t c=some b)(h:∀tk,Q (.bool b) { s with toks:=tk }) :
  wpAny (model X.prog X.w) A (call (.builtin "isinstance") [u,c]) Q E s:=by
 cases ty with
 | non=>cases (show u=Value.none from rx);exact OR W.kitx_none I.kIn True.intro e (fun z=>nomatch z) h
 | bl y=>cases (show u=Value.bool y from rx);exact OR W.kitx_bool I.kIn True.intro e (fun z=>nomatch z) h
 | int i=>obtain⟨t,q⟩:=(show ∃t,u=Value.int i t from rx);cases q;exact OR W.kitx_int I.kIn True.intro e (fun z=>nomatch z) h
 | str y=>obtain⟨t,q⟩:=(show ∃t,u=Value.str y t from rx);cases q;exact OR W.kitx_str I.kIn True.intro e (fun z=>nomatch z) h
 | flt y=>obtain⟨t,q⟩:=(show ∃t,u=Value.float y t from rx);cases q;exact OR W.kitx_float I.kIn True.intro e (fun z=>nomatch z) h
 | @lst a xs ea =>
  cases (show u=Value.ref a from rx)
  obtain⟨_,_,n,_,h1⟩:=(show ObjOk X.prog X.w H s.heap a (.lst xs) from I.hok a _ ea)
  exact OR Q9 I.kIn ⟨_,h1,rfl⟩ e (fun z=>nomatch z) h
 | @frz a ob xs ea =>
  cases (show u=Value.ref a from rx)
  obtain⟨_,_,_,n,_,h1⟩:=(show ObjOk X.prog X.w H s.heap a (.frz ob (.lst xs)) from I.hok a _ ea)
  exact OR Q9 I.kIn ⟨_,h1,rfl⟩ e (fun z=>nomatch z) h
 | @tup a xs ea =>
  cases (show u=Value.ref a from rx)
  obtain⟨_,_,_,p⟩:=(show ObjOk X.prog X.w H s.heap a (.tup xs) from I.hok a _ ea)
  obtain⟨o,h1,h2,_⟩:=p
  exact OR W.kitx_tuple I.kIn ⟨o,h1,h2⟩ e (fun z=>nomatch z) h
 | @dK a kvs ea =>
  cases (show u=Value.ref a from rx)
  obtain⟨_,_,vs,_,p⟩:=(show ObjOk X.prog X.w H s.heap a (.dK kvs) from I.hok a _ ea)
  obtain⟨o,es,ep,h1,h2,_⟩:=p
  exact OR Q_ I.kIn ⟨o,h1,h2.1⟩ e (fun z=>nomatch z) h
 | @dT a kvs ea =>
  cases (show u=Value.ref a from rx)
  obtain⟨_,_,xs,_,o,es,ep,h1,h2,_⟩:=(show ObjOk X.prog X.w H s.heap a (.dT kvs) from I.hok a _ ea)
  exact OR Q_ I.kIn ⟨o,h1,h2.1⟩ e (fun z=>nomatch z) h
 | @ins a C dx fs ea cl ha hn htk hm =>
  cases (show u=Value.ref a from rx)
  obtain⟨mA,O,_⟩:=DZ I.hok ea
  obtain⟨od,J,_⟩:=O.look
  exact OR (W.kitx_own (cl.get _) cl.hd ha hn htk hm) I.kIn J e (fun z=>nomatch z) h
end
end L2
namespace L2
structure Room (k:Nat)(A:Around):Prop where
 hd:A.handled=none
 dp:A.depth+3*k+5<recursionLimit
 un:A.units+16*k+200<cLine
 gd:A.guards=some []
theorem Room.mono {j k:Nat}{A:Around}(r:Room k A)(h:j<=k):Room j A:=⟨r.hd,by have:=r.dp;omega,by have:=r.un;omega,r.gd⟩
theorem Room.deeper {k:Nat}{A:Around}(r:Room (k+1) A)(env:Env):Room k (A.deeper env) :=
 ⟨r.hd,by have:=r.dp;show A.depth+1+3*k+5<_;omega,by have:=r.un;show A.units+3+16*k+200<_;omega,r.gd⟩
theorem Room.depth {k:Nat}{A:Around}(r:Room k A):A.depth<recursionLimit:=by have:=r.dp;omega
theorem Room.units {k:Nat}{A:Around}(r:Room k A):A.units+64<cLine:=by have:=r.un;omega
noncomputable def uw:TA:=fun _ H Q=>Q [] H
noncomputable def iu (ta:TE)(tr:TA):TA:=fun σ H Q=>ta σ H fun x H1=>tr σ H1 fun xs H2=>Q (x::xs) H2
section
variable {X:Cx}{e:Expr}{es:List Expr}{te:TE}{t:TA}{pos:Pos}
theorem gW:PA X [] uw:=fun _ _ _ _ H Q I h=>Calls.spliced_nil ⟨[],H,I,.nil,h⟩
theorem DO (ha:PE X e te)(hr:PA X es t)(hs:starEach (e::es) X.env=(false,eval e X.env)::starEach es X.env:=by rfl):PA X (e::es) (iu te t):=by
 intro pos pins s σ H Q I h
 rw[hs]
 show wpAny _ _ (spliced ((false,eval e X.env)::backTo pos (starEach es X.env))) _ _ s
 refine Calls.spliced_cons (thn (ha pins s σ H _ I h) fun u s1 ⟨x,H1,I1,r1,q1⟩=>?_)
 exact thn (hr pos pins s1 σ H1 _ I1 q1) fun us s2 ⟨xs,H2,I2,r2,q2⟩=>⟨x::xs,H2,I2,.cons r1 r2,q2⟩
noncomputable def J6 (t:TA):TE:=fun σ H Q=>t σ H fun xs H1=>xs.length<=sizeLine/\∀p,H1 p=none->Q (.ref p) (upd H1 p (.tup xs))
noncomputable def JY (t:TA):TE:=fun σ H Q=>t σ H fun xs H1=>xs.length<=sizeLine/\∀p,H1 p=none->Q (.ref p) (upd H1 p (.lst xs))
theorem EZ {x1}(h:PA X es t):PE X (.Tuple es x1 pos) (J6 t):=by
 intro pins s σ H Q I hq
 refine wpAny_Tuple_spliced (thn (h pos pins s σ H _ I hq) fun us s1 ⟨xs,H1,I1,r,z,q⟩=>⟨by rw[<-r.length];exact z,?_⟩)
 have hf:H1 s1.heap.objs.size=none:=I1.hok.fresh (MM _)
 refine⟨.ref s1.heap.objs.size,upd H1 s1.heap.objs.size (.tup xs),I1.laid (t':=s1.toks) (fun b u e=>MD _ e) (MM _) ?_,rfl,q _ hf⟩
 exact⟨z,us,r,⟨_,MX _ rfl,rfl,_,rfl⟩⟩
theorem F0 (h:PA X es t):PE X (.List es pos) (JY t):=by
 intro pins s σ H Q I hq
 refine wpAny_List_spliced (thn (h pos pins s σ H _ I hq) fun us s1 ⟨xs,H1,I1,r,z,q⟩=>⟨by rw[<-r.length];exact z,?_⟩)
 have hf:H1 s1.heap.objs.size=none:=I1.hok.fresh (MM _)
 refine⟨.ref s1.heap.objs.size,upd H1 s1.heap.objs.size (.lst xs),I1.laid (t':=s1.toks) (fun b u e=>MD _ e) (MM _) ?_,rfl,q _ hf⟩
 exact⟨z,us,0,r,MX _ rfl⟩
end
noncomputable abbrev Sp:=List V->Hp->VK->XK->Prop
noncomputable abbrev CXT:=List Env->Hp->Shared->XK->Value->Shared->Prop
structure zS (P:Program)(w:World)(K:W.Frag)(mg:Str->Option Value)(base:Heap)(A:Around)(outer:List Env)(s:Shared)(H:Hp):Prop where
 frames:A.frames=some outer
 mod:Mod K mg base
 bs:∀b o,base.get? b=some o->s.heap.get? b=some o/\H b=none
 bsz:base.objs.size<=s.heap.objs.size
 funs:s.heap.FunFrames base outer
 frf:∀b∈frs outer,H b=none
 hok:HOk P w H s.heap
 bare:AllBare s.gens
def CE (outer:List Env)(P:Program)(w:World)(H:Hp)(s:Shared)(Q:VK)(u:Value)(s':Shared):Prop :=
 ∃v H',s'.os=s.os/\AllBare s'.gens/\Un (frs outer) [] H H' s.heap s'.heap/\HOk P w H' s'.heap/\RelV v u/\Q v H'
def CR (CX:CXT)(outer:List Env)(P:Program)(w:World)(H:Hp)(s:Shared)(Q:VK)(E:XK)(r:Result)(s':Shared):Prop :=
 match r with
 | .ok (.ret u)=>CE outer P w H s Q u s'
 | .ok _=>False
 | .error e=>CX outer H s E e s'
structure pZ (P:Program)(w:World)(K:W.Frag)(mg:Str->Option Value)(base:Heap)(CX:CXT)(k:Nat)(f:Addr)(fd:FuncData)(ps:List Str)(sp:Sp):Prop where
 len:∀vs H Q E,sp vs H Q E->vs.length=ps.length
 run:∀(A:Around) (outer:List Env) (s:Shared) (H:Hp) (args:Args) (us:List Value) (vs:List V) (Q:VK) (E:XK),Room k A->zS P w K mg base A outer s H->BindsTo s fd args (ps.zip us)->Vals vs us->sp vs H Q E ->
  codeAny (model P w) A (.call (.ref f) args) (CR CX outer P w H s Q E) s
section
variable {X:Cx}{pins:List (Addr × Obj)}{σ:St}{H:Hp}{s s':Shared}
theorem Inv.env0 (I:Inv X pins σ H s):zS X.prog X.w X.K X.mg X.base X.A X.stack s H :=
 ⟨I.ok.frames,I.ok.mod,I.bs,NI I.ok.bsz I.sz,I.stack,I.stkFree,I.hok,I.bare⟩
theorem Inv.after {Q:VK}{u:Value}(I:Inv X pins σ H s)(h:CE X.stack X.prog X.w H s Q u s'):EP X pins σ Q u s':=by
 obtain⟨v,H',os,bare,un,hok,r,q⟩:=h
 obtain⟨hh,g,d,t,os'⟩:=s'
 obtain rfl:os'=s.os:=os
 exact⟨v,H',I.call (h':=hh) (g':=g) (d':=d) (t':=t) (ch:=[]) un hok bare (fun b z=>absurd z (by simp)),r,q⟩
end
noncomputable def q8 (sp:Sp)(dvs:List V)(E:XK)(t:TA):TE:=fun σ H Q=>t σ H fun vs H1=>sp (vs++dvs) H1 Q E
def Binds (K:W.Frag)(fd:FuncData)(ps:List Str)(ds:List Value):Prop :=
 ∀(s:Shared) (us:List Value),K.In s.heap->(us++ds).length=ps.length->BindsTo s fd ⟨us,[]⟩ (ps.zip (us++ds))
theorem Binds.all {K:W.Frag}{fd:FuncData}{ps:List Str}(h:∀us:List Value,us.length=ps.length->bindArgs fd ⟨us,[]⟩=pure (ps.zip us)):Binds K fd ps []:=fun s us _ hl=>by
 rw[O4] at hl |-
 exact .of_eq (h us hl)
def sM (CX:CXT)(X:Cx)(E:XK):Prop:=∀(pins:List (Addr × Obj)) (σ:St) (H:Hp) (s:Shared) (e:Value) (s':Shared),Inv X pins σ H s->CX X.stack H s E e s'->X.xe e s'
section
variable {X:Cx}{CX:CXT}{k:Nat}{f C:Addr}{fd:FuncData}{ps:List Str}{sp:Sp}{dvs:List V}{ds:List Value}{E:XK}{x m:Str}{p pos apos:Pos}{e o:Expr}{es:List Expr}{ta:TE}{t:TA}
theorem BI {pins:List (Addr × Obj)}{σ:St}{H:Hp}{s:Shared}{Q:VK}{us:List Value}{vs:List V}(F:pZ X.prog X.w X.K X.mg X.base CX k f fd ps sp)(hr:Room k X.A)(hb:Binds X.K fd ps ds)(hd:Vals dvs ds)(hx:sM CX X E)
  (I:Inv X pins σ H s) (r:Vals vs us) (h:sp (vs++dvs) H Q E):wpAny (model X.prog X.w) X.A (call (.ref f) us) (EP X pins σ Q) X.xe s:=by
 have r2:Vals (vs++dvs) (us++ds):=r.append hd
 have hl:(us++ds).length=ps.length:=by rw[<-r2.length];exact F.len _ _ _ _ h
 refine wpAny_call (codeAny_mono (F.run X.A X.stack s H ⟨us,[]⟩ (us++ds) (vs++dvs) Q E hr I.env0 (hb s us I.kIn hl) r2 h) fun r s' hq=>?_)
 cases r with
 | error e=>exact hx pins σ H s e s' I hq
 | ok fl =>
  cases fl with
  | ret u=>exact I.after hq
  | next=>exact False.elim hq
  | brk=>exact False.elim hq
  | cont=>exact False.elim hq
theorem CM (F:pZ X.prog X.w X.K X.mg X.base CX k f fd ps sp)(hr:Room k X.A)(hg:Gl X x)(hm:X.mg x=some (.ref f))(hk:W.keepIn X.K (.ref f)=true)(hb:Binds X.K fd ps ds)(hd:Vals dvs ds)(hx:sM CX X E)
  (ha:PA X (e::es) t) (hdb:(x == ("__debug__":Str))=false:=by decide) (he:starEach (e::es) X.env=(false,eval e X.env)::starEach es X.env:=by rfl) (hpl:(backTo pos (starEach es X.env)).any (·.1)=false:=by rfl) :
  PE X (.Call (.Name x p) (e::es) [] pos) (q8 sp dvs E t):=by
 intro pins s σ H Q I h
 refine wpAny_Call_Name_kw (sH I hg hm ?_ hdb)
 refine W.callWith_K (h₀:=X.base) I.ok.mod.kin hk (thn (ha pos pins s σ H _ I h) fun us s1 ⟨vs,H1,I1,r,q⟩=>⟨I1.kIn,?_⟩) he hpl
 exact BI F hr hb hd hx I1 r q
theorem B0 (F:pZ X.prog X.w X.K X.mg X.base CX k f fd ps sp)(hr:Room k X.A)(hg:Gl X x)(hm:X.mg x=some (.ref f))(hk:W.keepIn X.K (.ref f)=true)(hb:Binds X.K fd ps ds)(hd:Vals dvs ds)(hx:sM CX X E)
  (hdb:(x == ("__debug__":Str))=false:=by decide):PE X (.Call (.Name x p) [] [] pos) (q8 sp dvs E uw):=by
 intro pins s σ H Q I h
 refine wpAny_Call_Name_kw (sH I hg hm ?_ hdb)
 exact W.callWith_K0 I.kIn hk (BI (us:=[]) F hr hb hd hx I .nil h)
structure Mk (K:W.Frag)(C f:Addr):Prop where
 makes:W.makesIn K C=true
 init:W.findIn K (.ref C) "__init__"=some (some (.ref f))
 fn:W.isFn K (.ref f)=true
 kp:W.keepIn K (.ref C)=true
end
section
variable {X:Cx}{CX:CXT}{k:Nat}{f C:Addr}{fd:FuncData}{ps ks:List Str}{sp:Sp}{E:XK}{x m:Str}{p pos apos kpos:Pos}{e o:Expr}{es:List Expr}{kws:List Keyword}{te ta:TE}{t tk:TA}{nm:Option Str}
structure Jl (K:W.Frag)(fd:FuncData)(ps ks:List Str)(g:List Value->List Value->List Value)(gV:List V->List V->List V):Prop where
 to:∀(s:Shared) (us ws:List Value),K.In s.heap->(g us ws).length=ps.length->BindsTo s fd ⟨us,ks.zip ws⟩ (ps.zip (g us ws))
 rel:∀ {vs:List V}{us:List Value}{zs:List V}{ws:List Value},Vals vs us->Vals zs ws->Vals (gV vs zs) (g us ws)
variable {g:List Value->List Value->List Value}{gV:List V->List V->List V}
end
structure ag (N P:List Str)(sc:Scope):Prop where
 kind:sc.kind=.function
 co:sc.isCoroutine=false
 gen:sc.isGenerator=false
 nd:N.Nodup
 pre:N.take P.length=P
 par:∀x∈P,sc.names.lookup x=some .local\/sc.names.lookup x=some .cell
 nofree:∀y∈sc.names,y.2≠.free
theorem qY {kindOf:Str->Option NameKind}{x:Str}:∀ {binds:List (Str × Value)}{m:Str->Option Value},(∀v,(x,v) ∉ binds)->bindL kindOf binds m x=m x
 | [],_,_=>rfl
 | (n,v)::r,m,h=>by
  unfold bindL
  rw[qY fun w hw=>h w (MT _ hw)]
  split
  ·have:x≠n:=by rintro rfl;exact h v NH
   simp[this]
  ·rfl
theorem qW {kindOf:Str->Option NameKind}{x:Str}:∀ {binds:List (Str × Value)}{m:Str->Option Value},(∀v,(x,v) ∉ binds)->bindC kindOf binds m x=m x
 | [],_,_=>rfl
 | (n,v)::r,m,h=>by
  unfold bindC
  rw[qW fun w hw=>h w (MT _ hw)]
  split
  ·rfl
  ·have:x≠n:=by rintro rfl;exact h v NH
   simp[this]
theorem q_ {kindOf:Str->Option NameKind}{x:Str}{v:Value}:∀ {P:List Str}{vs:List Value}{i:Nat}{m:Str->Option Value},P.Nodup->P[i]?=some x->vs[i]?=some v->kindOf x=some .local ->
  bindL kindOf (P.zip vs) m x=some v
 | [],_,_,_,_,h,_,_=>by simp at h
 | _::_,[],_,_,_,_,h,_=>by simp at h
 | p::P,w::vs,0,m,nd,h1,h2,hk=>by
  simp at h1 h2;subst h1;subst h2
  show bindL kindOf ((p,w)::P.zip vs) m p=_
  unfold bindL
  rw[qY fun v hv=>(MP.mp nd).1 (QX hv).1,ML hk]
  simp
 | p::P,w::vs,i+1,m,nd,h1,h2,hk=>by
  show bindL kindOf ((p,w)::P.zip vs) m x=_
  unfold bindL
  exact q_ (i:=i) (MP.mp nd).2 (by simpa using h1) (by simpa using h2) hk
theorem qO {kindOf:Str->Option NameKind}{x:Str}{v:Value}:∀ {P:List Str}{vs:List Value}{i:Nat}{m:Str->Option Value},P.Nodup->P[i]?=some x->vs[i]?=some v->kindOf x≠some .local ->
  bindC kindOf (P.zip vs) m x=some v
 | [],_,_,_,_,h,_,_=>by simp at h
 | _::_,[],_,_,_,_,h,_=>by simp at h
 | p::P,w::vs,0,m,nd,h1,h2,hk=>by
  simp at h1 h2;subst h1;subst h2
  show bindC kindOf ((p,w)::P.zip vs) m p=_
  unfold bindC
  rw[qW fun v hv=>(MP.mp nd).1 (QX hv).1,MJ hk]
  simp
 | p::P,w::vs,i+1,m,nd,h1,h2,hk=>by
  show bindC kindOf ((p,w)::P.zip vs) m x=_
  unfold bindC
  exact qO (i:=i) (MP.mp nd).2 (by simpa using h1) (by simpa using h2) hk
noncomputable def start (N:List Str)(vs:List V):St:=vs.map some++List.replicate (N.length-vs.length) none
noncomputable def lc (CX:CXT)(P:Program)(w:World)(K:W.Frag)(mg:Str->Option Value)(base:Heap)(N:List Str)(qual:Str)(scope:Scope)(f:Addr)(cd:Value)(A:Around)(outer:List Env)(s:Shared)(H:Hp)(E:XK):Cx where
 prog:=P
 w:=w
 K:=K
 mg:=mg
 base:=base
 A:=A.deeper (envOfC qual scope s.heap.objs.size f cd)
 N:=N
 s₀:=s
 H₀:=H
 env:=envOfC qual scope s.heap.objs.size f cd
 outer:=outer
 stack:=envOfC qual scope s.heap.objs.size f cd::outer
 ex:=[]
 calm:=true
 fn:=fun _=>true
 pn:=[]
 xe:=fun e s'=>wpAny (model P w) (A.deeper (envOfC qual scope s.heap.objs.size f cd)) (leaving (envOfC qual scope s.heap.objs.size f cd) e) (fun _ s''=>CX outer H s E e s'') (fun e' s''=>CX outer H s E e' s'') s'
theorem uV {sc:Scope}{n:Nat}{x:Str}(h:sc.names.lookup x=some .cell):∃c,(cellsFrom n sc.names []).lookup x=some c:=by
 have q:=W.cellsFrom_some sc.names n [] (.inl h)
 exact Option.isSome_iff_exists.mp q
theorem yU {CX:CXT}{P:Program}{w:World}{K:W.Frag}{mg:Str->Option Value}{base:Heap}{N ps:List Str}{qual:Str}{scope:Scope}{f:Addr}{cd:Value}{A:Around}{outer:List Env}{s s1:Shared}{H:Hp}{E:XK}{us:List Value}{vs:List V}
  (S:ag N ps scope) (hd:A.handled=none) (e0:zS P w K mg base A outer s H) (hl:vs.length=ps.length) (r:Vals vs us)
  (x:InCallC s s.heap.objs.size (bindL (envOfC qual scope s.heap.objs.size f cd).kindOf (ps.zip us) fun _=>none) (cellsFrom (s.heap.objs.size+1) scope.names []) (bindC (envOfC qual scope s.heap.objs.size f cd).kindOf (ps.zip us) fun _=>none) s1) :
  Inv (lc CX P w K mg base N qual scope f cd A outer s H E) [] (start N vs) H s1:=by
 have hpl:ps.length<=N.length:=by have:=NV List.length S.pre;rw[OS] at this;omega
 obtain⟨h1,tk,rfl,hk⟩:=x.done
 have noA:∀b:Addr,b ∉ (lc CX P w K mg base N qual scope f cd A outer s H E).ex:=fun b z=>absurd (show b∈([]:List Addr) from z) (by simp)
 refine⟨⟨e0.mod,S.kind,rfl,rfl,MM _,fun y z c h1 h2=>?_,fun y hy=>?_,fun y c _ h=>?_,fun _=>hd,Around.frames_deeper e0.frames,.inr ⟨rfl,rfl⟩,fun b z=>absurd z (noA b),e0.bs,e0.bsz,fun b _ _=>noA b,fun b z=>absurd z (noA b),e0.funs,e0.frf⟩,
  rfl,e0.bare,Un.kept hk,⟨_,x.toInCall.ns,fun i y v h1 h2 h3=>?_⟩,fun y c h=>⟨_,x.cell y c h⟩,e0.hok.fresh (MM _),fun y c h=>?_,fun p hp=>absurd (show p∈([]:List (Addr × Obj)) from hp) (by simp),e0.hok.kept hk,?_⟩
 ·exact name_of_addr x.apart (N4 h1) (N4 h2)
 ·have hy:scope.names.lookup y=some .cell\/scope.names.lookup y=some .free:=hy
  rcases hy with hy|hy
  ·exact uV hy
  ·exact absurd rfl (S.nofree _ (N4 hy))
 ·exact OA (x.above y c (N4 h))
 ·have hi:i<vs.length:=by
   unfold start at h2
   by_cases hi:i<vs.length
   ·exact hi
   ·rw[M6 (by simpa using hi)] at h2
    rw[PY] at h2
    split at h2 <;> cases h2
  have ha:vs[i]?=some v:=by
   unfold start at h2
   rw[M1 (by simpa using hi),MN] at h2
   cases e:vs[i]? with
   | none=>rw[e] at h2;cases h2
   | some a=>rw[e] at h2;cases h2;rfl
  obtain⟨u,hu,rv⟩:=r.get ha
  have hp:ps[i]?=some y:=by
   rw[<-S.pre,OG (by omega)];exact h1
  have ndP:ps.Nodup:=by rw[<-S.pre];exact S.nd.sublist (List.take_sublist _ _)
  refine⟨u,rv,?_⟩
  rcases S.par y (MQ hp) with k|k
  ·exact .inl ⟨k,q_ ndP hp hu k⟩
  ·obtain⟨c,e⟩:=uV (n:=s.heap.objs.size+1) k
   refine .inr ⟨.inl k,c,e,?_⟩
   have q:=x.cell y c e
   rw[qO ndP hp hu (by show scope.names.lookup y≠_;rw[k];decide)] at q
   exact q
 ·exact e0.hok.fresh (OA (x.above y c (N4 h)))
 ·unfold start
  show _=N.length
  rw[NF,MS,List.length_replicate]
  omega
theorem HU {CX:CXT}{P:Program}{w:World}{K:W.Frag}{mg:Str->Option Value}{base:Heap}{k:Nat}{f:Addr}{name qual:Str}{params:Arguments}{body:List Stmt}{scope:Scope}{dV kV doc pm cdv ct oc:Value}{an od:Option Addr}
  {osl:Array (Option Value)}{N ps:List Str}{sp:Sp} (lk:K.lookup f=some ⟨oc,od,.func (W.fnOf name qual params body scope dV kV doc pm an cdv ct),osl⟩) (hcd:W.codeIn K cdv qual=true) (S:ag N ps scope)
  (len:∀vs H Q E,sp vs H Q E->vs.length=ps.length)
  (hbody:∀(A:Around) (outer:List Env) (s:Shared) (H:Hp) (vs:List V) (Q:VK) (E:XK),Room k (A.deeper (envOfC qual scope s.heap.objs.size f cdv))->sp vs H Q E ->
   ∃t,PSs (lc CX P w K mg base N qual scope f cdv A outer s H E) body t/\t { nx:=fun _ H'=>Q .non H',rt:=Q } (start N vs) H) :
  pZ P w K mg base CX (k+1) f (W.fnOf name qual params body scope dV kV doc pm an cdv ct) ps sp:=by
 refine⟨len,fun A outer s H args us vs Q E hr e0 hb r hsp=>?_⟩
 have hl:=len _ _ _ _ hsp
 have KX:K.In s.heap:=e0.mod.kin.keeps fun b o e=>(e0.bs b o e).1
 have lim:s.heap.NoLimit:=e0.mod.nolimit.keeps fun b o e=>(e0.bs b o e).1
 have hkind:∀y∈ps.zip us,scope.names.lookup y.1=some .local\/(scope.names.lookup y.1=some .cell/\((cellsFrom (s.heap.objs.size+1) scope.names []).lookup y.1).isSome=true):=fun ⟨n,v⟩ hy=>by
  rcases S.par n (QX hy).1 with q|q
  ·exact .inl q
  ·exact .inr ⟨q,W.cellsFrom_some _ _ _ (.inl q)⟩
 refine codeAny_call_function hr.depth (KX _ _ lk) rfl S.co S.gen rfl (W.codeRec_of KX hcd) (hb _ _ _ _ ?_)
 refine wpAny_newFunctionEnv_cells S.kind hkind fun env he s1 x=>?_
 subst he
 refine⟨lim.keeps x.toInCall.keep,codeAny_func ?_⟩
 obtain⟨t,ht,hq⟩:=hbody A outer s H vs Q E (hr.deeper _) hsp
 have I:Inv (lc CX P w K mg base N qual scope f cdv A outer s H E) [] (start N vs) H s1:=yU S hr.hd e0 hl r x
 refine wpAny_mono (ht [] s1 (start N vs) H _ I hq) (fun fl s' hs=>?_) fun e s' hs=>hs
 have fin:∀ {σ':St}{H':Hp}{v:V}{u:Value},Inv (lc CX P w K mg base N qual scope f cdv A outer s H E) [] σ' H' s'->RelV v u->Q v H'->CE outer P w H s Q u s' :=
  fun {σ' H' v u} J rv q=>⟨v,H',J.os,J.bare,J.base,J.hok,rv,q⟩
 cases fl with
 | ret u =>
  obtain⟨v,σ',H',J,rv,q⟩:=hs
  exact fin J rv q
 | next =>
  obtain⟨σ',H',J,q⟩:=hs
  exact fin (v:=V.non) (u:=Value.none) J rfl q
 | brk =>
  obtain⟨_,_,_,q⟩:=hs
  exact False.elim q
 | cont =>
  obtain⟨_,_,_,q⟩:=hs
  exact False.elim q
end L2
namespace L2
section
variable {X:Cx}{x:Str}{p pos:Pos}{e:Expr}{es:List Expr}{t:TA}{id T:String}{r:List V->Hp->VK->Prop}
noncomputable def tCB (r:List V->Hp->VK->Prop)(t:TA):TE:=fun σ H Q=>t σ H fun vs H1=>r vs H1 Q
theorem BN (hc:eW X (.builtin id) r)(hg:Gl X x)(hm:X.mg x=none)(hv:bootBuiltins x=some (.builtin id))(ha:PA X (e::es) t)(hn:x≠"__name__":=by decide)(hdb:(x == ("__debug__":Str))=false:=by decide)
  (he:starEach (e::es) X.env=(false,eval e X.env)::starEach es X.env:=by rfl) (hpl:(backTo pos (starEach es X.env)).any (·.1)=false:=by rfl):PE X (.Call (.Name x p) (e::es) [] pos) (tCB r t):=by
 intro pins s σ H Q I h
 refine wpAny_Call_Name_kw (jZ I hg hm hv ?_ hn hdb)
 exact PyProof.Rows.callWith_builtin1 (thn (ha pos pins s σ H _ I h) fun us s1 ⟨vs,H1,I1,r1,q1⟩=>hc pins s1 σ H1 vs us Q I1 r1 q1) he hpl
theorem yq (hc:eW X (.type T) r)(hg:Gl X x)(hm:X.mg x=none)(hv:bootBuiltins x=some (.type T))(ha:PA X (e::es) t)(hn:x≠"__name__":=by decide)(hdb:(x == ("__debug__":Str))=false:=by decide)
  (he:starEach (e::es) X.env=(false,eval e X.env)::starEach es X.env:=by rfl) (hpl:(backTo pos (starEach es X.env)).any (·.1)=false:=by rfl):PE X (.Call (.Name x p) (e::es) [] pos) (tCB r t):=by
 intro pins s σ H Q I h
 refine wpAny_Call_Name_kw (jZ I hg hm hv ?_ hn hdb)
 exact N_ (thn (ha pos pins s σ H _ I h) fun us s1 ⟨vs,H1,I1,r1,q1⟩=>hc pins s1 σ H1 vs us Q I1 r1 q1) he hpl
end
end L2
namespace HT
open PySem PyProof.Rows
section
open PySem.SeqAt
open PySem.AutoSeq1 (wpAny_loadPart')
open PySem.MeetsSeq PySem.MeetsSeq2 PySem.MeetsSeq3
end
section
variable {prog:Program}{w:World}{A:Around}{E:Value->Shared->Prop}{s:Shared}
theorem cat_tup {t b:Addr}{vs ws:List Value}{Q:Value->Shared->Prop}(ht:IsTup s.heap t vs.toArray)(hb:IsTup s.heap b ws.toArray)(hv:vs≠[])
  (h1:ws=[]->Q (.ref t) s) (h2:ws≠[]->Q (.ref s.heap.objs.size) { s with heap:=s.heap.push { cls:=.type "tuple",data:=.seq (vs++ws).toArray } })
  (hsz:vs.length+ws.length<=sizeLine):wpAny (model prog w) A (binaryOp .Add (.ref t) (.ref b)) Q E s:=by
 obtain⟨⟨cls,dd,data,sl⟩,ho,hc,n,hd⟩:=id ht
 obtain⟨⟨cls2,dd2,data2,sl2⟩,ho2,hc2,n2,hd2⟩:=id hb
 simp only at hc hd hc2 hd2
 subst hc hd hc2 hd2
 have e:vs.toArray++ws.toArray=(vs++ws).toArray:=by simp
 by_cases hw:ws=[]
 ·exact concat_meets ⟨_,ho,rfl⟩ ⟨_,ho2,rfl⟩ noFill_tuple_add seq_tuple_add P1 PZ (PN _ _)
   (tuple_addW1 t b vs.toArray ws.toArray n n2 dd dd2 sl sl2 (by simpa using hv) (by simp[hw])) ⟨ho,ho2,h1 hw⟩
 ·refine concat_meets ⟨_,ho,rfl⟩ ⟨_,ho2,rfl⟩ noFill_tuple_add seq_tuple_add P1 PZ (PN _ _)
   (tuple_addW2 t b vs.toArray ws.toArray n n2 dd dd2 sl sl2 (by simpa using hv) (by simpa using hw) (by rw[MY,MY];exact hsz)) ⟨ho,ho2,?_⟩
  rw[e]
  exact h2 hw
noncomputable def sIx (n d:Nat):Option Int->Nat
 | none=>d
 | some v=>if v<0 then (v+(n:Int)).toNat else min v.toNat n
theorem sIx_none (n d:Nat):sIx n d none=d:=rfl
theorem sIx_nat (n d k:Nat):sIx n d (some (k:Int))=min k n:=by
 show (if (k:Int)<0 then ((k:Int)+(n:Int)).toNat else min (k:Int).toNat n)=min k n
 rw[MJ (by omega),NR]
theorem Fj (n d:Nat)(hd:d<=n)(o:Option Int):sIx n d o<=n:=by
 cases o with
 | none=>exact hd
 | some v =>
  show (if v<0 then (v+(n:Int)).toNat else min v.toNat n)<=n
  by_cases hv:v<0
  ·rw[ML hv];omega
  ·rw[MJ hv];exact Nat.min_le_right _ _
theorem xa (v:Int)(n d:Nat):(if v<0 then max (v+(n:Int)) 0 else min v (n:Int))=((sIx n d (some v):Nat):Int):=by
 show (if v<0 then max (v+(n:Int)) 0 else min v (n:Int))=(((if v<0 then (v+(n:Int)).toNat else min v.toNat n):Nat):Int)
 by_cases hv:v<0
 ·simp only[if_pos hv];omega
 ·simp only[if_neg hv];omega
theorem vX (lo hi:Option Int)(n:Nat):Builtin.Slice.sliceAdjust lo hi 1 (n:Int)=(((sIx n 0 lo:Nat):Int),((sIx n n hi:Nat):Int)):=by
 have h1:¬((1:Int)<0):=by decide
 unfold Builtin.Slice.sliceAdjust
 simp only[h1,if_false]
 refine Prod.ext ?_ ?_
 ·cases lo with
  | none=>rfl
  | some v=>exact xa v n 0
 ·cases hi with
  | none=>rfl
  | some v=>exact xa v n n
theorem vF (i j:Nat):Builtin.Slice.slicePlaces (i:Int) (j:Int) 1=j-i:=by
 unfold Builtin.Slice.slicePlaces
 have h1:(1:Int) > 0:=by decide
 simp only[h1,if_true,Int.ediv_one]
 split <;> omega
theorem oz {v:Value}{o:Option Int}{Q:Option Int->Shared->Prop}(p:IsPart v o)(h:Q o s):wpAny (model prog w) A (Builtin.Slice.slicePartIndex v) Q E s:=by
 cases p with
 | none=>exact slicePart_none h
 | int i t=>exact slicePart_int h
theorem sliceApplied_gen {sl:Addr}{vl vu:Value}{lo hi:Option Int}{n:Nat}{Q:Int × Int × Nat->Shared->Prop}(hs:s.heap.IsSliceOf sl vl vu .none)(pl:IsPart vl lo)(pu:IsPart vu hi)
  (h:Q (((sIx n 0 lo:Nat):Int),1,sIx n n hi-sIx n 0 lo) s):wpAny (model prog w) A (Builtin.Slice.sliceApplied (.ref sl) (pure (n:Int))) Q E s:=by
 obtain⟨os,hos,hcs,hds⟩:=id hs
 unfold Builtin.Slice.sliceApplied Builtin.Slice.sliceFields
 refine MB (MB (wpAny_field hos hds (x:=vl) rfl (MB (wpAny_field hos hds (x:=vu) rfl (MB (wpAny_field hos hds (x:=.none) rfl (ME ?_)))))))
 refine MB (slicePart_none ?_)
 show wpAny _ _ (if ((1:Int) == 0)=true then _ else _) _ _ s
 rw[MJ (by decide)]
 refine MB (oz pl (MB (oz pu (MB (ME ?_)))))
 show wpAny _ _ (match Builtin.Slice.sliceAdjust lo hi 1 (n:Int) with|(lo,hi)=>pure (lo,(1:Int),Builtin.Slice.slicePlaces lo hi 1)) _ _ s
 rw[vX lo hi n]
 show wpAny _ _ (pure (((sIx n 0 lo:Nat):Int),(1:Int),Builtin.Slice.slicePlaces ((sIx n 0 lo:Nat):Int) ((sIx n n hi:Nat):Int) 1)) _ _ s
 rw[vF]
 exact ME h
theorem Ar (xs:Array Value)(i k:Nat):((List.range k).filterMap fun (m:Nat)=>xs[((i:Int)+(m:Int)*1).toNat]?).toArray=((xs.toList.drop i).take k).toArray:=by
 have e:(fun (m:Nat)=>xs[((i:Int)+(m:Int)*1).toNat]?)=fun m=>xs[i+m]?:=by
  funext m
  have:((i:Int)+(m:Int)*1).toNat=i+m:=by omega
  rw[this]
 rw[e]
 have:=pick_run xs i k
 rw[List.filterMap_map] at this
 have e2:((fun x=>xs[x]?) ∘ fun x=>i+x)=fun m=>xs[i+m]?:=rfl
 rw[e2] at this
 rw[this]
theorem getItem_tuple_cut {t sl:Addr}{items:Array Value}{vl vu:Value}{lo hi:Option Int}{Q:Value->Shared->Prop}(ht:IsTup s.heap t items)(hs:s.heap.IsSliceOf sl vl vu .none)(pl:IsPart vl lo)(pu:IsPart vu hi)
  (hw:¬(sIx items.size 0 lo=0/\sIx items.size items.size hi=items.size))
  (h:Q (.ref s.heap.objs.size) { s with heap:=s.heap.push { cls:=.type "tuple",data:=.seq ((items.toList.drop (sIx items.size 0 lo)).take (sIx items.size items.size hi-sIx items.size 0 lo)).toArray } })
  (hsz:items.size<=sizeLine):wpAny (model prog w) A (getItem (.ref t) (.ref sl)) Q E s:=by
 have htake:sizeOk (.seq ((items.toList.drop (sIx items.size 0 lo)).take (sIx items.size items.size hi-sIx items.size 0 lo)).toArray):=by
  show ((items.toList.drop (sIx items.size 0 lo)).take (sIx items.size items.size hi-sIx items.size 0 lo)).toArray.size<=sizeLine
  rw[MY,OS,PC,M9]
  omega
 have hj:sIx items.size items.size hi<=items.size:=Fj _ _ (MM _) hi
 obtain⟨os,hos,hcs,hds⟩:=id hs
 have hTs:s.TypeIs (.ref sl) "slice":=⟨os,hos,hcs⟩
 unfold getItem
 try with_reducible refine N2 ?_
 first|refine MB (ME ?_)|skip
 refine MB (wpAny_sequenceKey ht.typeIs (by decide) ?_)
 refine MB (wpAny_callSpecial?_slot (name:=Str.ofString "__getitem__") ht.typeIs OF
  (wpAny_call_entry OF ht.typeIs entry_tuple_getitem ?_ (args_tuple_getitem _ _)))
 show wpAny _ _ (Builtin.Tuple.tupleItemsOf (.ref t) >>= _) _ _ s
 refine MB (tupleItemsOf_ ht ?_)
 refine MB (wpAny_typeOf hTs ?_)
 rw[ML (by decide)]
 refine MB (sliceApplied_gen hs pl pu ?_)
 have hno:¬((((sIx items.size 0 lo:Nat):Int) == 0 && (1:Int) == 1 && (sIx items.size items.size hi-sIx items.size 0 lo) == items.size)=true):=by
  intro q
  rw[M3,M3] at q
  have q1:((sIx items.size 0 lo:Nat):Int)=0:=eq_of_beq q.1.1
  have q2:sIx items.size items.size hi-sIx items.size 0 lo=items.size:=eq_of_beq q.2
  exact hw ⟨by omega,by omega⟩
 show wpAny _ _ (if (((sIx items.size 0 lo:Nat):Int) == 0 && (1:Int) == 1 && (sIx items.size items.size hi-sIx items.size 0 lo) == items.size)=true then _ else _) _ _ s
 rw[MJ hno,Ar]
 first
  | exact MB (m:=Builtin.Tuple.tupleExact _) (wpAny_newObj_type (ME ⟨_,rfl,ME h⟩) htake)
  | exact MB (m:=Builtin.Tuple.tupleExact _) (wpAny_newObj_type (MB (ME (ME ⟨_,rfl,ME h⟩))) htake)
  | exact MB (MB (m:=Builtin.Tuple.tupleExact _) (wpAny_newObj_type (ME (ME ⟨_,rfl,ME h⟩)) htake))
  | exact MB (MB (m:=Builtin.Tuple.tupleExact _) (wpAny_newObj_type (ME ⟨_,rfl,ME h⟩) htake))
end
end HT
namespace L2
noncomputable abbrev TO:=St->Hp->(Option Int->Hp->Prop)->Prop
def PO (X:Cx)(e:Option Expr)(t:TO):Prop :=
 ∀(pins:List (Addr × Obj)) (s:Shared) (σ:St) (H:Hp) (Q:Option Int->Hp->Prop),Inv X pins σ H s->t σ H Q ->
  wpAny (model X.prog X.w) X.A (evalPart e X.env) (fun u s'=>∃o H',Inv X pins σ H' s'/\IsPart u o/\Q o H') X.xe s
noncomputable def Dc:TO:=fun _ H Q=>Q none H
noncomputable def Ig (t:TE):TO:=fun σ H Q=>t σ H fun x H1=>∃i,x=.int i/\Q (some i) H1
section
variable {X:Cx}{e:Expr}{te:TE}{lo hi:Option Expr}{tl th:TO}{pos p2:Pos}
theorem Dq:PO X none Dc:=by
 intro pins s σ H Q I h
 rw[evalPart_none]
 exact ME ⟨none,H,I,.none,h⟩
theorem C9 (h:PE X e te):PO X (some e) (Ig te):=by
 intro pins s σ H Q I hw
 rw[evalPart_some]
 refine thn (h pins s σ H _ I hw) fun u s1 ⟨x,H1,I1,r1,q1⟩=>?_
 obtain⟨i,rfl,q⟩:=q1
 obtain⟨t,rfl⟩:=r1
 exact⟨some i,H1,I1,.int i t,q⟩
def SlR (X:Cx)(r:V->Option Int->Option Int->Hp->VK->Prop):Prop :=
 ∀(pins:List (Addr × Obj)) (s:Shared) (σ:St) (H:Hp) (x:V) (v vl vu:Value) (lo hi:Option Int) (sl:Addr) (Q:VK),Inv X pins σ H s->RelV x v->s.heap.IsSliceOf sl vl vu .none->IsPart vl lo->IsPart vu hi->r x lo hi H Q ->
  ∃T id,typeLookup (.type T) "__getitem__"=pure (some (.builtin id))/\s.TypeIs v T/\wpAny (model X.prog X.w) X.A (getItem v (.ref sl)) (EP X pins σ Q) X.xe s
noncomputable def tSl (r:V->Option Int->Option Int->Hp->VK->Prop)(te:TE)(tl th:TO):TE:=fun σ H Q=>te σ H fun x H1=>tl σ H1 fun l H2=>th σ H2 fun u H3=>r x l u H3 Q
theorem B6 {r:V->Option Int->Option Int->Hp->VK->Prop}(hr:SlR X r)(he:PE X e te)(hl:PO X lo tl)(hu:PO X hi th):PE X (.Subscript e (.Slice lo hi none p2) pos) (tSl r te tl th):=by
 intro pins s σ H Q I h
 refine Subscript_ (thn (he pins s σ H _ I h) fun v s1 ⟨x,H1,I1,r1,q1⟩=>?_)
 refine wpAny_Slice (thn (hl pins s1 σ H1 _ I1 q1) fun vl s2 ⟨l,H2,I2,pl,q2⟩=>thn (hu pins s2 σ H2 _ I2 q2) fun vu s3 ⟨u,H3,I3,pu,q3⟩=>?_)
 rw[evalPart_none]
 refine ME ?_
 have I4:Inv X pins σ H3 { s3 with heap:=s3.heap.push { cls:=.type "slice",data:=.fields #[vl,vu,.none] } }:=I3.kept (t':=s3.toks) fun b ob q=>MD _ q
 obtain ⟨T,id,hT,ht,hg⟩:=hr pins { s3 with heap:=s3.heap.push { cls:=.type "slice",data:=.fields #[vl,vu,.none] } } σ H3 x v vl vu l u s3.heap.objs.size Q I4 r1 (Heap.IsSliceOf.new ..) pl pu q3
 show wpAny (model X.prog X.w) X.A (subscriptTail e (.Slice lo hi none p2) v (.ref s3.heap.objs.size)) (EP X pins σ Q) X.xe { s3 with heap:=s3.heap.push { cls:=.type "slice",data:=.fields #[vl,vu,.none] } }
 exact tail_any (ops:=[.ref s3.heap.objs.size,v]) ht hT hg (by with_unfolding_all rfl)
noncomputable def pR (xs:List V)(lo hi:Option Int):List V:=(xs.drop (HT.sIx xs.length 0 lo)).take (HT.sIx xs.length xs.length hi-HT.sIx xs.length 0 lo)
theorem mJ (xs:List V)(lo hi:Option Int):(pR xs lo hi).length<=xs.length:=by
 unfold pR
 rw[OS,PC]
 omega
noncomputable def IW (K:W.Frag):V->Option Int->Option Int->Hp->VK->Prop:=fun x lo hi H Q=>∃a xs,x=.ref a/\SqT K H a xs /\
 ¬(HT.sIx xs.length 0 lo=0/\HT.sIx xs.length xs.length hi=xs.length)/\∀p,H p=none->Q (.ref p) (upd H p (.tup (pR xs lo hi)))
theorem Fe:SlR X (IW X.K):=by
 intro pins s σ H x v vl vu lo hi sl Q I rx hs pl pu h
 obtain⟨a,xs,rfl,hx,hw,q⟩:=h
 cases rx
 obtain⟨its,r,ht,hz⟩:=I.tuple hx
 have hlen:its.toArray.size=xs.length:=by rw[MY];exact r.length.symm
 refine ⟨"tuple",_,PyProof.Rows.slot_tuple_getitem.lookup,ht.typeIs,?_⟩
 refine HT.getItem_tuple_cut ht hs pl pu (by rw[hlen];exact hw) ?_ (by rw[hlen];exact hz)
 rw[hlen]
 refine⟨.ref s.heap.objs.size,_,I.laid (t':=s.toks) (o:=.tup (pR xs lo hi)) (fun b ob q=>MD _ q) (MM _) ?_,rfl,q _ (I.hok.fresh (MM _))⟩
 exact⟨NI (mJ xs lo hi) hz,_,(r.drop (HT.sIx xs.length 0 lo)).take (HT.sIx xs.length xs.length hi-HT.sIx xs.length 0 lo),IsTup.new _ _⟩
noncomputable def GO (K:W.Frag):R2:=fun x y H Q=>∃a b xs ys,x=.ref a/\y=.ref b/\SqT K H a xs/\SqT K H b ys/\xs≠[]/\xs.length+ys.length<=sizeLine /\
 (ys=[]->Q (.ref a) H)/\(ys≠[]->∀p,H p=none->Q (.ref p) (upd H p (.tup (xs++ys))))
theorem Vals.nil_iff {xs:List V}{us:List Value}(r:Vals xs us):us=[]↔xs=[]:=by
 cases r with
 | nil=>simp
 | cons _ _=>simp
theorem Dp:OpR X (binaryOp .Add) (GO X.K):=by
 intro pins s σ H x y v u Q I rx ry h
 obtain⟨a,b,xs,ys,rfl,rfl,ha,hb,hx,hz,q1,q2⟩:=h
 cases rx
 cases ry
 obtain⟨its,r1,p1,_⟩:=I.tuple ha
 obtain⟨its2,r2,p2,_⟩:=I.tuple hb
 refine HT.cat_tup p1 p2 (fun z=>hx (r1.nil_iff.mp z)) (fun z=>⟨.ref a,H,I,rfl,q1 (r2.nil_iff.mp z)⟩) (fun z=>?_) (by rw[<-r1.length,<-r2.length];exact hz)
 refine⟨.ref s.heap.objs.size,_,I.laid (t':=s.toks) (o:=.tup (xs++ys)) (fun b ob q=>MD _ q) (MM _) ?_,rfl,q2 (fun w=>z (r2.nil_iff.mpr w)) _ (I.hok.fresh (MM _))⟩
 exact⟨by rw[NF];exact hz,_,r1.append r2,IsTup.new _ _⟩
end
end L2
namespace L2
noncomputable def ixN (n:Nat)(i:Int):Option Nat:=if 0<=i then (if i<n then some i.toNat else none) else if -(n:Int)<=i then some (i+n).toNat else none
noncomputable def atI {α:Type}(xs:List α)(i:Int):Option α:=(ixN xs.length i).bind fun j=>xs[j]?
theorem xG {n:Nat}{i:Int}{j:Nat}(h:ixN n i=some j):seqIndex? i n=some j/\j<n/\-(n:Int)<=i/\i<n:=by
 unfold ixN at h
 by_cases h0:0<=i
 ·rw[ML h0] at h
  by_cases h1:i<n
  ·rw[ML h1] at h
   have e:i.toNat=j:=NE h
   exact⟨by rw[seqIndex_of h0 h1,e],by omega,by omega,h1⟩
  ·rw[MJ h1] at h;cases h
 ·rw[MJ h0] at h
  by_cases h1:-(n:Int)<=i
  ·rw[ML h1] at h
   have e:(i+n).toNat=j:=NE h
   exact⟨by rw[seqIndex_neg (by exact Int.not_le.mp ‹_›) h1,e],by omega,h1,by omega⟩
  ·rw[MJ h1] at h;cases h
theorem rG {α:Type}{xs:List α}{i:Int}{v:α}(h:atI xs i=some v):∃j,seqIndex? i xs.length=some j/\xs[j]?=some v/\j<xs.length/\-(xs.length:Int)<=i/\i<xs.length:=by
 unfold atI at h
 cases e:ixN xs.length i with
 | none=>rw[e] at h;cases h
 | some j =>
  rw[e] at h
  obtain⟨h1,h2,h3,h4⟩:=xG e
  exact⟨j,h1,h,h2,h3,h4⟩
theorem bB {α:Type}{xs:List α}{j:Nat}{v:α}(h:xs[j]?=some v):atI xs (j:Int)=some v:=by
 have hj:j<xs.length:=(MC.mp h).1
 have e:ixN xs.length (j:Int)=some j:=by
  unfold ixN
  rw[ML (by exact Int.natCast_nonneg _),ML (by exact Int.ofNat_le.mpr ‹_›)];simp
 unfold atI;rw[e];exact h
def xQ (b:Expr):Prop:=∀o i,subscripted b false o i=operate [o,i] (getItem o i)
def IxR (X:Cx)(r:R2):Prop :=
 ∀(value slice:Expr) (pins:List (Addr × Obj)) (s:Shared) (σ:St) (H:Hp) (x y:V) (v u:Value) (Q:VK),Inv X pins σ H s->RelV x v->RelV y u->r x y H Q ->
  subscripted slice false v u=operate [v,u] (getItem v u)->wpAny (model X.prog X.w) X.A (subscriptTail value slice v u) (EP X pins σ Q) X.xe s
def MtR (X:Cx)(id:String)(r:V->List V->Hp->VK->Prop):Prop :=
 ∀(pins:List (Addr × Obj)) (s:Shared) (σ:St) (H:Hp) (x:V) (xs:List V) (v:Value) (us:List Value) (Q:VK),Inv X pins σ H s->RelV x v->Vals xs us->r x xs H Q ->
  wpAny (model X.prog X.w) X.A (call (.builtin id) (v::us)) (EP X pins σ Q) X.xe s
section
variable {X:Cx}{a b:Expr}{ta tb:TE}{pos:Pos}
theorem Ht {r:R2}(hr:IxR X r)(ha:PE X a ta)(hb:PE X b tb)(hs:xQ b):PE X (.Subscript a b pos) (tOp r ta tb):=by
 intro pins s σ H Q I h
 exact Subscript_ (Gz ha hb I h fun v u s2 x y H2 I2 rx ry q=>hr a b pins s2 σ H2 x y v u Q I2 rx ry q (hs _ _))
noncomputable def Jv (K:W.Frag):R2:=fun x y H Q=>∃p xs i v,x=.ref p/\y=.int i/\SqL K H p xs/\atI xs i=some v/\Q v H
noncomputable def Jy (K:W.Frag):R2:=fun x y H Q=>∃p xs i v,x=.ref p/\y=.int i/\SqT K H p xs/\atI xs i=some v/\Q v H
noncomputable def IM:R2:=fun x y H Q=>∃z i c,x=.str z/\y=.int i/\z.length<=sizeLine/\atI z.cps.toList i=some c/\Q (.str ⟨#[c]⟩) H
theorem CJ:IxR X (Jv X.K):=by
 intro value slice pins s σ H x y v u Q I rx ry h hs
 obtain⟨p,xs,i,z,rfl,rfl,hq,he,q⟩:=h
 cases rx
 obtain⟨t,rfl⟩:=ry
 obtain⟨its,r,pl,hz⟩:=I.list hq
 obtain⟨j,h1,h2,h3,h4,h5⟩:=rG he
 obtain⟨w,ew,rw'⟩:=r.get h2
 have hl:=r.length
 have hn:=jU
 have fin:EP X pins σ Q w s:=⟨z,H,I,rw',q⟩
 by_cases h0:0<=i
 ·have hj:i.toNat=j:=by
   rw[seqIndex_of h0 h5] at h1
   exact NE h1
  exact item_listR pl.isList h0 (by omega) (by rw[hj];simpa using ew) fin hs
 ·have hj:(i+(its.toArray.size:Int)).toNat=j:=by
   rw[seqIndex_neg (by exact Int.not_le.mp ‹_›) h4] at h1
   rw[MY,<-hl]
   exact NE h1
  exact subscriptTail_builtinR (x:=w) pl.isList.typeIs slot_list_getitem.lookup
   (wpAny_getItem_list_neg (Q:=fun r s'=>r=w/\EP X pins σ Q r s') pl.isList (by exact Int.not_le.mp ‹_›) (by rw[MY] <;> omega) (by omega) (by rw[hj];simpa using ew) ⟨rfl,fin⟩) hs
theorem EQ:IxR X (Jy X.K):=by
 intro value slice pins s σ H x y v u Q I rx ry h hs
 obtain⟨p,xs,i,z,rfl,rfl,hq,he,q⟩:=h
 cases rx
 obtain⟨t,rfl⟩:=ry
 obtain⟨its,r,pl,hz⟩:=I.tuple hq
 obtain⟨j,h1,h2,h3,h4,h5⟩:=rG he
 obtain⟨w,ew,rw'⟩:=r.get h2
 have hl:=r.length
 have hn:=jU
 have fin:EP X pins σ Q w s:=⟨z,H,I,rw',q⟩
 exact subscriptTail_builtinR (x:=w) pl.typeIs slot_tuple_getitem.lookup
  (getItem_tuple (j:=j) (Q:=fun r s'=>r=w/\EP X pins σ Q r s') pl (by omega) (by omega) (by rw[MY,<-hl];exact h1) (by simpa using ew) ⟨rfl,fin⟩) hs
theorem E5:IxR X IM:=by
 intro value slice pins s σ H x y v u Q I rx ry h hs
 obtain⟨z,i,c,rfl,rfl,hz,he,q⟩:=h
 obtain⟨t,rfl⟩:=rx
 obtain⟨t',rfl⟩:=ry
 obtain⟨j,h1,h2,h3,h4,h5⟩:=rG he
 have hl:z.cps.toList.length=z.length:=by simp[Str.length]
 rw[hl] at h1 h4 h5
 have hn:=jU
 exact tail_any (typeIs_str s z t) slot_str_getitem.lookup (getItem_str (c:=c) (by
  have e1:decide (i < -(2 ^ 63:Int))=false:=NO (by omega)
  have e2:decide (i >= 2 ^ 63)=false:=NO (by omega)
  rw[e1,e2,Bool.or_false]) (by rw[h1];simpa using h2) ⟨.str ⟨#[c]⟩,H,I.tok _,⟨_,rfl⟩,q⟩) hs
theorem wD (its:List Value)(n j:Nat)(u:Value):Obj.mapSeq (·.setIfInBounds j u) { cls:=.type "list",data:=.seq its.toArray n }={ cls:=.type "list",data:=.seq (its.set j u).toArray n }:=by
 simp[Obj.mapSeq]
theorem Inv.lst {pins:List (Addr × Obj)}{σ:St}{H:Hp}{s:Shared}{p:Addr}{xs:List V}(I:Inv X pins σ H s)(h:H p=some (.lst xs)) :
  ∃(its:List Value) (n:Nat),Vals xs its/\s.heap.get? p=some { cls:=.type "list",data:=.seq its.toArray n }/\xs.length<=sizeLine:=by
 obtain⟨z,its,n,r,e⟩:=I.hok p _ h
 exact⟨its,n,r,e,z⟩
theorem Inv.lstUpd {pins:List (Addr × Obj)}{σ:St}{H:Hp}{s:Shared}{p:Addr}{xs ys:List V}{its its':List Value}{n n':Nat}{f:Obj->Obj}(I:Inv X pins σ H s)(h:H p=some (.lst xs))
  (ho:s.heap.get? p=some { cls:=.type "list",data:=.seq its.toArray n }) (hf:f { cls:=.type "list",data:=.seq its.toArray n }={ cls:=.type "list",data:=.seq its'.toArray n' }) (r:Vals ys its') (hz:ys.length<=sizeLine) (t:Nat) :
  Inv X pins σ (upd H p (.lst ys)) { s with heap:=s.heap.update p f,toks:=t }:=by
 have e:(s.heap.update p f).get? p=some { cls:=.type "list",data:=.seq its'.toArray n' }:=by
  rw[NL f ho (by rw[hf] <;> rfl),hf]
 refine I.write (x:=p) (e:=p) (by rw[h];trivial) (.inl rfl) (fun b u hb q=>(OB _ _ (Ne.symm hb)).trans q) ⟨_,e⟩ ?_
 exact⟨hz,its',n',r,e⟩
noncomputable def Ia:V->V->V->Hp->(Hp->Prop)->Prop:=fun o i v H Q=>∃p xs k j,o=.ref p/\i=.int k/\H p=some (.lst xs)/\ixN xs.length k=some j/\Q (upd H p (.lst (xs.set j v)))
theorem Bg:EX X Ia:=by
 intro pins s σ H o i v ov iv u Q I ro ri rv h
 obtain⟨p,xs,k,j,rfl,rfl,hp,hj,q⟩:=h
 cases ro
 obtain⟨t,rfl⟩:=ri
 obtain⟨its,n,r,ho,hz⟩:=I.lst hp
 obtain⟨h1,h2,h3,h4⟩:=xG hj
 have hl:=r.length
 have hn:=jU
 have I':Inv X pins σ (upd H p (.lst (xs.set j v))) { s with heap:=s.heap.update p (Obj.mapSeq (·.setIfInBounds j u)) } :=
  I.lstUpd hp ho (wD its n j u) (r.set rv j) (by rw[OV];exact hz) s.toks
 by_cases h0:0<=k
 ·have hk:k.toNat=j:=by
   rw[seqIndex_of h0 h4] at h1
   exact NE h1
  exact W.ki_setAt ho h0 (by omega) (by rw[MY,<-hl];exact h4) (by rw[hk];exact⟨_,I',q⟩)
 ·have hk:(k+(its.toArray.size:Int)).toNat=j:=by
   rw[seqIndex_neg (by exact Int.not_le.mp ‹_›) h3] at h1
   rw[MY,<-hl]
   exact NE h1
  exact W.ki_setBack ho (by exact Int.not_le.mp ‹_›) (by rw[MY,<-hl];exact h3) (by omega) (by rw[hk];exact⟨_,I',q⟩)
theorem sJ (lo hi:Option Int)(n:Nat):(sliceBounds lo hi none n).1=((HT.sIx n 0 lo:Nat):Int)/\(sliceBounds lo hi none n).2.1=((HT.sIx n n hi:Nat):Int)/\(sliceBounds lo hi none n).2.2=1:=by
 refine⟨?_,?_,rfl⟩
 ·cases lo with
  | none=>simp[sliceBounds,HT.sIx]
  | some i =>
   simp only[sliceBounds,HT.sIx,Option.getD_none,show (1:Int) > 0 by decide,if_true]
   by_cases h:i<0
   ·simp only[h,if_true] <;> omega
   ·simp only[h,if_false] <;> omega
 ·cases hi with
  | none=>simp[sliceBounds,HT.sIx]
  | some i =>
   simp only[sliceBounds,HT.sIx,Option.getD_none,show (1:Int) > 0 by decide,if_true]
   by_cases h:i<0
   ·simp only[h,if_true] <;> omega
   ·simp only[h,if_false] <;> omega
theorem qq (its:List Value)(lo hi:Option Int):slicePick its.toArray lo hi none=((its.drop (HT.sIx its.length 0 lo)).take (HT.sIx its.length its.length hi-HT.sIx its.length 0 lo)).toArray:=by
 obtain⟨h1,h2,h3⟩:=sJ lo hi its.toArray.size
 unfold slicePick
 rw[h1,h2,h3]
 simp only[sliceRange_one,pick_run,List.size_toArray] <;> rfl
noncomputable def JT (K:W.Frag):V->Option Int->Option Int->Hp->VK->Prop:=fun x lo hi H Q=>∃a xs,x=.ref a/\SqL K H a xs/\∀p,H p=none->Q (.ref p) (upd H p (.lst (pR xs lo hi)))
theorem Dg:SlR X (JT X.K):=by
 intro pins s σ H x v vl vu lo hi sl Q I rx hs pl pu h
 obtain⟨a,xs,rfl,hx,q⟩:=h
 cases rx
 obtain⟨its,r,ht,hz⟩:=I.list hx
 have hlen:=r.length
 refine ⟨"list",_,slot_list_getitem.lookup,ht.isList.typeIs,?_⟩
 refine wpAny_getItem_list_slice ht.isList hs pl pu .none (by simp) ?_ (by rw[MY] <;> omega)
 rw[qq,<-hlen]
 refine⟨.ref s.heap.objs.size,_,I.laid (t':=s.toks) (o:=.lst (pR xs lo hi)) (fun b ob q=>MD _ q) (MM _) ?_,rfl,q _ (I.hok.fresh (MM _))⟩
 exact⟨NI (mJ xs lo hi) hz,_,0,(r.drop (HT.sIx xs.length 0 lo)).take (HT.sIx xs.length xs.length hi-HT.sIx xs.length 0 lo),MX _ rfl⟩
noncomputable def js:V->Bool
 | .non=>true
 | .bl _=>true
 | .int _=>true
 | .str _=>true
 | _=>false
noncomputable def eqV:V->V->Bool
 | .non,.non=>true
 | .bl a,.bl b=>a == b
 | .bl a,.int b=>(if a then 1 else 0) == b
 | .int a,.bl b=>a == (if b then 1 else 0)
 | .int a,.int b=>a == b
 | .str a,.str b=>a == b
 | _,_=>false
theorem Fi {A:Around}{s:Shared}{y x:V}{u v:Value}(ry:RelV y u)(rx:RelV x v)(fy:js y=true)(fx:js x=true):SeqAt.EqAt A s u v (eqV y x):=by
 cases y with
 | non =>
  cases ry
  cases x with
  | non=>cases rx;exact SeqAt.EqAt.same _
  | bl b=>cases rx;exact SeqAt.EqAt.none_bool b
  | int b=>obtain⟨t,rfl⟩:=rx;exact SeqAt.EqAt.none_int b t
  | str b=>obtain⟨t,rfl⟩:=rx;exact SeqAt.EqAt.none_str b t
  | _=>exact absurd (show false=true from fx) MF
 | bl a =>
  cases ry
  cases x with
  | non=>cases rx;exact SeqAt.EqAt.bool_none a
  | bl b=>cases rx;exact SeqAt.EqAt.bool_bool a b
  | int b=>obtain⟨t,rfl⟩:=rx;exact SeqAt.EqAt.bool_int a b t
  | str b=>obtain⟨t,rfl⟩:=rx;exact SeqAt.EqAt.bool_str a b t
  | _=>exact absurd (show false=true from fx) MF
 | int a =>
  obtain⟨t',rfl⟩:=ry
  cases x with
  | non=>cases rx;exact SeqAt.EqAt.int_none a t'
  | bl b=>cases rx;exact SeqAt.EqAt.int_bool a t' b
  | int b=>obtain⟨t,rfl⟩:=rx;exact SeqAt.EqAt.int_int a t' b t
  | str b=>obtain⟨t,rfl⟩:=rx;exact SeqAt.EqAt.int_str a t' b t
  | _=>exact absurd (show false=true from fx) MF
 | str a =>
  obtain⟨t',rfl⟩:=ry
  cases x with
  | non=>cases rx;exact SeqAt.EqAt.str_none a t'
  | bl b=>cases rx;exact SeqAt.EqAt.str_bool a t' b
  | int b=>obtain⟨t,rfl⟩:=rx;exact SeqAt.EqAt.str_int a t' b t
  | str b=>obtain⟨t,rfl⟩:=rx;exact SeqAt.EqAt.str_str a t' b t
  | _=>exact absurd (show false=true from fx) MF
 | _=>exact absurd (show false=true from fy) MF
noncomputable def eqU (x:V)(u:Value):Bool:=match u with
 | .none=>eqV .non x
 | .bool b=>eqV (.bl b) x
 | .int i _=>eqV (.int i) x
 | .str z _=>eqV (.str z) x
 | _=>false
theorem AY {x y:V}{u:Value}(r:RelV y u)(f:js y=true):eqU x u=eqV y x:=by
 cases y with
 | non=>cases r;rfl
 | bl b=>cases r;rfl
 | int i=>obtain⟨t,rfl⟩:=r;rfl
 | str z=>obtain⟨t,rfl⟩:=r;rfl
 | _=>exact absurd (show false=true from f) MF
theorem kK {x:V}:∀ {xs:List V}{us:List Value},Vals xs us->xs.all js=true->us.any (eqU x)=xs.any fun y=>eqV y x
 | _,_,.nil,_=>rfl
 | y::xs,u::us,.cons r t,f=>by
  rw[O6,M3] at f
  rw[OP,OP,AY r f.1,kK t f.2]
theorem ii {A:Around}{s:Shared}{x:V}{v:Value}(rx:RelV x v)(fx:js x=true):∀ {xs:List V}{us:List Value},Vals xs us->xs.all js=true->∀u∈us,SeqAt.EqAt A s u v (eqU x u)
 | _,_,.nil,_=>fun u hu=>by cases hu
 | y::xs,u::us,.cons r t,f=>fun u' hu=>by
  rw[O6,M3] at f
  rcases NA.mp hu with rfl|hu
  ·rw[AY r f.1];exact Fi r rx f.1 fx
  ·exact ii rx fx t f.2 u' hu
noncomputable def inV (x:V)(xs:List V):Bool:=xs.any fun y=>eqV y x
noncomputable def rIn (K:W.Frag)(neg:Bool):R2:=fun x y H Q=>∃p xs,y=.ref p/\(SqL K H p xs\/SqT K H p xs)/\js x=true/\xs.all js=true/\Q (.bl (if neg then !inV x xs else inV x xs)) H
theorem qQ:OpR X (compareOp .In) (rIn X.K false):=by
 intro pins s σ H x y v u Q I rx ry h
 obtain⟨p,xs,rfl,hq,fx,fs,q⟩:=h
 cases ry
 rcases hq with hq|hq
 ·obtain⟨its,r,pl,hz⟩:=I.list hq
  refine SeqAt.in_listAt (eqU x) pl.isList (fun w hw=>ii rx fx r fs w (by simpa using hw)) ⟨.bl _,H,I,rfl,?_⟩
  rw[show its.toArray.any (eqU x)=its.any (eqU x) by simp,kK r fs]
  exact q
 ·obtain⟨its,r,pl,hz⟩:=I.tuple hq
  refine SeqAt.in_tupleAt (eqU x) pl (fun w hw=>ii rx fx r fs w (by simpa using hw)) ⟨.bl _,H,I,rfl,?_⟩
  rw[show its.toArray.any (eqU x)=its.any (eqU x) by simp,kK r fs]
  exact q
theorem kz:OpR X (compareOp .NotIn) (rIn X.K true):=by
 intro pins s σ H x y v u Q I rx ry h
 obtain⟨p,xs,rfl,hq,fx,fs,q⟩:=h
 cases ry
 rcases hq with hq|hq
 ·obtain⟨its,r,pl,hz⟩:=I.list hq
  refine SeqAt.notIn_listAt (eqU x) pl.isList (fun w hw=>ii rx fx r fs w (by simpa using hw)) ⟨.bl _,H,I,rfl,?_⟩
  rw[show its.toArray.any (eqU x)=its.any (eqU x) by simp,kK r fs]
  exact q
 ·obtain⟨its,r,pl,hz⟩:=I.tuple hq
  refine SeqAt.notIn_tupleAt (eqU x) pl (fun w hw=>ii rx fx r fs w (by simpa using hw)) ⟨.bl _,H,I,rfl,?_⟩
  rw[show its.toArray.any (eqU x)=its.any (eqU x) by simp,kK r fs]
  exact q
theorem sj:eW X (.builtin "len") (fun xs H Q=>∃p ys,xs=[.ref p]/\(SqL X.K H p ys\/SqT X.K H p ys)/\Q (.int ys.length) H):=by
 intro pins s σ H xs us Q I r h
 obtain⟨p,ys,rfl,hq,q⟩:=h
 obtain⟨u,rfl,rx⟩:=j9 r
 cases rx
 have hn:=jU
 rcases hq with hq|hq
 ·obtain⟨its,r',pl,hz⟩:=I.list hq
  have hlen:=r'.length
  exact Calls.call_len_list pl.isList (by simp only[List.size_toArray] <;> omega) ⟨.int ys.length,H,I.tok _,⟨s.toks+1,by rw[MY,hlen]⟩,q⟩
 ·obtain⟨its,r',pl,hz⟩:=I.tuple hq
  have hlen:=r'.length
  exact len_tuple pl (by simp only[List.size_toArray] <;> omega) ⟨.int ys.length,H,I.tok _,⟨s.toks+1,by rw[MY,hlen]⟩,q⟩
theorem sg:eW X (.builtin "len") (fun xs H Q=>∃z,xs=[.str z]/\z.length<=sizeLine/\Q (.int z.length) H):=by
 intro pins s σ H xs us Q I r h
 obtain⟨z,rfl,hz,q⟩:=h
 obtain⟨u,rfl,t,rfl⟩:=j9 r
 have hn:=jU
 exact len_str (by omega) ⟨.int z.length,H,I.tok _,⟨_,rfl⟩,q⟩
theorem pU:eW X (.type "tuple") (fun xs H Q=>∃p ys,xs=[.ref p]/\((SqL X.K H p ys/\∀l,H l=none->Q (.ref l) (upd H l (.tup ys)))\/(SqT X.K H p ys/\Q (.ref p) H))):=by
 intro pins s σ H xs us Q I r h
 obtain⟨p,ys,rfl,h⟩:=h
 obtain⟨u,rfl,rx⟩:=j9 r
 cases rx
 rcases h with⟨hq,q⟩|⟨hq,q⟩
 ·obtain⟨its,r',pl,hz⟩:=I.list hq
  have hlen:=r'.length
  refine call_tuple_list pl.isList (fun h' kp=>?_) (by simp only[List.size_toArray] <;> omega)
  have I1:Inv X pins σ H { s with heap:=h' }:=I.kept (t':=s.toks) kp
  have I2:Inv X pins σ (upd H h'.objs.size (.tup ys)) { s with heap:=h'.push { cls:=.type "tuple",data:=.seq its.toArray } } :=
   I1.laid (t':=s.toks) (fun b o e=>MD _ e) (MM _) (show ObjOk X.prog X.w _ _ _ (.tup ys) from ⟨hz,its,r',IsTup.new _ _⟩)
  exact⟨.ref h'.objs.size,_,I2,rfl,q _ (I1.hok.fresh (MM _))⟩
 ·obtain⟨its,r',pl,hz⟩:=I.tuple hq
  exact call_tuple_same pl ⟨.ref p,H,I,rfl,q⟩
def tyV (K:W.Frag)(T:String)(x:V)(H:Hp):Prop:=match x with
 | .str _=>T="str"
 | .int _=>T="int"
 | .ref p=>(T="list"/\∃xs,SqL K H p xs)\/(T="tuple"/\∃o,K.lookup p=some o/\o.cls=.type "tuple"/\o.dict=none) \/
   (T="dict"/\((∃kvs,H p=some (.dK kvs))\/∃kvs,H p=some (.dT kvs)))\/(T="set"/\∃S n,H p=some (.set S n))
 | _=>False
theorem B3 {pins:List (Addr × Obj)}{σ:St}{H:Hp}{s:Shared}{T:String}{x:V}{v:Value}(I:Inv X pins σ H s)(r:RelV x v)(ty:tyV X.K T x H) :
  s.TypeIs v T/\∀a,v=.ref a->∃ob,s.heap.get? a=some ob/\ob.dict=none:=by
 cases x with
 | str z =>
  obtain⟨t,rfl⟩:=r
  cases (show T="str" from ty)
  exact⟨typeIs_str s z t,fun _ e=>nomatch e⟩
 | int i =>
  obtain⟨t,rfl⟩:=r
  cases (show T="int" from ty)
  exact⟨typeIs_int s i t,fun _ e=>nomatch e⟩
 | ref p =>
  cases r
  rcases ty with⟨rfl,xs,hq⟩|⟨rfl,o,hk,hc,hd⟩|⟨rfl,hk⟩|⟨rfl,S,n,hk⟩
  ·obtain⟨its,_,pl,_⟩:=I.list hq
   refine⟨pl.isList.typeIs,fun a e=>?_⟩
   cases e
   obtain⟨o,n,e,c,hd,_⟩:=pl
   exact⟨o,e,hd⟩
  ·refine⟨⟨o,I.kIn p o hk,hc⟩,fun a e=>?_⟩
   cases e
   exact⟨o,I.kIn _ o hk,hd⟩
  ·have z:∃o,s.heap.get? p=some o/\o.ExactDict:=by
    rcases hk with⟨kvs,hk⟩|⟨kvs,hk⟩
    ·obtain⟨_,_,_,_,o,_,_,e,ex,_⟩:=I.hok p _ hk
     exact⟨o,e,ex⟩
    ·obtain⟨_,_,_,_,o,_,_,e,ex,_⟩:=I.hok p _ hk
     exact⟨o,e,ex⟩
   obtain⟨o,e,ex⟩:=z
   refine⟨⟨o,e,ex.1⟩,fun a e2=>?_⟩
   cases e2
   exact⟨o,e,ex.2.1⟩
  ·obtain⟨o,_,_,_,e,ex,_⟩:=I.hok p _ hk
   refine⟨⟨o,e,ex.1⟩,fun a e2=>?_⟩
   cases e2
   exact⟨o,e,ex.2.1⟩
 | _=>exact False.elim ty
noncomputable def JQ (K:W.Frag)(T:String)(r:V->List V->Hp->VK->Prop)(to:TE):TE:=fun σ H Q=>to σ H fun x H1=>tyV K T x H1/\r x [] H1 Q
noncomputable def tBM (K:W.Frag)(T:String)(r:V->List V->Hp->VK->Prop)(to:TE)(t:TA):TE:=fun σ H Q=>to σ H fun x H1=>tyV K T x H1/\t σ H1 fun xs H2=>r x xs H2 Q
variable {o e:Expr}{es:List Expr}{to:TE}{t:TA}{name:Str}{apos cpos:Pos}{T id:String}{r:V->List V->Hp->VK->Prop}
theorem E_ (pa:PlainAttrs T)(slot:Slot T name id)(hty:typeOf (.builtin id)=pure (.type "method_descriptor"))(hm:MtR X id r)(ho:PE X o to)
  (hbase:attributeBase o name X.env (eval o X.env)=eval o X.env:=by rfl) (hline:(apos.endLine == cpos.line)=true:=by rfl):PE X (.Call (.Attribute o name apos) [] [] cpos) (JQ X.K T r to):=by
 intro pins s σ H Q I h
 refine wpAny_Call_method0_late hbase hline (thn (ho pins s σ H _ I h) fun v s1 ⟨x,H1,I1,r1,ty,q1⟩=>?_)
 obtain⟨h1,h2⟩:=B3 I1 r1 ty
 exact⟨T,id,pa,slot,hty,h1,h2,Calls.callWith_builtin rfl (PySem.evalArgs_none (hm pins s1 σ H1 x [] v [] Q I1 r1 .nil q1))⟩
theorem El (pa:PlainAttrs T)(slot:Slot T name id)(hty:typeOf (.builtin id)=pure (.type "method_descriptor"))(hm:MtR X id r)(ho:PE X o to)(ha:PA X (e::es) t)
  (hbase:attributeBase o name X.env (eval o X.env)=eval o X.env:=by rfl)
  (hfew:((backTo cpos (starEach (e::es) X.env)).all (fun x=>!x.1) && (backToKw cpos (keywordEach [] X.env)).all (fun x=>x.1.isSome)
   && decide ((e::es).length+([]:List Keyword).length+(if ([]:List Keyword).isEmpty then 0 else 1)<30))=true:=by rfl)
  (hline:(apos.endLine == cpos.line)=true:=by rfl) (hs:starEach (e::es) X.env=(false,eval e X.env)::starEach es X.env:=by rfl) (hplain:(backTo cpos (starEach es X.env)).any (·.1)=false:=by rfl) :
  PE X (.Call (.Attribute o name apos) (e::es) [] cpos) (tBM X.K T r to t):=by
 intro pins s σ H Q I h
 refine wpAny_Call_method_late hbase hfew hline rfl (thn (ho pins s σ H _ I h) fun v s1 ⟨x,H1,I1,r1,ty,q1⟩=>?_)
 obtain⟨h1,h2⟩:=B3 I1 r1 ty
 refine⟨T,id,pa,slot,hty,h1,h2,?_⟩
 have hA:=ha cpos pins s1 σ H1 _ I1 q1
 rw[hs] at hA |-
 refine Calls.callWith_builtin (by show (false || (backTo cpos (starEach es X.env)).any (·.1))=false;rw[hplain] <;> rfl) (Calls.evalArgs_plain ?_)
 exact thn hA fun us s2 ⟨vs,H2,I2,r2,q2⟩=>hm pins s2 σ H2 x vs v us Q I2 r1 r2 q2
end
end L2
namespace L2
def MtM (X:Cx)(id:String)(r:V->List V->Hp->VK->Prop):Prop :=
 ∀(pins:List (Addr × Obj)) (s:Shared) (σ:St) (H:Hp) (x:V) (xs:List V) (v:Value) (us:List Value) (Q:VK),Inv X pins σ H s->RelV x v->Vals xs us->r x xs H Q ->
  wpAny (model X.prog X.w) X.A (call (.builtin id) (v::us)) (EP X pins σ Q) X.xe s
theorem Vals.one:∀ {x:V}{us:List Value},Vals [x] us->∃u,us=[u]/\RelV x u
 | _,_,.cons r .nil=>⟨_,rfl,r⟩
theorem Vals.rep {xs:List V}{us:List Value}(h:Vals xs us):∀k:Nat,Vals (List.replicate k xs).flatten (List.replicate k us).flatten
 | 0=>.nil
 | k+1=>by
  rw[NX,NX,OJ,OJ]
  exact Vals.append h (Vals.rep h k)
theorem q9 (its:List Value):∀(k:Nat) (acc:List Value),
  List.foldl (fun x1 x2=>x1++x2) acc.toArray (List.replicate k its.toArray)=(acc++(List.replicate k its).flatten).toArray
 | 0,acc=>by simp
 | k+1,acc=>by
  have e:acc.toArray++its.toArray=(acc++its).toArray:=by simp
  have e2:(acc++its)++(List.replicate k its).flatten=acc++(List.replicate (k+1) its).flatten:=by
   rw[NX,OJ,OC]
  rw[<-e2,<-q9 its k (acc++its),<-e,NX,List.foldl_cons]
section
variable {X:Cx}{pins:List (Addr × Obj)}{σ:St}{H:Hp}{s:Shared}{l b:Addr}{xs ys zs:List V}
theorem Inv.lset {its its':List Value}{n:Nat}{f:Array Value->Array Value}{t':Nat}(I:Inv X pins σ H s)(hH:H l=some (.lst xs))
  (e:s.heap.get? l=some { cls:=.type "list",data:=.seq its.toArray n }) (hf:f its.toArray=its'.toArray) (hv:Vals ys its') (hz:ys.length<=sizeLine) :
  Inv X pins σ (upd H l (.lst ys)) { s with heap:=s.heap.update l (Obj.mapSeq f),toks:=t' }:=by
 have q:=PySem.IsL.update e f
 rw[hf] at q
 refine I.write (x:=l) (e:=l) (by rw[hH];exact trivial) (.inl rfl) (fun b' u hb hu=>(OB s.heap (Obj.mapSeq f) (Ne.symm hb)).trans hu) ⟨_,q⟩ ?_
 exact⟨hz,its',_,hv,q⟩
theorem Inv.lnew {its:List Value}{t':Nat}(I:Inv X pins σ H s)(hv:Vals ys its)(hz:ys.length<=sizeLine) :
  Inv X pins σ (upd H s.heap.objs.size (.lst ys)) { s with heap:=s.heap.push { cls:=.type "list",data:=.seq its.toArray },toks:=t' } :=
 I.laid (fun _ _ q=>MD _ q) (MM _) ⟨hz,its,0,hv,MX _ rfl⟩
theorem Inv.fresh (I:Inv X pins σ H s):H s.heap.objs.size=none:=I.hok.fresh (MM _)
theorem Inv.lstM (I:Inv X pins σ H s)(hH:H l=some (.lst xs)):xs.length<=sizeLine/\∃(its:List Value) (n:Nat),Vals xs its/\xs.length=its.length/\s.heap.get? l=some { cls:=.type "list",data:=.seq its.toArray n }:=by
 obtain⟨z,its,n,r,e⟩:=I.hok l _ hH
 exact⟨z,its,n,r,r.length,e⟩
theorem oI {n:Nat}(h:n<=sizeLine):Builtin.List.listTooLong n=false:=by
 unfold Builtin.List.listTooLong
 exact NO (by exact Nat.not_lt.mpr ‹_›)
end
section
variable {X:Cx}
noncomputable def C3:V->List V->Hp->VK->Prop:=fun x vs H Q=>∃l xs y,x=.ref l/\vs=[y]/\H l=some (.lst xs)/\xs.length<sizeLine/\Q .non (upd H l (.lst (xs++[y])))
theorem qK:MtM X "list.append" C3:=by
 intro pins s σ H x vs v us Q I rx rv h
 obtain⟨l,xs,y,rfl,rfl,hH,hz,q⟩:=h
 cases rx
 obtain⟨u,rfl,ru⟩:=rv.one
 obtain⟨z,its,n,r,hl,e⟩:=I.lstM hH
 refine call_meets F.slot_list_append ⟨_,e,rfl⟩ F.entry_list_append (F.args_list_append_2 _ _) (PySem.list_append l its.toArray n u (by rw[MY];omega)) ⟨e,?_⟩
 refine⟨.non,_,I.lset (its':=its++[u]) hH e (by simp) (r.append (.cons ru .nil)) ?_,rfl,q⟩
 rw[NF,P6]
 assumption
noncomputable def CK:V->List V->Hp->VK->Prop:=fun x vs H Q=>∃l b xs zs,x=.ref l/\vs=[.ref b]/\H l=some (.lst xs)/\H b=some (.lst zs)/\xs.length+zs.length<=sizeLine/\Q .non (upd H l (.lst (xs++zs)))
theorem zu:MtM X "list.extend" CK:=by
 intro pins s σ H x vs v us Q I rx rv h
 obtain⟨l,b,xs,zs,rfl,rfl,hH,hB,hz,q⟩:=h
 cases rx
 obtain⟨u,rfl,ru⟩:=rv.one
 cases ru
 obtain⟨z,its,n,r,hl,e⟩:=I.lstM hH
 obtain⟨z2,its2,n2,r2,hl2,e2⟩:=I.lstM hB
 have hsz:its.toArray.size+its2.toArray.size<=sizeLine:=by rw[MY,MY];omega
 have hlong:¬(!its.toArray.isEmpty && Builtin.List.listTooLong (its.toArray.size+its2.toArray.size))=true:=by
  rw[oI hsz,Bool.and_false]
  exact MF
 refine call_meets F.slot_list_extend ⟨_,e,rfl⟩ F.entry_list_extend (F.args_list_extend_2 _ _)
  (AutoSeq1.list_extend_list_list_0 l its.toArray n b its2.toArray n2 hlong (by rw[MY];omega) (by exact Nat.le_succ_of_le ‹_›)) ⟨e,e2,?_⟩
 refine⟨.non,_,I.lset (its':=its++its2) hH e (by simp) (r.append r2) ?_,rfl,q⟩
 rw[NF]
 assumption
noncomputable def Jk:R2:=fun x y H Q=>∃l b xs zs,x=.ref l/\y=.ref b/\H l=some (.lst xs)/\H b=some (.lst zs)/\xs.length+zs.length<=sizeLine/\∀p,H p=none->Q (.ref p) (upd H p (.lst (xs++zs)))
theorem EL:OpR X (binaryOp .Add) Jk:=by
 intro pins s σ H x y v u Q I rx ry h
 obtain⟨l,b,xs,zs,rfl,rfl,hH,hB,hz,q⟩:=h
 cases rx
 cases ry
 obtain⟨z,its,n,r,hl,e⟩:=I.lstM hH
 obtain⟨z2,its2,n2,r2,hl2,e2⟩:=I.lstM hB
 refine PySem.P.add_list e e2 ?_ (by rw[MY,MY];omega)
 have ea:its.toArray++its2.toArray=(its++its2).toArray:=by simp
 rw[ea]
 exact⟨.ref _,_,I.lnew (t':=s.toks) (r.append r2) (by rw[NF];assumption),rfl,q _ I.fresh⟩
noncomputable def Ki:R2:=fun x y H Q=>∃l k xs,x=.ref l/\y=.int k/\H l=some (.lst xs)/\-(2 ^ 63)<=k/\k<2 ^ 63/\xs.length*k.toNat<=sizeLine /\
 ∀p,H p=none->Q (.ref p) (upd H p (.lst (List.replicate k.toNat xs).flatten))
theorem DK {α:Type}(xs:List α)(k:Nat):(List.replicate k xs).flatten.length=k*xs.length:=by
 induction k with
 | zero=>simp
 | succ k ih=>rw[NX,OJ,NF,ih,Nat.succ_mul,QH]
theorem FY:OpR X (binaryOp .Mult) Ki:=by
 intro pins s σ H x y v u Q I rx ry h
 obtain⟨l,k,xs,rfl,rfl,hH,h1,h2,hz,q⟩:=h
 cases rx
 obtain⟨t,rfl⟩:=ry
 obtain⟨z,its,n,r,hl,e⟩:=I.lstM hH
 have hlen:its.toArray.size*k.toNat<=sizeLine:=by rw[MY,<-hl];exact hz
 have hcap:¬its.toArray.size*k.toNat > (2 ^ 63-1)/8:=by
  have:(sizeLine:Nat)<=(2 ^ 63-1)/8:=by decide
  omega
 have hfit:¬(!Builtin.List.listFitsIndex k)=true:=by
  rw[fitsIndex_both h1 h2]
  exact MF
 have hlong:¬Builtin.List.listTooLong (its.toArray.size*k.toNat)=true:=by
  rw[oI hlen]
  exact MF
 have hnew:List.foldl (fun x1 x2=>x1++x2) #[] (List.replicate (if its.toArray.isEmpty=true then 0 else k.toNat) its.toArray)=(List.replicate k.toNat its).flatten.toArray:=by
  have f0:∀m:Nat,List.foldl (fun x1 x2=>x1++x2) #[] (List.replicate m its.toArray)=(List.replicate m its).flatten.toArray:=fun m=>by
   have:=q9 its m []
   rw[QY] at this
   exact this
  rw[f0]
  cases its with
  | nil=>simp
  | cons a r'=>rw[MJ (by simp)]
 refine wpAny_binaryOp_repeat_ref (T:="list") (U:="int") (by decide) ⟨_,e,rfl⟩ (fun s'=>typeIs_int s' k t) noFill_list_mul F.fills_int_mul F.slot_int_rmul repeat_list F.slot_int_index.lookup
  (call_meets F.slot_int_rmul (typeIs_int s k t) F.entry_int_rmul (F.args_int_rmul_2 _ _) (int___rmul___int_list k t l its.toArray n)
   ⟨e,rfl,⟨_,e,rfl⟩,call_meets F.slot_list_mul ⟨_,e,rfl⟩ F.entry_list_mul (F.args_list_mul_2 _ _) (AutoListH.list___mul___list_int_3 l its.toArray n k t hfit hcap hlong) ⟨e,?_⟩⟩)
 rw[hnew]
 exact⟨.ref _,_,I.lnew (t':=s.toks) (r.rep k.toNat) (by rw[DK,P2];exact hz),rfl,q _ I.fresh⟩
end
section
variable {prog:Program}{w:World}{A:Around}{E:Value->Shared->Prop}{s:Shared}
set_option maxRecDepth 100000 in
end
section
variable {X:Cx}
end
end L2
namespace Att
open PySem PySem.W PySem.Calls PyProof.Rows
theorem m_ {P:Params}{h:Heap}:∀(ns:List Int) (vs:List Value),WellAll P h vs (ns.map WData.int)->IntsAre vs ns:=by
 intro ns
 induction ns with
 | nil =>
  intro vs w
  rw[OH] at w
  cases w
  exact .nil
 | cons n ns ih =>
  intro vs w
  rw[M7] at w
  cases w with
  | cons a b =>
   cases a
   exact .cons _ _ (ih _ b)
theorem yB {l:OpenLaw}{n:Nat}(hn:l.most=some n){P:Params}{h:Heap}{args:List WData}{vals:List Value}
  (hpre:l.row.toRowW.claim.pre args=true) (hwl:WellAll P h vals args) :
  ∃a vs ns,vals=[Value.ref a]/\args=[WData.list (ns.map WData.int)]/\h.get? a=some { cls:=.type "list",data:=.seq vs.toArray }/\IntsAre vs ns/\ns.length<=n:=by
 have hsh:WShape.hasAll [] args [.list .int]=true:=(pre_splitW hpre).1
 have hc:l.pre.holds [] { args:=args }=true:=(pre_splitW hpre).2
 obtain⟨d,r,rfl,h1,h2⟩:=hasAllW_cons hsh
 obtain rfl:=hasAllW_nil h2
 obtain⟨xs,rfl,h3⟩:=hasW_list h1
 obtain⟨ns,rfl⟩:=items_int h3
 have hlen:ns.length<=n:=by
  unfold OpenLaw.pre at hc
  have h4:(WTm.not (.lt (.lit (.int (n:Int))) (.len (.arg 0)))).holds [] { args:=[.list (ns.map .int)] }=true:=by
   have h4:=(holds_andW hc).1
   rw[hn] at h4
   exact h4
  have h5:=condW_of h4 (w_not (w_lt w_lit (w_len_list (w_arg rfl))))
  rw[MS] at h5
  refine PD fun q=>?_
  have q':(n:Int)<((ns.length:Nat):Int):=by exact Int.ofNat_le.mpr ‹_›
  first
   | (rw[NW q'] at h5;exact absurd h5 (by decide))
   | (simp at h5;omega)
 cases hwl with
 | cons w1 w2 =>
  cases w2
  cases w1 with
  | list ho hall=>exact⟨_,_,ns,rfl,rfl,ho,m_ ns _ hall,hlen⟩
theorem yg (l:OpenLaw)(args:List WData):l.row.toRowW.claim.post args (.bool true) args=true :=
 postW_of (r:=l.row.toRowW) (X:=(true == true))
  (show WShape.has [] (.bool true) .bool=true by first|rfl|decide|simp[WShape.has,WShape.arms,WShape.armsAll])
  (show (WTm.eq .res (.lit (.bool true))).value [] { args:=args,res:=some (.bool true),after:=args }=some (.bool (true == true)) from w_eq_bool (w_res rfl) w_lit) rfl
theorem attach_call {l:OpenLaw}{n:Nat}{q:Program}{loose:List Str}{XP:(Str->Option Value)->Heap->Prop}{YP:World->Heap->Prop}{d:DefRec}
  (hn:l.most=some n) (hdf:d.params.defaults=[])
  (call:∀(w:World) (s₀ s₁:Shared) (mg mb:Str->Option Value) (fa:Addr) (o:Obj) (pm cd doc:Value) (a:Addr) (vs:List Value) (ns:List Int),
   Ground q loose [] XP w s₀ mg mb s₁.heap->YP w s₁.heap ->
   s₁.heap.get? fa=some o->o.data=.func (docDef d.name d.params d.body d.scope pm cd doc)->s₁.heap.CodeRec cd d.name->mg d.name=some (.ref fa) ->
   s₁.heap.get? a=some { cls:=.type "list",data:=.seq vs.toArray }->IntsAre vs ns->ns.length<=n->s₁.gens=#[] ->
   codeAny (model l.prog w) callerA (.call (.ref fa) ⟨[.ref a],[]⟩) (fun r s'=>r=.ok (.ret (.bool true))/\OldK s₁.heap s'.heap/\s'.os=s₁.os/\AllBare s'.gens) s₁) :
  WalkO q loose XP YP l.row.toRowW d [] (fun f vs=>PySem.call f vs):=by
 intro w s₀ s₁ mg mb G Y fa o pm cd doc dV kV ho hd hcd hD hmg hg args vals as hpre hlay hrd hwl hlo
 obtain rfl:dV=.none:=Dflts.none hD hdf
 obtain rfl:kV=.none:=Dflts.noKw hD
 obtain⟨a,vs,ns,rfl,rfl,hobj,hints,hlen⟩:=yB hn hpre hwl
 refine enter_call (codeAny_mono (call w s₀ s₁ mg mb fa o pm cd doc a vs ns G Y ho (fd_plain hd) hcd hmg hobj hints hlen hg) fun r s' hq=>?_)
 obtain⟨rfl,h2,h3,h4⟩:=hq
 exact⟨.inl ⟨.bool true,.bool true,[],rfl,fun _=>rfl,.bool true,yg l _,fun _=>⟨List.Pairwise.nil,fun _ hm=>(nomatch hm)⟩⟩,h2,h3,h4⟩
section
variable {prog:Program}{w:World}{A:Around}{E:Value->Shared->Prop}{s:Shared}{K:Frag}
end
end Att
namespace L2
theorem qz:∀ {vs:List Value}{ns:List Int},IntsAre vs ns->Vals (ns.map V.int) vs
 | _,_,.nil=>.nil
 | _,_,.cons n t h=>.cons ⟨t,rfl⟩ (qz h)
end L2
namespace L2
end L2
namespace L2
noncomputable def cJ (s:Stmt):Arguments:=match s with
 | .FunctionDef _ a _ _ _ _ _ _ _ _=>a
 | _=>{ posonlyargs:=[],args:=[],vararg:=none,kwonlyargs:=[],kw_defaults:=[],kwarg:=none,defaults:=[] }
noncomputable def af (s:Stmt):List Stmt:=match s with
 | .FunctionDef _ _ b _ _ _ _ _ _ _=>b
 | _=>[]
noncomputable def ab (s:Stmt):Scope:=match s with
 | .FunctionDef _ _ _ _ _ _ sc _ _ _=>sc
 | _=>{ kind:=.function,names:=[],isGenerator:=false,isCoroutine:=false }
noncomputable abbrev CX0:CXT:=fun _ _ _ _ _ _=>False
noncomputable abbrev E0:XK:=fun _ _ _=>False
theorem Eo {X:Cx}:sM CX0 X E0:=fun _ _ _ _ _ _ _ h=>h.elim
structure Fun (K:W.Frag)(x qual:Str)(st:Stmt)(f:Addr)(fd:FuncData):Prop where
 ex:∃(oc:Value) (od:Option Addr) (kV doc pm:Value) (an:Option Addr) (cdv ct:Value) (osl:Array (Option Value)),
  fd=W.fnOf x qual (cJ st) (af st) (ab st) .none kV doc pm an cdv ct/\K.lookup f=some ⟨oc,od,.func fd,osl⟩/\W.codeIn K cdv qual=true
 kp:W.keepIn K (.ref f)=true
section
variable {P:Program}{w:World}{K:W.Frag}{mg:Str->Option Value}{base:Heap}
theorem Fun.ok {x qual:Str}{st:Stmt}{f:Addr}{fd:FuncData}{N ps:List Str}{k:Nat}{sp:Sp}(F:Fun K x qual st f fd)(S:ag N ps (ab st))(len:∀vs H Q E,sp vs H Q E->vs.length=ps.length)
  (hbody:∀(cdv:Value) (A:Around) (outer:List Env) (s:Shared) (H:Hp) (vs:List V) (Q:VK) (E:XK),Room k (A.deeper (envOfC qual (ab st) s.heap.objs.size f cdv))->sp vs H Q E ->
   ∃t,PSs (lc CX0 P w K mg base N qual (ab st) f cdv A outer s H E).nox (af st) t/\t { nx:=fun _ H'=>Q .non H',rt:=Q } (start N vs) H):pZ P w K mg base CX0 (k+1) f fd ps sp:=by
 obtain⟨oc,od,kV,doc,pm,an,cdv,ct,osl,rfl,lk,hcd⟩:=F.ex
 refine HU lk hcd S len fun A outer s H vs Q E hr hsp=>?_
 obtain⟨t,h,q⟩:=hbody cdv A outer s H vs Q E hr hsp
 exact⟨t,h.nox,q⟩
theorem Fun.binds {x qual:Str}{st:Stmt}{f:Addr}{fd:FuncData}{ps:List Str}(F:Fun K x qual st f fd)
  (h:∀(kV doc pm:Value) (an:Option Addr) (cdv ct:Value) (us:List Value),us.length=ps.length->bindArgs (W.fnOf x qual (cJ st) (af st) (ab st) .none kV doc pm an cdv ct) ⟨us,[]⟩=pure (ps.zip us)):Binds K fd ps []:=by
 obtain⟨oc,od,kV,doc,pm,an,cdv,ct,osl,rfl,lk,hcd⟩:=F.ex
 exact .all (h kV doc pm an cdv ct)
theorem Au {x qual:Str}{st:Stmt}{f:Addr}{oc:Value}{od an:Option Addr}{osl:Array (Option Value)}{kV doc pm cdv ct:Value}(l:K.lookup f=some ⟨oc,od,.func (W.fnOf x qual (cJ st) (af st) (ab st) .none kV doc pm an cdv ct),osl⟩)
  (c:W.codeIn K cdv qual=true) (k:W.keepIn K (.ref f)=true):Fun K x qual st f (W.fnOf x qual (cJ st) (af st) (ab st) .none kV doc pm an cdv ct):=⟨⟨oc,od,kV,doc,pm,an,cdv,ct,osl,rfl,l,c⟩,k⟩
end
section
variable {X:Cx}
end
theorem IG {A B:Prop}(h:A):if true=true then A else B:=by
 rw[ML rfl]
 exact h
def Same (H H':Hp):Prop:=∀b o,H b=some o->H' b=some o
theorem Same.seq {K:W.Frag}{H H':Hp}{a:Addr}{xs:List V}(e:Same H H')(h:SqL K H a xs):SqL K H' a xs:=by
 rcases h with (h|⟨o,h⟩)|h
 ·exact .inl (.inl (e _ _ h))
 ·exact .inl (.inr ⟨o,e _ _ h⟩)
 ·exact .inr h
end L2
namespace HX
open L2
section
variable {X:Cx}{a b c:Expr}{ta tb tc:TE}{pos:Pos}
def CBig (j:Int):Prop:=0<j/\j.natAbs.log2<9000
def CMB (i j:Int):Prop:=i.natAbs<2 ^ 6000/\j.natAbs<2 ^ 6000\/(-(2 ^ 64)<i/\i<2 ^ 64)\/(-(2 ^ 64)<j/\j<2 ^ 64)
theorem w9 {i:Int}{n:Nat}(h:i.natAbs<2 ^ n):Builtin.Int.intBits i<=n:=by
 unfold Builtin.Int.intBits
 split
 ·exact N5 _
 ·rename_i hz
  have h0:i.natAbs≠0:=by
   intro z
   apply hz
   have:i=0:=by omega
   simp[this]
  have:i.natAbs.log2<n:=(RA h0).mpr h
  assumption
theorem CMB.ok {i j:Int}(h:CMB i j):IntMulOk i j:=by
 rcases h with⟨h1,h2⟩|⟨h1,h2⟩|⟨h1,h2⟩
 ·exact IntMulOk.of_le (w9 h1) (w9 h2) (by decide)
 ·exact .of_left (intBits_le_64 h1 h2)
 ·exact .of_right (intBits_le_64 h1 h2)
theorem CBig.of {j:Int}(h:0<j)(h2:j<2 ^ 8999):CBig j:=by
 refine⟨h,?_⟩
 have h0:j.natAbs≠0:=by omega
 have:j.natAbs<2 ^ 8999:=by
  have e:((2:Int) ^ 8999)=((2 ^ 8999:Nat):Int):=by rw[QZ];rfl
  rw[e] at h2
  generalize (2:Nat) ^ 8999=z at h2 |-
  omega
 have:=(RA h0).mpr this
 exact Nat.lt_succ_of_lt ‹_›
theorem CS:OpR X (binaryOp .Mult) (rI CMB fun i j=>.int (i*j)):=opI fun _ _ _ _ _ _ _ hc q=>mul_int q hc.ok
theorem B_:OpR X (binaryOp .FloorDiv) (rI (fun _ j=>CBig j) fun i j=>.int (i/j)):=opI fun i j _ _ _ _ _ hc q=>by
 refine floordiv_int (by have:=hc.1;omega) ?_ (.inl (PyProof.noPylong_of_log2 hc.2))
 rw[Int.fdiv_eq_ediv_of_nonneg _ (Q8 hc.1)]
 exact q
theorem rN:eW X (.builtin "divmod") (fun xs H Q=>∃i j,xs=[.int i,.int j]/\CBig j/\∀p,H p=none->Q (.ref p) (upd H p (.tup [.int (i/j),.int (i % j)]))):=by
 intro pins s σ H xs us Q I r h
 obtain⟨i,j,rfl,hc,q⟩:=h
 obtain⟨u,v,rfl,⟨t,rfl⟩,⟨t',rfl⟩⟩:=rm r
 refine divmod_int (by have:=hc.1;omega) ?_ (.inl (PyProof.noPylong_of_log2 hc.2))
 rw[Int.fdiv_eq_ediv_of_nonneg _ (Q8 hc.1),Int.fmod_eq_emod_of_nonneg _ (Q8 hc.1)]
 have hf:H s.heap.objs.size=none:=I.hok.fresh (MM _)
 refine⟨.ref s.heap.objs.size,upd H s.heap.objs.size (.tup [.int (i/j),.int (i % j)]),I.laid (t':=s.toks+1+1) (fun b u e=>MD _ e) (MM _) ?_,rfl,q _ hf⟩
 exact⟨by show 2<=sizeLine;decide,[_,_],.cons ⟨_,rfl⟩ (.cons ⟨_,rfl⟩ .nil),⟨_,MX _ rfl,rfl,_,rfl⟩⟩
theorem tU {x:V}{v:Value}(r:RelV x v)(k:Bool):(v == Value.bool k)=decide (x=.bl k):=by
 cases x with
 | non=>cases r;rfl
 | bl b=>cases r;cases b <;> cases k <;> rfl
 | int _=>obtain⟨t,rfl⟩:=r;rfl
 | str _=>obtain⟨t,rfl⟩:=r;rfl
 | byt _=>obtain⟨t,rfl⟩:=r;rfl
 | flt _=>obtain⟨t,rfl⟩:=r;rfl
 | ref _=>cases r;rfl
 | ty _=>cases r;rfl
theorem nW {x:V}{v:Value}(r:RelV x v)(k:Bool):plainIs v (.bool k)=true:=by
 cases x with
 | non=>cases r;rfl
 | bl b=>cases r;rfl
 | int _=>obtain⟨t,rfl⟩:=r;rfl
 | str _=>obtain⟨t,rfl⟩:=r;rfl
 | byt _=>obtain⟨t,rfl⟩:=r;rfl
 | flt _=>obtain⟨t,rfl⟩:=r;rfl
 | ref _=>cases r;rfl
 | ty _=>cases r;rfl
noncomputable def JS:R2:=fun x y H Q=>∃k,y=.bl k/\Q (.bl (decide (x=.bl k))) H
noncomputable def DV:R2:=fun x y H Q=>∃k,y=.bl k/\Q (.bl (!decide (x=.bl k))) H
theorem Fo:OpR X (compareOp .Is) JS:=by
 intro pins s σ H x y v u Q I rx ry h
 obtain⟨k,rfl,q⟩:=h
 cases ry
 exact wpAny_is_plain (nW rx k) ⟨.bl _,H,I,by rw[tU rx k];rfl,q⟩
theorem yZ:OpR X (compareOp .IsNot) DV:=by
 intro pins s σ H x y v u Q I rx ry h
 obtain⟨k,rfl,q⟩:=h
 cases ry
 exact wpAny_isNot_plain (nW rx k) ⟨.bl _,H,I,by rw[tU rx k];rfl,q⟩
noncomputable def cK (c n:String):Bool:=c == n || (n == "bool" && c == "int")
noncomputable def Il (n c:String):Option Bool:=if (Value.type n == Value.type c)=true then some true else if W.kitMeta c=true then (fastBuiltinMro n).map (·.contains (.type c)) else none
theorem Dt (K:W.Frag)(n c:String):W.kitOne K (.type n) (.type c)=Il n c:=rfl
theorem AC:∀c∈["int","bool","str","tuple","list","dict"],∀n∈["NoneType","bool","int","str","list","tuple","dict"],Il n c=some (cK c n):=by decide +kernel
theorem A7 (K:W.Frag):∀c∈["int","bool","str","tuple","list","dict"],∀n∈["NoneType","bool","int","str","list","tuple","dict"],W.kitOne K (.type n) (.type c)=some (cK c n):=by
 intro c hc n hn
 rw[Dt]
 exact AC c hc n hn
end
end HX
namespace HX
open L2
end HX
namespace HX
open L2
noncomputable abbrev D:=PyData
mutual
noncomputable def Den (K:W.Frag)(H:Hp):D->V->Prop
 | .none,v=>v=.non
 | .bool b,v=>v=.bl b
 | .int i,v=>v=.int i
 | .str x,v=>v=.str x
 | .tuple ds,v=>∃a xs,v=.ref a/\SqT K H a xs/\Dens K H ds xs
 | .list ds,v=>∃a xs,v=.ref a/\SqL K H a xs/\Dens K H ds xs
 | .dict _,_=>False
noncomputable def Dens (K:W.Frag)(H:Hp):List D->List V->Prop
 | [],xs=>xs=[]
 | d::ds,xs=>∃x r,xs=x::r/\Den K H d x/\Dens K H ds r
end
section
variable {K:W.Frag}{H H':Hp}{v:V}{xs:List V}
theorem den_int {i:Int}:Den K H (.int i) v↔v=.int i:=by unfold Den;exact RB
theorem den_bl {i:Bool}:Den K H (.bool i) v↔v=.bl i:=by unfold Den;exact RB
theorem den_str {i:Str}:Den K H (.str i) v↔v=.str i:=by unfold Den;exact RB
theorem den_non:Den K H .none v↔v=.non:=by unfold Den;exact RB
theorem den_tup {ds:List D}:Den K H (.tuple ds) v↔∃a xs,v=.ref a/\SqT K H a xs/\Dens K H ds xs:=by rw[Den]
theorem den_lst {ds:List D}:Den K H (.list ds) v↔∃a xs,v=.ref a/\SqL K H a xs/\Dens K H ds xs:=by rw[Den]
theorem uW {ds:List (D × D)}:Den K H (.dict ds) v↔False:=by rw[Den]
theorem dens_nil:Dens K H [] xs↔xs=[]:=by unfold Dens;exact RB
theorem l8 {d:D}{ds:List D}:Dens K H (d::ds) xs↔∃x r,xs=x::r/\Den K H d x/\Dens K H ds r:=by rw[Dens]
theorem dens_cons' {d:D}{ds:List D}{x:V}:Dens K H (d::ds) (x::xs)↔Den K H d x/\Dens K H ds xs:=by
 rw[l8]
 constructor
 ·rintro⟨_,_,e,h1,h2⟩
  cases e
  exact⟨h1,h2⟩
 ·rintro⟨h1,h2⟩
  exact⟨_,_,rfl,h1,h2⟩
theorem Al {a:Addr}(e:Same H H')(h:SqT K H a xs):SqT K H' a xs:=by
 rcases h with (h|⟨o,h⟩)|h
 ·exact .inl (.inl (e _ _ h))
 ·exact .inl (.inr ⟨o,e _ _ h⟩)
 ·exact .inr h
end
mutual
theorem Den.mono {K:W.Frag}{H H':Hp}(e:Same H H'):∀ {d:D}{v:V},Den K H d v->Den K H' d v
 | .none,v,h=>by rw[den_non] at h |-;exact h
 | .bool b,v,h=>by rw[den_bl] at h |-;exact h
 | .int b,v,h=>by rw[den_int] at h |-;exact h
 | .str b,v,h=>by rw[den_str] at h |-;exact h
 | .dict b,v,h=>by rw[uW] at h;exact h.elim
 | .tuple ds,v,h=>by
  rw[den_tup] at h |-
  obtain⟨a,xs,h1,h2,h3⟩:=h
  exact⟨a,xs,h1,Al e h2,Dens.mono e h3⟩
 | .list ds,v,h=>by
  rw[den_lst] at h |-
  obtain⟨a,xs,h1,h2,h3⟩:=h
  exact⟨a,xs,h1,Same.seq e h2,Dens.mono e h3⟩
theorem Dens.mono {K:W.Frag}{H H':Hp}(e:Same H H'):∀ {ds:List D}{xs:List V},Dens K H ds xs->Dens K H' ds xs
 | [],xs,h=>by rw[dens_nil] at h |-;exact h
 | d::ds,xs,h=>by
  rw[l8] at h |-
  obtain⟨x,r,h1,h2,h3⟩:=h
  exact⟨x,r,h1,Den.mono e h2,Dens.mono e h3⟩
end
section
variable {X:Cx}{pins:List (Addr × Obj)}{σ:L2.St}{H:Hp}{s:Shared}
mutual
theorem Den.reads (I:Inv X pins σ H s):∀(d:D) (v:V) (u:Value),Den X.K H d v->RelV v u->∃as,Reads s.heap u d as
 | .none,v,u,h,r=>by rw[den_non] at h;subst h;cases r;exact⟨_,.none⟩
 | .bool b,v,u,h,r=>by rw[den_bl] at h;subst h;cases r;exact⟨_,.bool b⟩
 | .int b,v,u,h,r=>by rw[den_int] at h;subst h;obtain⟨t,rfl⟩:=r;exact⟨_,.int b t⟩
 | .str b,v,u,h,r=>by rw[den_str] at h;subst h;obtain⟨t,rfl⟩:=r;exact⟨_,.str b t⟩
 | .dict b,v,u,h,r=>by rw[uW] at h;exact h.elim
 | .tuple ds,v,u,h,r=>by
  rw[den_tup] at h
  obtain⟨a,xs,rfl,h2,h3⟩:=h
  cases r
  obtain⟨its,rv,⟨o,ho,hc,n,hd⟩,_⟩:=I.tuple h2
  obtain⟨as,hr⟩:=Dens.reads I ds xs its h3 rv
  exact⟨as,.tuple ho hc hd (by simpa using hr)⟩
 | .list ds,v,u,h,r=>by
  rw[den_lst] at h
  obtain⟨a,xs,rfl,h2,h3⟩:=h
  cases r
  obtain⟨its,rv,p,_⟩:=I.list h2
  obtain⟨o,ho,hc,n,hd⟩:=p.isList
  obtain⟨as,hr⟩:=Dens.reads I ds xs its h3 rv
  exact⟨_,.list ho hc hd (by simpa using hr)⟩
theorem Dens.reads (I:Inv X pins σ H s):∀(ds:List D) (xs:List V) (us:List Value),Dens X.K H ds xs->Vals xs us->∃as,ReadsAll s.heap us ds as
 | [],xs,us,h,r=>by rw[dens_nil] at h;subst h;cases r;exact⟨_,.nil⟩
 | d::ds,xs,us,h,r=>by
  rw[l8] at h
  obtain⟨x,q,rfl,h2,h3⟩:=h
  cases r with
  | cons r1 r2 =>
   obtain⟨as,h4⟩:=Den.reads I d x _ h2 r1
   obtain⟨bs,h5⟩:=Dens.reads I ds q _ h3 r2
   exact⟨_,.cons h4 h5⟩
end
end
section
variable {X:Cx}
noncomputable def Kg (K:W.Frag):R2:=fun x y H Q=>∃d e,Den K H d x/\Den K H e y/\SeqAt.shaped d=true/\SeqAt.shaped e=true/\Q (.bl (PyData.eqv d e)) H
noncomputable def Jd (K:W.Frag):R2:=fun x y H Q=>∃d e,Den K H d x/\Den K H e y/\SeqAt.shaped d=true/\SeqAt.shaped e=true/\Q (.bl (!PyData.eqv d e)) H
theorem FF (hu:X.A.units+64<cLine):OpR X (compareOp .Eq) (Kg X.K):=by
 intro pins s σ H x y v u Q I rx ry h
 obtain⟨d,e,h1,h2,h3,h4,q⟩:=h
 obtain⟨as,ra⟩:=Den.reads I d x v h1 rx
 obtain⟨bs,rb⟩:=Den.reads I e y u h2 ry
 exact eq_dataH ra rb h3 h4 hu ⟨.bl _,H,I,rfl,q⟩
theorem Gu (hu:X.A.units+64<cLine):OpR X (compareOp .NotEq) (Jd X.K):=by
 intro pins s σ H x y v u Q I rx ry h
 obtain⟨d,e,h1,h2,h3,h4,q⟩:=h
 obtain⟨as,ra⟩:=Den.reads I d x v h1 rx
 obtain⟨bs,rb⟩:=Den.reads I e y u h2 ry
 exact ne_dataH ra rb h3 h4 hu ⟨.bl _,H,I,rfl,q⟩
structure Has (P:Program)(w:World)(K:W.Frag)(mg:Str->Option Value)(base:Heap)(k:Nat)(x:Str)(ps:List Str)(sp:Sp):Prop where
 ex:∃(f:Addr) (fd:FuncData),pZ P w K mg base CX0 k f fd ps sp/\mg x=some (.ref f)/\W.keepIn K (.ref f)=true/\Binds K fd ps []
structure At (K:W.Frag)(mg:Str->Option Value)(x:Str)(st:Stmt)(ps:List Str):Prop where
 ex:∃(f:Addr) (fd:FuncData),Fun K x x st f fd/\mg x=some (.ref f)/\Binds K fd ps []
theorem At.mk' {K:W.Frag}{mg:Str->Option Value}{h:Heap}{x:Str}{st:Stmt}{ps:List Str}{f:Addr}{oc:Value}{od an:Option Addr}{osl:Array (Option Value)}{kV doc pm cdv ct:Value}(X:K.In h)(G:h.Ns mainGlobals mg)
  (hb:∀(kV doc pm:Value) (an:Option Addr) (cdv ct:Value) (us:List Value),us.length=ps.length->bindArgs (W.fnOf x x (cJ st) (af st) (ab st) .none kV doc pm an cdv ct) ⟨us,[]⟩=pure (ps.zip us))
  (a:W.nsIn K mainGlobals x=some (some (.ref f))) (l:K.lookup f=some ⟨oc,od,.func (W.fnOf x x (cJ st) (af st) (ab st) .none kV doc pm an cdv ct),osl⟩)
  (c:W.codeIn K cdv x=true) (k:W.keepIn K (.ref f)=true):At K mg x st ps:=by
 have F:=Au (st:=st) l c k
 exact⟨f,_,F,W.mg_of X G a,F.binds hb⟩
theorem At.ok {P:Program}{w:World}{K:W.Frag}{mg:Str->Option Value}{base:Heap}{x:Str}{st:Stmt}{N ps:List Str}{k:Nat}{sp:Sp}(F:At K mg x st ps)(S:ag N ps (ab st))(len:∀vs H Q E,sp vs H Q E->vs.length=ps.length)
  (hbody:∀(f:Addr) (cdv:Value) (A:Around) (outer:List Env) (s:Shared) (H:Hp) (vs:List V) (Q:VK) (E:XK),Room k (A.deeper (envOfC x (ab st) s.heap.objs.size f cdv))->sp vs H Q E ->
   ∃t,PSs (lc CX0 P w K mg base N x (ab st) f cdv A outer s H E).nox (af st) t/\t { nx:=fun _ H'=>Q .non H',rt:=Q } (start N vs) H):Has P w K mg base (k+1) x ps sp:=by
 obtain⟨f,fd,Ff,m,b⟩:=F.ex
 exact⟨f,fd,Ff.ok S len (fun cdv A outer s H vs Q E hr h=>hbody f cdv A outer s H vs Q E hr h),m,Ff.kp,b⟩
theorem Gy {k:Nat}{x:Str}{ps:List Str}{sp:Sp}{p pos:Pos}{e:Expr}{es:List Expr}{t:TA}(F:Has X.prog X.w X.K X.mg X.base k x ps sp)(hr:Room k X.A)(ha:PA X (e::es) t)
  (hg:Gl X x:=by rfl) (hdb:(x == ("__debug__":Str))=false:=by decide) (he:starEach (e::es) X.env=(false,eval e X.env)::starEach es X.env:=by rfl) (hpl:(backTo pos (starEach es X.env)).any (·.1)=false:=by rfl) :
  PE X (.Call (.Name x p) (e::es) [] pos) (q8 sp [] E0 t):=by
 obtain⟨f,fd,F,m,kp,b⟩:=F.ex
 exact CM F hr hg m kp b .nil Eo ha hdb he hpl
theorem Dx {k:Nat}{x:Str}{ps:List Str}{sp:Sp}{p pos:Pos}(F:Has X.prog X.w X.K X.mg X.base k x ps sp)(hr:Room k X.A)
  (hg:Gl X x:=by rfl) (hdb:(x == ("__debug__":Str))=false:=by decide) :
  PE X (.Call (.Name x p) [] [] pos) (q8 sp [] E0 uw):=by
 obtain⟨f,fd,F,m,kp,b⟩:=F.ex
 exact B0 F hr hg m kp b .nil Eo hdb
end
end HX
namespace HX
open L2
noncomputable def ak:Expr->Bool
 | .Starred ..=>false
 | _=>true
theorem a7 {e:Expr}{es:List Expr}{env:Env}(h:ak e=true):starEach (e::es) env=(false,eval e env)::starEach es env:=by
 cases e <;> first|rfl|cases h
theorem tF {env:Env}:∀ {es:List Expr},es.all ak=true->(starEach es env).any (·.1)=false
 | [],_=>rfl
 | e::es,h=>by
  rw[O6,M3] at h
  rw[a7 h.1,OP,tF h.2]
  rfl
noncomputable def kR:Expr->Bool
 | .Slice ..=>false
 | _=>true
theorem Hm {b:Expr}(h:kR b=true):xQ b:=fun o i=>by
 cases b <;> first|rfl|cases h
section
variable {X:Cx}
theorem pac {e:Expr}{es:List Expr}{te:TE}{t:TA}(ha:PE X e te)(hr:PA X es t)(h:ak e=true:=by rfl):PA X (e::es) (iu te t):=DO ha hr (a7 h)
theorem Ab {a b:Expr}{ta tb:TE}{pos:Pos}{r:R2}(hr:IxR X r)(ha:PE X a ta)(hb:PE X b tb)(hs:kR b=true:=by rfl):PE X (.Subscript a b pos) (tOp r ta tb):=Ht hr ha hb (Hm hs)
theorem oE {env:Env}{pos:Pos}{es:List Expr}(h:es.all ak=true):(backTo pos (starEach es env)).any (·.1)=false:=by
 have:=tF (env:=env) h
 unfold backTo
 rw[List.any_map]
 exact this
theorem Dd {k:Nat}{x:Str}{ps:List Str}{sp:Sp}{p pos:Pos}{e:Expr}{es:List Expr}{t:TA}(F:Has X.prog X.w X.K X.mg X.base k x ps sp)(hr:Room k X.A)(ha:PA X (e::es) t)
  (hg:Gl X x:=by rfl) (hdb:(x == ("__debug__":Str))=false:=by decide) (he:ak e=true:=by rfl) (hpl:es.all ak=true:=by rfl) :
  PE X (.Call (.Name x p) (e::es) [] pos) (q8 sp [] E0 t):=Gy F hr ha hg hdb (a7 he) (oE hpl)
theorem mx {id:String}{r:List V->Hp->VK->Prop}{x:Str}{p pos:Pos}{e:Expr}{es:List Expr}{t:TA}(hc:eW X (.builtin id) r)(hg:Gl X x)(hm:X.mg x=none)(hv:bootBuiltins x=some (.builtin id))(ha:PA X (e::es) t)(hn:x≠"__name__":=by decide)(hdb:(x == ("__debug__":Str))=false:=by decide)
  (he:ak e=true:=by rfl) (hpl:es.all ak=true:=by rfl):PE X (.Call (.Name x p) (e::es) [] pos) (tCB r t):=BN hc hg hm hv ha hn hdb (a7 he) (oE hpl)
theorem nY {T:String}{r:List V->Hp->VK->Prop}{x:Str}{p pos:Pos}{e:Expr}{es:List Expr}{t:TA}(hc:eW X (.type T) r)(hg:Gl X x)(hm:X.mg x=none)(hv:bootBuiltins x=some (.type T))(ha:PA X (e::es) t)(hn:x≠"__name__":=by decide)(hdb:(x == ("__debug__":Str))=false:=by decide)
  (he:ak e=true:=by rfl) (hpl:es.all ak=true:=by rfl):PE X (.Call (.Name x p) (e::es) [] pos) (tCB r t):=yq hc hg hm hv ha hn hdb (a7 he) (oE hpl)
end
end HX
namespace L2
section
variable {κ:Type} [DecidableEq κ]
end
section
variable {P:Program}{w:World}{H:Hp}{h:Heap}{a:Addr}
end
section
variable {X:Cx}{pins:List (Addr × Obj)}{σ:St}{H:Hp}{s:Shared}{a:Addr}{y v:V}{u r:Value}{o:Option V}{A:Around}{E:Value->Shared->Prop}
end
section
variable {X:Cx}{pins:List (Addr × Obj)}{σ:St}{H:Hp}{s:Shared}{a:Addr}{kvs:List (Key × V)}{k:Key}{u:Value}{A:Around}{E:Value->Shared->Prop}
end
section
variable {X:Cx}{pins:List (Addr × Obj)}{σ:St}{H:Hp}{s:Shared}{a:Addr}{kvs:List (Key × V)}{A:Around}{E:Value->Shared->Prop}
end
section
variable {X:Cx}{pins:List (Addr × Obj)}{σ:St}{H:Hp}{s:Shared}{a:Addr}{y d:V}{u r:Value}{o:Option V}{A:Around}{E:Value->Shared->Prop}
end
end L2
namespace FW
open L2
def sS (xs:Array Nat):Prop:=∀i j,i<j->j<xs.size->xs.getD i 0<xs.getD j 0
theorem BE {xs:Array Nat}{j:Nat}(h:sS xs):∀(fuel lo hi:Nat),hi-lo<=fuel->lo<=hi->hi<=xs.size->(∀i,i<lo->xs.getD i 0<j)->(∀i,hi<=i->i<xs.size->j<=xs.getD i 0) ->
  SetTable.below.go xs j fuel lo hi<=xs.size/\(∀i,i<SetTable.below.go xs j fuel lo hi->xs.getD i 0<j)/\∀i,SetTable.below.go xs j fuel lo hi<=i->i<xs.size->j<=xs.getD i 0:=by
 intro fuel
 induction fuel with
 | zero =>
  intro lo hi h1 h2 h3 h4 h5
  have:lo=hi:=by omega
  subst this
  rw[SetTable.below.go]
  exact⟨h3,h4,h5⟩
 | succ n ih =>
  intro lo hi h1 h2 h3 h4 h5
  rw[SetTable.below.go]
  by_cases c:lo<hi
  ·rw[ML c]
   have ml:(lo+hi)/2<xs.size:=by omega
   have e:xs.getD ((lo+hi)/2) j=xs.getD ((lo+hi)/2) 0:=by simp[Array.getD,ml]
   dsimp only
   rw[e]
   have up:∀a b,a<=b->b<xs.size->xs.getD a 0<=xs.getD b 0:=fun a b h1 h2=>by
    by_cases q:a=b
    ·rw[q];exact MM _
    ·exact OA (h a b (by omega) h2)
   by_cases d:xs.getD ((lo+hi)/2) 0<j
   ·rw[ML d]
    exact ih _ _ (by omega) (by omega) h3 (fun i hi'=>by have:=up i ((lo+hi)/2) (by exact Nat.le_of_lt_succ ‹_›) ml;omega) h5
   ·rw[MJ d]
    exact ih _ _ (by omega) (by omega) (by exact Nat.le_of_lt ‹_›) h4 fun i h6 h7=>by have:=up ((lo+hi)/2) i h6 h7;omega
  ·rw[MJ c]
   have:lo=hi:=by omega
   subst this
   exact⟨h3,h4,h5⟩
theorem gr {xs:Array Nat}{j:Nat}(h:sS xs):SetTable.below xs j<=xs.size/\(∀i,i<SetTable.below xs j->xs.getD i 0<j)/\∀i,SetTable.below xs j<=i->i<xs.size->j<=xs.getD i 0 :=
 BE h xs.size 0 xs.size (by exact Nat.le_refl _) (N5 _) (MM _) (fun i hi=>absurd hi (OW _)) fun i h1 h2=>by omega
theorem Ce {xs:Array Nat}(h:sS xs){i:Nat}(hi:i<xs.size):SetTable.below xs (xs.getD i 0)=i/\SetTable.below xs (xs.getD i 0+1)=i+1:=by
 obtain⟨a1,a2,a3⟩:=gr (j:=xs.getD i 0) h
 obtain⟨b1,b2,b3⟩:=gr (j:=xs.getD i 0+1) h
 constructor
 ·refine Q0 (PD fun z=>?_) (PD fun z=>?_)
  ·have:=a2 i z;exact Nat.lt_irrefl _ ‹_›
  ·have:=a3 _ (MM _) (by omega)
   have:=h _ _ z hi
   omega
 ·refine Q0 (PD fun z=>?_) (PD fun z=>?_)
  ·have p:=b2 (i+1) z
   have:=h i (i+1) (by exact Nat.le_refl _) (by omega)
   omega
  ·have:=b3 i (by exact Nat.le_of_lt_succ ‹_›) hi
   exact Nat.lt_irrefl _ ‹_›
theorem jy {xs:Array Nat}{p x:Nat}(hp:p<=xs.size)(i:Nat):(SetTable.insertAt xs p x).getD i 0=if i<p then xs.getD i 0 else if i=p then x else xs.getD (i-1) 0:=by
 have e:=SetTable.toList_insertAt xs p x
 have g:∀(ys:Array Nat),ys.getD i 0=ys.toList.getD i 0:=fun ys=>by simp[Array.getD,List.getD_eq_getElem?_getD];split <;> simp_all
 have g2:∀k,xs.getD k 0=xs.toList.getD k 0:=fun k=>by simp[Array.getD,List.getD_eq_getElem?_getD];split <;> simp_all
 rw[g,e,g2,g2]
 have lp:(xs.toList.take p).length=p:=by rw[OS,M9];omega
 by_cases c:i<p
 ·rw[ML c]
  simp only[List.getD_eq_getElem?_getD]
  rw[M1 (by omega),OG c]
 ·rw[MJ c]
  simp only[List.getD_eq_getElem?_getD]
  rw[M6 (by omega),lp]
  by_cases d:i=p
  ·rw[ML d,d,QS];rfl
  ·rw[MJ d]
   obtain⟨k,hk⟩:∃k,i-p=k+1:=⟨i-p-1,by omega⟩
   rw[hk,P0,QI]
   congr 2
   omega
theorem p8 {xs:Array Nat}{p x:Nat}(hp:p<=xs.size):(SetTable.insertAt xs p x).size=xs.size+1:=by
 have e:=NV List.length (SetTable.toList_insertAt xs p x)
 rw[M9] at e
 rw[e]
 simp
 omega
def DA (t:SetTable)(j:Nat):Prop:=t.place[SetTable.below t.place j]?≠some j
theorem Do {t:SetTable}{j:Nat}(h:sS t.place)(f:DA t j):sS (t.put j).1.place:=by
 obtain⟨a1,a2,a3⟩:=gr (j:=j) h
 show sS (SetTable.insertAt t.place (SetTable.below t.place j) j)
 have ne:∀i,SetTable.below t.place j<=i->i<t.place.size->j<t.place.getD i 0:=fun i h1 h2=>by
  have g1:=a3 i h1 h2
  refine Nat.lt_of_le_of_ne g1 fun e=>?_
  have g2:=a3 _ (MM _) (by omega)
  have e2:t.place.getD (SetTable.below t.place j) 0=j:=by
   by_cases q:SetTable.below t.place j=i
   ·rw[q];exact e.symm
   ·have:=h _ _ (show SetTable.below t.place j<i by omega) h2
    omega
  have lt:SetTable.below t.place j<t.place.size:=by omega
  have e3:t.place[SetTable.below t.place j]?=some (t.place.getD (SetTable.below t.place j) 0):=by simp[Array.getD,lt]
  exact f (by rw[e3,e2])
 intro i k ik ks
 rw[p8 a1] at ks
 rw[jy a1,jy a1]
 by_cases c1:i<SetTable.below t.place j
 ·rw[ML c1]
  by_cases c2:k<SetTable.below t.place j
  ·rw[ML c2];exact h i k ik (by omega)
  ·rw[MJ c2]
   by_cases c3:k=SetTable.below t.place j
   ·rw[ML c3];exact a2 i c1
   ·rw[MJ c3];exact h i (k-1) (by omega) (by omega)
 ·rw[MJ c1,MJ (show ¬k<SetTable.below t.place j by omega),MJ (show ¬k=SetTable.below t.place j by omega)]
  by_cases c3:i=SetTable.below t.place j
  ·rw[ML c3];exact ne (k-1) (by omega) (by omega)
  ·rw[MJ c3];exact h (i-1) (k-1) (by omega) (by omega)
theorem qL {t:SetTable}{j:Nat}(h:t.slot j=.empty\/t.slot j=.dummy):DA t j:=fun e=>by
 have:t.slot j=.live (SetTable.below t.place j):=by
  unfold SetTable.slot
  dsimp only
  rw[e]
  simp
 rw[this] at h
 rcases h with h|h <;> cases h
theorem wE {t:SetTable}{hashAt:Nat->Int}{h:Int}:∀(fuel:Nat) (p:SetTable.Probe) {j:Nat}{dm:Option Nat},(∀d,p.dummy=some d->DA t d)->SetTable.probe.go t hashAt h fuel p=some (.empty j dm)->DA t (dm.getD j):=by
 intro fuel
 induction fuel with
 | zero=>intro p j dm hd e;rw[SetTable.probe.go] at e;cases e
 | succ n ih =>
  intro p j dm hd e
  rw[SetTable.probe.go] at e
  cases c:t.slot p.j with
  | empty =>
   rw[c] at e
   cases e
   cases q:p.dummy with
   | none=>exact qL (.inl c)
   | some d=>exact hd d q
  | dummy =>
   rw[c] at e
   refine ih _ (fun d q=>?_) e
   have:(t.advance { p with dummy:=some p.j }).dummy=some p.j:=by
    unfold SetTable.advance
    dsimp only
    split <;> rfl
   rw[this] at q
   cases q
   exact qL (.inr c)
  | live i =>
   rw[c] at e
   dsimp only at e
   split at e
   ·cases e
   ·refine ih _ (fun d q=>?_) e
    have:(t.advance p).dummy=p.dummy:=by
     unfold SetTable.advance
     split <;> rfl
    rw[this] at q
    exact hd d q
theorem y9 (n:Nat):sS (Array.range n):=fun i j ij jn=>by
 rw[Array.size_range] at jn
 have h1:i<n:=by omega
 simp[Array.getD,h1,jn,ij]
structure g_ (b:Bool)(t:SetTable):Prop where
 ris:sS t.place
 led:t.led=b
theorem gS {b:Bool}{t:SetTable}(h:g_ b t)(n:Nat):g_ b (t.standIn n):=⟨y9 n,h.led⟩
theorem rY {b:Bool}{t:SetTable}(h:g_ b t)(n:Nat):g_ b (t.orStandIn n):=by
 unfold SetTable.orStandIn
 split
 ·exact h
 ·exact gS h n
theorem yM {b:Bool}{t:SetTable}(h:g_ b t)(es:Array (Int × Value))(x:Int)(v:Value):g_ b (layNew t es x v).2.1:=by
 unfold layNew
 cases e:t.freeSlot x with
 | none=>exact gS h _
 | some p =>
  obtain⟨slot,wd⟩:=p
  dsimp only
  refine rY ⟨Do h.ris ?_,h.led⟩ _
  unfold SetTable.freeSlot at e
  cases q:t.probe (fun _=>x+1) x (t.probeStart x) with
  | none=>rw[q] at e;cases e
  | some m =>
   rw[q] at e
   cases m with
   | empty j dm =>
    cases e
    exact wE _ _ (fun d hd=>by cases hd) q
   | candidate _ _ _=>cases e
theorem Dw {mask finger moves:Nat}{led plain:Bool}{hs:Array Int}{t:SetTable}{ord:Array Nat}(h:SetTable.laid mask finger moves led plain hs=some (t,ord)):g_ led t:=by
 unfold SetTable.laid at h
 cases q:SetTable.layClean mask hs with
 | none=>rw[q] at h;cases h
 | some owner =>
  rw[q] at h
  have h:some _=some (t,ord):=h
  cases h
  refine⟨fun i j ij jn=>?_,rfl⟩
  dsimp only at jn |-
  have pw:(((List.range (mask+1)).filterMap fun j=>(owner.getD j none).map (j,·)).map (·.1)).Pairwise (·< ·):=by
   rw[List.pairwise_map]
   have:=List.pairwise_lt_range (n:=mask+1)
   refine List.Pairwise.filterMap _ (fun a a' lt b hb b' hb'=>?_) this
   obtain⟨_,_,rfl⟩:=M0.mp hb
   obtain⟨_,_,rfl⟩:=M0.mp hb'
   exact lt
  rw[MY] at jn
  have:=N3.mp pw i j (by omega) jn ij
  have il:i<(((List.range (mask+1)).filterMap fun j=>(owner.getD j none).map (j,·)).map (·.1)).length:=by omega
  simp only[Array.getD,List.size_toArray,il,jn,dite_true]
  exact this
theorem uH {b:Bool}{t:SetTable}(h:g_ b t)(es:Array (Int × Value))(n:Nat):g_ b (relayAll t es n).2.1:=by
 unfold relayAll
 cases q:t.relaid (es.map (·.1)) n with
 | none=>exact gS h _
 | some p =>
  obtain⟨t',ord⟩:=p
  dsimp only
  split
  ·have:=Dw q
   rw[<-h.led]
   exact this
  ·exact gS h _
noncomputable def toI:Value->Int
 | .int n _=>n
 | _=>0
section
variable {prog:Program}{w:World}{A:Around}{E:Value->Shared->Prop}{s:Shared}
def EI (prog:Program)(w:World)(e:Int × Value):Prop:=∃(k:Int) (t:Tok),e=((intKind prog w).hash k,.int k t)
structure SetD (prog:Program)(w:World)(b:Bool)(es:Array (Int × Value))(t:SetTable)(zs:List Int):Prop where
 el:∀e∈es.toList,EI prog w e
 nd:(es.toList.map fun e=>toI e.2).Nodup
 mem:∀i,i∈(es.toList.map fun e=>toI e.2)↔i∈zs
 ln:es.size<=zs.length
 fit:t.fits es.size=true
 ok:g_ b t
noncomputable abbrev cS (es:Array (Int × Value))(ep:Nat)(t:SetTable):Obj:={ cls:=.type "set",dict:=none,data:=.set es ep t }
def SetZ (prog:Program)(w:World)(b:Bool)(h:Heap)(a:Addr)(zs:List Int):Prop:=∃es ep t,h.get? a=some (cS es ep t)/\SetD prog w b es t zs
theorem EI.of {es:List (Int × Value)}(h:∀e∈es,EI prog w e):ElemsOf (intKind prog w) es:=fun e he=>by
 obtain⟨k,t,rfl⟩:=h e he
 exact⟨⟨k,intKind_is _ _ _ _,rfl⟩,rfl⟩
theorem SetD.perm {b:Bool}{es es':Array (Int × Value)}{t t':SetTable}{zs:List Int}(h:SetD prog w b es t zs)(p:List.Perm es'.toList es.toList)(f:t'.fits es'.size=true)(ok:g_ b t'):SetD prog w b es' t' zs :=
 ⟨fun e he=>h.el e (p.mem_iff.mp he),(p.map _).nodup_iff.mpr h.nd,fun i=>((p.map _).mem_iff).trans (h.mem i),by
  have:=p.length_eq
  rw[M9,M9] at this
  rw[this]
  exact h.ln,f,ok⟩
theorem SetD.more {b:Bool}{es es':Array (Int × Value)}{t t':SetTable}{zs:List Int}{k:Int}{tk:Tok}(h:SetD prog w b es t zs)(new:k ∉ (es.toList.map fun e=>toI e.2))(p:List.Perm es'.toList (es.push ((intKind prog w).hash k,.int k tk)).toList)(f:t'.fits es'.size=true)(ok:g_ b t'):SetD prog w b es' t' (zs++[k]):=by
 rw[Array.toList_push] at p
 refine⟨fun e he=>?_,?_,fun i=>?_,?_,f,ok⟩
 ·rcases MW.mp (p.mem_iff.mp he) with he|he
  ·exact h.el e he
  ·rw[MI] at he;exact⟨k,tk,he⟩
 ·rw[(p.map _).nodup_iff,M8,OY]
  refine⟨h.nd,by simp,fun x hx y hy=>?_⟩
  have:y=k:=by simpa[toI] using hy
  subst this
  exact fun z=>new (z ▸ hx)
 ·rw[(p.map _).mem_iff,M8,MW,MW,h.mem]
  simp[toI]
 ·have:=p.length_eq
  rw[M9,NF,M9] at this
  have:=h.ln
  simp at *
  omega
theorem Bu {a:Addr}{es es':Array (Int × Value)}{ep:Nat}{t t':SetTable}{Q:Unit->Shared->Prop}(ho:s.heap.get? a=some (cS es ep t))(hz:es'.size<4000)
  (h:∀h',Heap.SameBut a s.heap h'->h'.get? a=some (cS es' (ep+1) t')->Q () { s with heap:=h' }):wpAny (model prog w) A (storeSet a es' t') Q E s:=by
 refine wpAny_storeSet_of ho rfl (h _ (NZ s.heap a (Obj.putSet es' t')) ?_) (by rw[sizeLine_eq];omega)
 have:=NL (Obj.putSet es' t') ho (by rw[putSet_of es' t' (o:=cS es ep t) rfl];rfl)
 rw[putSet_of es' t' (o:=cS es ep t) rfl] at this
 exact this
theorem JZ {b:Bool}{a:Addr}{zs:List Int}{k:Int}{tk:Tok}{Q:Bool->Shared->Prop}(hZ:SetZ prog w b s.heap a zs)(room:zs.length<1000)
  (h:∀r h',Heap.SameBut a s.heap h'->SetZ prog w b h' a (zs++[k])->Q r { s with heap:=h' }):wpAny (model prog w) A (setAddHashed a (.int k tk) ((intKind prog w).hash k)) Q E s:=by
 obtain⟨es,ep,t,ho,D⟩:=hZ
 have hsz:=D.ln
 have hkey:=intKind_is prog w k tk
 have hel:=EI.of D.el
 have hb:es.size<scanBound:=by unfold scanBound;omega
 unfold setAddHashed setAddHashedIn
 refine N2 (MB (wpAny_setState_of ho rfl D.fit ?_))
 dsimp only
 rw[byScan_of (knd:=intKind prog w) (x:=.int k tk) rfl hb hel,ML rfl]
 unfold setAddByScan
 refine MB (MB (wpAny_rule (MB (wpAny_setScan_of hkey ho rfl D.fit hel ?_))))
 cases hr:List.findIdx? (fun e=>(intKind prog w).is k e.2) es.toList with
 | some j =>
  obtain⟨hj,hpj,_⟩:=List.findIdx?_eq_some_iff_getElem.mp hr
  refine ME (ME ?_)
  have inn:k∈zs:=by
   refine(D.mem k).mp (MZ.mpr ⟨es.toList[j],NN hj,?_⟩)
   obtain⟨k',t',e⟩:=D.el _ (NN hj)
   rw[e] at hpj |-
   have:=(intKind prog w).inj _ k k' hpj (intKind_is _ _ _ _)
   rw[this];rfl
  refine h false s.heap (Heap.SameBut.refl a s.heap) ⟨es,ep,t,ho,D.el,D.nd,fun i=>?_,by simp;exact Nat.le_succ_of_le ‹_›,D.fit,D.ok⟩
  rw[D.mem,MW,MI]
  constructor
  ·exact .inl
  ·rintro (z|rfl)
   ·exact z
   ·exact inn
 | none =>
  have new:k ∉ (es.toList.map fun e=>toI e.2):=fun z=>by
   obtain⟨e,he,ek⟩:=MZ.mp z
   have n:=List.findIdx?_eq_none_iff.mp hr e he
   obtain⟨k',t',rfl⟩:=D.el e he
   have:k'=k:=ek
   subst this
   rw[intKind_is] at n
   cases n
  have hp:=layNew_perm t es ((intKind prog w).hash k) (.int k tk)
  have hf:=layNew_fits t es ((intKind prog w).hash k) (.int k tk)
  have hk:=yM D.ok es ((intKind prog w).hash k) (.int k tk)
  dsimp only
  generalize layNew t es ((intKind prog w).hash k) (.int k tk)=L at hp hf hk |-
  obtain⟨es1,t1,wd,gave⟩:=L
  dsimp only at hp hf hk |-
  have D1:SetD prog w b es1 t1 (zs++[k]):=D.more new hp hf hk
  have l1:=D1.ln
  rw[NF,P6] at l1
  refine MB ?_
  cases gave <;> (first|refine ME ?_|refine wpAny_rule ?_)
  all_goals
   split
  all_goals
   first|(refine MB ?_;rw[hashByValue_scannable 8 (x:=.int k tk) rfl];refine ME ?_)|refine MB (ME ?_)
  all_goals
   rw[ML (by rfl)]
   refine MB (Bu ho (by omega) fun h1 sb1 g1=>?_)
   split
  all_goals
   first
    | exact ME (ME (h true h1 sb1 ⟨es1,ep+1,t1,g1,D1⟩))
    | (have hp2:=relayAll_perm t1 es1 (SetTable.grown es1.size)
       have hf2:=relayAll_fits t1 es1 (SetTable.grown es1.size)
       have hk2:=uH D1.ok es1 (SetTable.grown es1.size)
       generalize relayAll t1 es1 (SetTable.grown es1.size)=L2 at hp2 hf2 hk2 |-
       obtain⟨es2,t2,gave2⟩:=L2
       dsimp only at hp2 hf2 hk2 |-
       have l2:=(D1.perm hp2 hf2 hk2).ln
       rw[NF,P6] at l2
       refine MB ?_
       cases gave2 <;> (first|refine ME ?_|refine wpAny_rule ?_)
       all_goals
         exact MB (Bu g1 (by omega) fun h2 sb2 g2=>ME (ME (h true h2 (sb1.trans sb2) ⟨es2,ep+1+1,t2,g2,D1.perm hp2 hf2 hk2⟩))))
end
end FW
namespace FW
theorem slot_si_next:Slot "set_iterator" "__next__" "set_iterator.__next__" :=
 .of (owner:="set_iterator") (n:="__next__") (by rw [typeLookup_type,builtinLookup_eq_fast];kernel_rfl) (by decide +kernel) (by decide +kernel) (by decide +kernel)
  (by first|exact .inl (by decide +kernel)|exact .inr (by decide +kernel)) (by rw[isSubtype_type];kernel_rfl)
theorem dM:Slot "set_iterator" "__iter__" "set_iterator.__iter__" :=
 .of (owner:="set_iterator") (n:="__iter__") (by rw [typeLookup_type,builtinLookup_eq_fast];kernel_rfl) (by decide +kernel) (by decide +kernel) (by decide +kernel)
  (by first|exact .inl (by decide +kernel)|exact .inr (by decide +kernel)) (by rw[isSubtype_type];kernel_rfl)
theorem dl:entryFor table "set_iterator.__next__"=some Builtin.«set_iterator.__next__»:=entryFor_of_tree (by kernel_rfl)
theorem jx:entryFor table "set_iterator.__iter__"=some Builtin.«dict_keyiterator.__iter__» :=
 entryFor_alias (id':="dict_keyiterator.__iter__") (by kernel_rfl) rfl (by decide +kernel) (by kernel_rfl)
theorem oZ:entryFor table "set.__iter__"=some Builtin.«frozenset.__iter__» :=
 entryFor_alias (id':="frozenset.__iter__") (by kernel_rfl) rfl (by decide +kernel) (by kernel_rfl)
theorem tN:Manifest.owners.lookup (String.ofList ['r','o','t','a','r','e','t','i','_','t','e','s'].reverse)=some Manifest.sig_set_iterator:=by kernel_rfl
theorem dO (a:Value):argsOk "set_iterator.__next__" ⟨[a],[]⟩:=by
 unfold argsOk;rw [signature?_of (id:="set_iterator.__next__") (n:=['_','_','t','x','e','n','_','_']) (o:=['r','o','t','a','r','e','t','i','_','t','e','s']) (by kernel_rfl) tN];kernel_rfl
theorem kZ (a:Value):argsOk "set_iterator.__iter__" ⟨[a],[]⟩:=by
 unfold argsOk;rw [signature?_of (id:="set_iterator.__iter__") (n:=['_','_','r','e','t','i','_','_']) (o:=['r','o','t','a','r','e','t','i','_','t','e','s']) (by kernel_rfl) tN];kernel_rfl
theorem jE {α:Type}:∀ {l:List α}{i:Nat} (h:i<l.length),(l[i]::l.eraseIdx i).Perm l
 | [],i,h=>absurd h (OW _)
 | x::l,0,h=>QJ _
 | x::l,i+1,h=>by
  have lt:i<l.length:=by simpa using h
  show (l[i]::x::l.eraseIdx i).Perm (x::l)
  exact(List.Perm.swap _ _ _).trans (List.Perm.cons _ (jE lt))
theorem xA {α:Type}(next:Nat->Nat):∀(n k:Nat) (l:List α) (out:Array α),l.length=n->(pickOrder.go next n k l out).toList.Perm (out.toList++l)
 | 0,k,l,out,e=>by
  have:l=[]:=List.eq_nil_of_length_eq_zero e
  subst this
  rw[O4]
  exact QJ _
 | n+1,k,l,out,e=>by
  have lt:next k % l.length<l.length:=Q7 _ (by omega)
  unfold pickOrder.go
  rw[MK lt]
  refine(xA next n (k+1) _ _ (by rw[List.length_eraseIdx,ML lt];omega)).trans ?_
  rw[Array.toList_push,OC]
  exact List.Perm.append_left _ (jE lt)
theorem yL {α:Type}(next:Nat->Nat)(xs:Array α):(pickOrder next xs).toList.Perm xs.toList:=by
 have:=xA next xs.size 0 xs.toList #[] M9
 rw[show (#[]:Array α).toList++xs.toList=xs.toList from rfl] at this
 exact this
noncomputable abbrev byT (w:World):Bool:=w.params.followText "set-order"
noncomputable def jV (w:World)(a:Addr)(ep:Nat)(es:Array (Int × Value)):Array (Int × Value):=if byT w then pickOrder (w.params.setOrder a ep) es else es
theorem rk (w:World)(a:Addr)(ep:Nat)(es:Array (Int × Value)):(jV w a ep es).toList.Perm es.toList:=by
 unfold jV
 split
 ·exact yL _ _
 ·exact QJ _
theorem je (w:World)(a:Addr)(ep:Nat)(es:Array (Int × Value)):(jV w a ep es).size=es.size:=by
 have:=(rk w a ep es).length_eq
 simpa using this
def wI (w:World)(t:SetTable)(slot i:Nat):Prop:=byT w=true\/SetTable.below t.place slot=i
def qw (w:World)(es:Array (Int × Value))(t:SetTable):Prop:=byT w=true\/(!t.plain && decide (es.size > 1))=false
theorem wA {xs:Array Nat}(h:sS xs):SetTable.below xs 0=0:=by
 obtain⟨a1,a2,a3⟩:=gr (j:=0) h
 refine Nat.eq_zero_of_not_pos fun z=>?_
 exact absurd (a2 0 z) (OW _)
section
variable {prog:Program}{w:World}{A:Around}{E:Value->Shared->Prop}{s:Shared}
theorem fH {Q:Bool->Shared->Prop}(h:Q (byT w) s):wpAny (model prog w) A setsByText Q E s:=by
 unfold setsByText
 exact MB (wpAny_askSetting (ME h))
theorem oX {a:Addr}{es:Array (Int × Value)}{ep:Nat}{t:SetTable}{zs:List Int}{i slot:Nat}{Q:Option (Value × Nat)->Shared->Prop}(ho:s.heap.get? a=some (cS es ep t))
  (D:SetD prog w (!(byT w)) es t zs) (hs:wI w t slot i) (hd:qw w es t)
  (h1:∀e slot',(jV w a ep es)[i]?=some e->wI w t slot' (i+1)->Q (some (e.2,slot')) s) (h2:(jV w a ep es)[i]?=none->Q none s):wpAny (model prog w) A (setNext a slot i ep) Q E s:=by
 unfold setNext
 refine MB (wpAny_setState_of ho rfl D.fit ?_)
 dsimp only
 refine MB (fH ?_)
 cases hb:byT w with
 | true =>
  rw[ML rfl,MJ (by simp)]
  refine MB ?_
  unfold setWalk
  refine MB (wpAny_setState_of ho rfl D.fit ?_)
  dsimp only
  refine MB (fH ?_)
  rw[hb,ML rfl]
  refine MB (wpAny_askSetting (ME (ME ?_)))
  have eo:jV w a ep es=pickOrder (w.params.setOrder a ep) es:=by unfold jV;rw[hb,ML rfl]
  rw[eo] at h1 h2
  show Q (((pickOrder (w.params.setOrder a ep) es)[i]?).map fun e=>(e.2,slot)) s
  cases q:(pickOrder (w.params.setOrder a ep) es)[i]? with
  | some e=>exact h1 e slot q (.inl hb)
  | none=>exact h2 q
 | false =>
  have eo:jV w a ep es=es:=by unfold jV;rw[hb];exact MJ MF
  rw[eo] at h1 h2
  have hbl:SetTable.below t.place slot=i:=by
   rcases hs with z|z
   ·rw[hb] at z;cases z
   ·exact z
  rw[MJ MF]
  split
  ·rename_i z
   have z:(!t.plain && decide (es.size > 1))=true:=z
   rcases hd with q|q
   ·rw[hb] at q;cases q
   ·rw[q] at z;cases z
  ·refine MB ?_
   show wpAny _ _ (if (!t.led && !es.isEmpty)=true then _ else _) _ _ _
   rw[D.ok.led,hb,MJ (by simp)]
   refine ME (ME ?_)
   rw[hbl]
   have hf:=D.fit
   simp only[SetTable.fits,Bool.and_eq_true,beq_iff_eq,decide_eq_true_eq] at hf
   by_cases lt:i<es.size
   ·have lp:i<t.place.size:=by omega
    rw[ND lt,ND lp]
    refine h1 es[i] _ (ND lt) (.inr ?_)
    have:=(Ce D.ok.ris lp).2
    rw[show t.place.getD i 0=t.place[i] from by simp[Array.getD,lp]] at this
    exact this
   ·rw[OM (by exact Nat.not_lt.mp ‹_›:es.size<=i)]
    exact h2 (OM (by exact Nat.not_lt.mp ‹_›))
theorem zE {src:Source}{n:Nat}{Q:Nat->Shared->Prop}(hn:n≠0)(h:∀i d,i<n->Q i { s with drawn:=d }):wpAny (model prog w) A (choose src n) Q E s :=
 fun Γ p hΓ=>⟨hn,h _ _ (Q7 _ (QK hn))⟩
theorem kD {α:Type}:∀(n:Nat) (xs:List α) (s:Shared) {Q:List α->Shared->Prop},xs.length=n->(∀ys d,ys.Perm xs->Q ys { s with drawn:=d })->wpAny (model prog w) A (drawOrder n xs) Q E s
 | 0,xs,s,Q,e,h=>by
  have:xs=[]:=List.eq_nil_of_length_eq_zero e
  subst this
  exact ME (h [] s.drawn (QJ _))
 | n+1,[],s,Q,e,h=>by cases e
 | n+1,x::xs,s,Q,e,h=>by
  unfold drawOrder
  refine MB (zE (Nat.succ_ne_zero _) fun i d lt=>?_)
  rw[MK lt]
  refine MB (kD n _ _ (by rw[List.length_eraseIdx,ML lt];exact Nat.succ.inj ‹_›) fun ys d' p=>ME ?_)
  exact h _ d' ((List.Perm.cons _ p).trans (jE lt))
def IsSI (h:Heap)(it:Addr)(first:Value)(i:Nat)(a:Addr)(n ep:Nat):Prop :=
 ∃o,h.get? it=some o/\o.cls=.type "set_iterator"/\o.data=.fields #[first,.int i 0,.ref a,.int n 0,.int ep 0]
theorem IsSI.typeIs {it:Addr}{first:Value}{i n ep:Nat}{a:Addr}(x:IsSI s.heap it first i a n ep):s.TypeIs (.ref it) "set_iterator":=let ⟨o,ho,hc,_⟩:=x;⟨o,ho,hc⟩
theorem yQ {it a:Addr}{i slot:Nat}{es:Array (Int × Value)}{ep:Nat}{t:SetTable}{zs:List Int}{e:Int × Value}{Q:Option Value->Shared->Prop}
  (hit:IsSI s.heap it (.int slot 0) i a es.size ep) (ho:s.heap.get? a=some (cS es ep t)) (D:SetD prog w (!(byT w)) es t zs) (hs:wI w t slot i) (hd:qw w es t) (he:(jV w a ep es)[i]?=some e)
  (hQ:∀slot' h',wI w t slot' (i+1)->IsSI h' it (.int slot' 0) (i+1) a es.size ep->Heap.SameBut it s.heap h'->Q (some e.2) { s with heap:=h' }):wpAny (model prog w) A (pyNext (.ref it)) Q E s:=by
 obtain⟨o,hoi,hc,hdt⟩:=id hit
 unfold pyNext
 refine MB (wpAny_attempt (wpAny_callSpecial?_slot (name:=Str.ofString "__next__") hit.typeIs slot_si_next
  (wpAny_call_entry slot_si_next hit.typeIs dl ?_ (dO _))))
 unfold Builtin.«set_iterator.__next__»
 refine MB (ME ?_)
 refine MB (wpAny_fieldsOf hoi hdt ?_)
 dsimp only
 refine MB (wpAny_setEntries_of ho rfl D.fit ?_)
 rw[MJ (by simp)]
 rw[NR,NR,NR]
 refine MB (oX ho D hs hd (fun e' slot' g1 g2=>?_) fun z=>by rw[he] at z;cases z)
 rw[he] at g1
 cases g1
 dsimp only
 have hd1:=Obj.data_mapFields hdt (·.setIfInBounds 0 (rawInt (slot':Int)))
 have ho1:=NL (Obj.mapFields (·.setIfInBounds 0 (rawInt (slot':Int)))) hoi (Obj.isFreed_of_fields hd1)
 refine MB (wpAny_setField hoi hdt (by simp) ?_)
 refine MB (wpAny_setField ho1 hd1 (by simp) ?_)
 have hd2:=Obj.data_mapFields hd1 (·.setIfInBounds 1 (rawInt ((i:Int)+1)))
 have ho2:=NL (Obj.mapFields (·.setIfInBounds 1 (rawInt ((i:Int)+1)))) ho1 (Obj.isFreed_of_fields hd2)
 refine ME ⟨_,rfl,ME (hQ slot' _ g2 ⟨_,ho2,?_,?_⟩ ((NZ ..).trans (NZ ..)))⟩
 ·rw[Obj.cls_mapFields,Obj.cls_mapFields];exact hc
 ·rw[hd2];simp[rawInt]
theorem xk {it:Addr}{R:Fin->Shared->Prop}{Q:Option Value->Shared->Prop}(hh:A.handled=none)(hQ:∀h',Heap.ExtBut it s.heap h'->Q none { s with heap:=h' }) :
  wpAny (model prog w) A.in1 (do let e <-newExc (.type "StopIteration") [];raiseNew (α:=Fin) e) R (fun e s'=>wpAny (model prog w) A (do
   let b <-isInstance e (Value.type "StopIteration")
   if b=true then pure none else throw e) Q E s') s:=by
 refine MB ?_
 simp only[newExc,newTuple]
 refine MB (wpAny_newObj_type ?_ (by size_fits))
 refine MB (m:=firstArgMember _ _) (wpAny_of_eq (a:=Value.none) (by first|rfl|(simp only[firstArgMember];rfl)) ?_)
 refine wpAny_newObj_type ?_ (by size_fits)
 simp only[raiseNew]
 refine MB (wpAny_handled ?_)
 rw[show A.in1.handled=none from hh]
 refine MB (ME (wpAny_throw ?_))
 refine MB (wpAny_isInstance (T:="StopIteration") (b:=true) ⟨_,MX _ rfl,rfl⟩ isSubtype_stop ?_)
 exact ME (hQ _ ((Heap.SameBut.refl it s.heap).extBut.push _ |>.push _))
theorem pT {it a:Addr}{i slot:Nat}{es:Array (Int × Value)}{ep:Nat}{t:SetTable}{zs:List Int}{Q:Option Value->Shared->Prop}(hh:A.handled=none)
  (hit:IsSI s.heap it (.int slot 0) i a es.size ep) (ho:s.heap.get? a=some (cS es ep t)) (D:SetD prog w (!(byT w)) es t zs) (hs:wI w t slot i) (hd:qw w es t) (he:es.size<=i)
  (hQ:∀h',Heap.ExtBut it s.heap h'->Q none { s with heap:=h' }):wpAny (model prog w) A (pyNext (.ref it)) Q E s:=by
 obtain⟨o,hoi,hc,hdt⟩:=id hit
 unfold pyNext
 refine MB (wpAny_attempt (wpAny_callSpecial?_slot (name:=Str.ofString "__next__") hit.typeIs slot_si_next
  (wpAny_call_entry slot_si_next hit.typeIs dl ?_ (dO _))))
 unfold Builtin.«set_iterator.__next__»
 refine MB (ME ?_)
 refine MB (wpAny_fieldsOf hoi hdt ?_)
 dsimp only
 refine MB (wpAny_setEntries_of ho rfl D.fit ?_)
 rw[MJ (by simp)]
 rw[NR,NR,NR]
 refine MB (oX ho D hs hd (fun e' slot' g1 g2=>?_) fun z=>?_)
 ·rw[OM (by rw[je];exact he)] at g1;cases g1
 dsimp only
 refine MB (wpAny_setField hoi hdt (by simp) ?_)
 exact xk (it:=it) hh fun h' x=>hQ h' ((NZ s.heap it _).extBut.trans x)
theorem x9 (hh:A.handled=none)(I a:Addr)(hne:a≠I){es:Array (Int × Value)}{ep:Nat}{t:SetTable}{zs:List Int}(D:SetD prog w (!(byT w)) es t zs)(hd:qw w es t) :
  Walks prog w A I [I,a] [I] es.size (fun i v=>∃e,(jV w a ep es)[i]?=some e/\e.2=v) (fun i h=>∃slot,IsSI h I (.int (slot:Nat) 0) i a es.size ep/\wI w t slot i/\h.get? a=some (cS es ep t)) where
 sub:=fun b hb=>by simp at hb;simp[hb]
 frame:=fun _ _ _ st hk=>by
  obtain⟨slot,⟨o,ho,r⟩,p,g⟩:=st
  exact⟨slot,⟨o,hk I (by simp) o ho,r⟩,p,hk a (by simp) _ g⟩
 item:=fun i s Q E hi st hQ=>by
  obtain⟨slot,hit,p,g⟩:=st
  have lt:i<(jV w a ep es).size:=by rw[je];exact hi
  refine yQ hit g D p hd (ND lt) fun slot' h' p' hit' sb=>?_
  exact hQ _ h' s.toks ⟨_,ND lt,rfl⟩ ⟨slot',hit',p',sb.extBut a _ hne g⟩ fun b o hb e=>sb.extBut b o (fun h=>hb (by simp[h])) e
 done:=fun s Q E st hQ=>by
  obtain⟨slot,hit,p,g⟩:=st
  exact pT hh hit g D p hd (MM _) fun h' he'=>hQ h' s.toks fun b o hb e=>he' b o (fun h=>hb (by simp[h])) e
 self:=fun i s Q E st hQ=>by
  obtain⟨slot,hit,p,g⟩:=st
  refine wpAny_pyIter_slot hit.typeIs dM (wpAny_call_entry dM hit.typeIs jx ?_ (kZ _))
  show wpAny _ _ (ret (.ref I)) _ _ s
  exact ME ⟨_,rfl,"set_iterator",_,hit.typeIs,slot_si_next.lookup,hQ⟩
noncomputable abbrev plT (ps:List Nat):Obj:={ cls:=.type "tuple",data:=.seq (ps.map fun i:Nat=>rawInt (i:Int)).toArray }
theorem CH {it a tp:Addr}{i p:Nat}{ps:List Nat}{es:Array (Int × Value)}{ep:Nat}{t:SetTable}{e:Int × Value}{Q:Option Value->Shared->Prop}
  (hit:IsSI s.heap it (.ref tp) i a es.size ep) (ht:s.heap.get? tp=some (plT ps)) (ho:s.heap.get? a=some (cS es ep t)) (fit:t.fits es.size=true) (hp:ps[i]?=some p) (he:es[p]?=some e)
  (hQ:∀h',IsSI h' it (.ref tp) (i+1) a es.size ep->Heap.SameBut it s.heap h'->Q (some e.2) { s with heap:=h' }):wpAny (model prog w) A (pyNext (.ref it)) Q E s:=by
 obtain⟨o,hoi,hc,hdt⟩:=id hit
 unfold pyNext
 refine MB (wpAny_attempt (wpAny_callSpecial?_slot (name:=Str.ofString "__next__") hit.typeIs slot_si_next
  (wpAny_call_entry slot_si_next hit.typeIs dl ?_ (dO _))))
 unfold Builtin.«set_iterator.__next__»
 refine MB (ME ?_)
 refine MB (wpAny_fieldsOf hoi hdt ?_)
 dsimp only
 refine MB (wpAny_setEntries_of ho rfl fit ?_)
 rw[MJ (by simp)]
 refine MB (wpAny_seqItems ht rfl ?_)
 dsimp only
 rw[NR,List.getElem?_toArray,MN,hp]
 dsimp only [Option.map_some,rawInt]
 rw[NR,NR]
 unfold setNextDrawn
 refine MB (MB (wpAny_setState_of ho rfl fit ?_))
 dsimp only
 rw[MJ (by simp),he]
 refine ME ?_
 have hd2:=Obj.data_mapFields hdt (·.setIfInBounds 1 (.int ((i:Int)+1) 0))
 have ho2:=NL (Obj.mapFields (·.setIfInBounds 1 (.int ((i:Int)+1) 0))) hoi (Obj.isFreed_of_fields hd2)
 refine MB (wpAny_setField hoi hdt (by simp) ?_)
 refine ME ⟨_,rfl,ME (hQ _ ⟨_,ho2,?_,?_⟩ (NZ ..))⟩
 ·rw[Obj.cls_mapFields];exact hc
 ·rw[hd2];simp
theorem tE {it a tp:Addr}{i:Nat}{ps:List Nat}{es:Array (Int × Value)}{ep:Nat}{t:SetTable}{Q:Option Value->Shared->Prop}(hh:A.handled=none)
  (hit:IsSI s.heap it (.ref tp) i a es.size ep) (ht:s.heap.get? tp=some (plT ps)) (ho:s.heap.get? a=some (cS es ep t)) (fit:t.fits es.size=true) (hp:ps.length<=i)
  (hQ:∀h',Heap.ExtBut it s.heap h'->Q none { s with heap:=h' }):wpAny (model prog w) A (pyNext (.ref it)) Q E s:=by
 obtain⟨o,hoi,hc,hdt⟩:=id hit
 unfold pyNext
 refine MB (wpAny_attempt (wpAny_callSpecial?_slot (name:=Str.ofString "__next__") hit.typeIs slot_si_next
  (wpAny_call_entry slot_si_next hit.typeIs dl ?_ (dO _))))
 unfold Builtin.«set_iterator.__next__»
 refine MB (ME ?_)
 refine MB (wpAny_fieldsOf hoi hdt ?_)
 dsimp only
 refine MB (wpAny_setEntries_of ho rfl fit ?_)
 rw[MJ (by simp)]
 refine MB (wpAny_seqItems ht rfl ?_)
 dsimp only
 rw[NR,List.getElem?_toArray,MN,OU hp]
 dsimp only [Option.map_none]
 have hd1:=Obj.data_mapFields hdt (·.setIfInBounds 0 (rawInt 0))
 have ho1:=NL (Obj.mapFields (·.setIfInBounds 0 (rawInt 0))) hoi (Obj.isFreed_of_fields hd1)
 refine MB (wpAny_setField hoi hdt (by simp) ?_)
 refine MB (wpAny_setField ho1 hd1 (by simp) ?_)
 exact xk (it:=it) hh fun h' x=>hQ h' (((NZ s.heap it _).extBut.trans (NZ _ it _).extBut).trans x)
theorem CF (hh:A.handled=none)(I a tp:Addr)(hne:a≠I)(hnt:tp≠I){ps:List Nat}{es:Array (Int × Value)}{ep:Nat}{t:SetTable}(fit:t.fits es.size=true)(hps:ps.Perm (List.range es.size)) :
  Walks prog w A I [I,a,tp] [I] es.size (fun i v=>∃p e,ps[i]?=some p/\es[p]?=some e/\e.2=v) (fun i h=>IsSI h I (.ref tp) i a es.size ep/\h.get? tp=some (plT ps)/\h.get? a=some (cS es ep t)) where
 sub:=fun b hb=>by simp at hb;simp[hb]
 frame:=fun _ _ _ st hk=>by
  obtain⟨⟨o,ho,r⟩,p,g⟩:=st
  exact⟨⟨o,hk I (by simp) o ho,r⟩,hk tp (by simp) _ p,hk a (by simp) _ g⟩
 item:=fun i s Q E hi st hQ=>by
  obtain⟨hit,p,g⟩:=st
  have ln:ps.length=es.size:=by rw[hps.length_eq,P4]
  have lt:i<ps.length:=by omega
  have lp:ps[i]<es.size:=List.mem_range.mp (hps.mem_iff.mp (NN lt))
  refine CH hit p g fit (MK lt) (ND lp) fun h' hit' sb=>?_
  exact hQ _ h' s.toks ⟨_,_,MK lt,ND lp,rfl⟩ ⟨hit',sb.extBut tp _ hnt p,sb.extBut a _ hne g⟩ fun b o hb e=>sb.extBut b o (fun h=>hb (by simp[h])) e
 done:=fun s Q E st hQ=>by
  obtain⟨hit,p,g⟩:=st
  have ln:ps.length=es.size:=by rw[hps.length_eq,P4]
  exact tE hh hit p g fit (by exact Nat.le_of_eq ‹_›) fun h' he'=>hQ h' s.toks fun b o hb e=>he' b o (fun h=>hb (by simp[h])) e
 self:=fun i s Q E st hQ=>by
  obtain⟨hit,p,g⟩:=st
  refine wpAny_pyIter_slot hit.typeIs dM (wpAny_call_entry dM hit.typeIs jx ?_ (kZ _))
  show wpAny _ _ (ret (.ref I)) _ _ s
  exact ME ⟨_,rfl,"set_iterator",_,hit.typeIs,slot_si_next.lookup,hQ⟩
theorem yG {w:World}{a:Addr}{ep:Nat}{es:Array (Int × Value)}{acc:Array Value}(h:ItemsOf (fun i v=>∃e,(jV w a ep es)[i]?=some e/\e.2=v) acc es.size):acc.toList.Perm (es.toList.map (·.2)):=by
 have:acc.toList=(jV w a ep es).toList.map (·.2):=by
  refine P7 (by rw[M9,MS,M9,je];exact h.1) fun i h1 h2=>?_
  rw[M9] at h1
  obtain⟨e,g1,g2⟩:=h.2 i acc[i] (ND h1)
  have lt:i<(jV w a ep es).size:=by rw[je,<-h.1];exact h1
  rw[ND lt] at g1
  cases g1
  simpa using g2.symm
 rw[this]
 exact(rk w a ep es).map _
theorem Dj {ps:List Nat}{es:Array (Int × Value)}{acc:Array Value}(hps:ps.Perm (List.range es.size))(h:ItemsOf (fun i v=>∃p e,ps[i]?=some p/\es[p]?=some e/\e.2=v) acc es.size):acc.toList.Perm (es.toList.map (·.2)):=by
 have ln:ps.length=es.size:=by rw[hps.length_eq,P4]
 have:acc.toList=ps.map fun p=>(es.getD p (0,.none)).2:=by
  refine P7 (by rw[M9,MS,ln];exact h.1) fun i h1 h2=>?_
  rw[M9] at h1
  obtain⟨p,e,g0,g1,g2⟩:=h.2 i acc[i] (ND h1)
  have lt:i<ps.length:=by rw[ln,<-h.1];exact h1
  rw[MK lt] at g0
  cases g0
  rw[List.getElem_map,Array.getElem_toList,<-g2]
  simp[Array.getD_eq_getD_getElem?,g1]
 rw[this]
 refine(hps.map _).trans ?_
 have:(List.range es.size).map (fun p=>(es.getD p (0,.none)).2)=es.toList.map (·.2):=by
  refine P7 (by simp) fun i h1 h2=>?_
  have lt:i<es.size:=by simpa using h2
  simp[Array.getD,lt]
 rw[this]
noncomputable abbrev siO (first:Value)(a:Addr)(n ep:Nat):Obj:={ cls:=.type "set_iterator",data:=.fields #[first,rawInt 0,.ref a,rawInt n,rawInt ep] }
theorem Aw {a:Addr}{es:Array (Int × Value)}{ep:Nat}{t:SetTable}{Q:Value->Shared->Prop}(ho:s.heap.get? a=some (cS es ep t))(fit:t.fits es.size=true)(hz:es.size<4000)
  (h1:qw w es t->Q (.ref s.heap.objs.size) { s with heap:=s.heap.push (siO (rawInt 0) a es.size ep) })
  (h2:∀ps d,ps.Perm (List.range es.size)->Q (.ref (s.heap.objs.size+1)) { s with heap:=(s.heap.push (plT ps)).push (siO (.ref s.heap.objs.size) a es.size ep),drawn:=d }) :
  wpAny (model prog w) A (pyIter (.ref a)) Q E s:=by
 have hT:s.TypeIs (.ref a) "set":=⟨_,ho,rfl⟩
 refine wpAny_pyIter_slot hT F.slot_set_iter (wpAny_call_entry F.slot_set_iter hT oZ ?_ (F.args_set_iter_1 _))
 unfold Builtin.«frozenset.__iter__» Builtin.Frozenset.slot0 slotArgs
 simp only[List.isEmpty_nil,Bool.not_true,Bool.false_eq_true,↓reduceIte,bind_assoc,List.length_nil,bne_self_eq_false]
 unfold Builtin.Frozenset.addrOf Builtin.Frozenset.sizeOf
 refine MB (ME ?_)
 refine MB (ME ?_)
 refine MB (MB (wpAny_setEntries_of ho rfl fit (ME ?_)))
 unfold setDrawn
 refine MB (MB (wpAny_setState_of ho rfl fit ?_))
 dsimp only
 refine MB (fH (ME ?_))
 have ln:(List.range es.size).length=es.size:=P4
 split
 ·refine MB (kD es.size _ _ ln fun ps d pp=>?_)
  have lp:ps.length=es.size:=by rw[pp.length_eq,ln]
  refine MB (wpAny_newTuple ?_ (by rw[MS,lp,sizeLine_eq];omega))
  refine MB ?_
  unfold setEpoch
  refine MB (wpAny_setState_of (s:={ s with heap:=s.heap.push (plT ps),drawn:=d }) (MD _ ho) rfl fit (ME ?_))
  refine MB (wpAny_newObj_type (ME ?_))
  refine ⟨_,rfl,"set_iterator",_,⟨_,MX _ rfl,rfl⟩,slot_si_next.lookup,?_⟩
  have:=h2 ps d pp
  rw[<-OI s.heap (plT ps)] at this
  exact this
 ·rename_i z
  refine MB (ME ?_)
  refine MB ?_
  unfold setEpoch
  refine MB (wpAny_setState_of ho rfl fit (ME ?_))
  refine MB (wpAny_newObj_type (ME ?_))
  refine ⟨_,rfl,"set_iterator",_,⟨_,MX _ rfl,rfl⟩,slot_si_next.lookup,h1 ?_⟩
  have z:¬(!byT w && (!t.plain && decide (es.size > 1)))=true:=z
  unfold qw
  cases hb:byT w with
  | true=>exact .inl rfl
  | false =>
   rw[hb] at z
   exact .inr (by cases q:(!t.plain && decide (es.size > 1)) with|false=>rfl|true=>rw[q] at z;exact absurd rfl z)
theorem p6:isSubtype (.type "set") (.type "set")=pure true:=by rw[isSubtype_type];kernel_rfl
theorem qR {I:Addr}{fp wr:List Addr}{n:Nat}{P:Nat->Value->Prop}{St:Nat->Heap->Prop}{S:Addr}{R:Result->Shared->Prop}{c:Nat}(W:Walks prog w A.in1 I fp wr n P St)(hn:n<=sizeLine)(hSf:S ∉ fp)
  (hst:St 0 s.heap) (hS:s.heap.get? S=some { cls:=.type "list",dict:=none,data:=.seq #[] c,slots:=#[] })
  (hR:∀h' tk acc c',(∀b o,b ∉ S::wr->s.heap.get? b=some o->h'.get? b=some o)->h'.get? S=some { cls:=.type "list",dict:=none,data:=.seq acc c',slots:=#[] }->ItemsOf P acc n->R (.ok (.ret (.ref S))) { s with heap:=h',toks:=tk }) :
  codeAny (model prog w) A (.builtin "list.extend.loop" ⟨[.ref S,.ref I,.ref S],[]⟩) R s:=by
 refine codeAny_extend_loopS W.toS hn S hSf (.ref S) n 0 s #[] c rfl (N5 _) hst hS (ItemsOf.nil P) fun s' acc c' hm hS' hacc=>?_
 obtain⟨h',g',d',tk',os'⟩:=s'
 have eg:g'=s.gens:=hm.gens
 have ed:d'=s.drawn:=hm.drawn
 have eo:os'=s.os:=hm.os
 subst eg;subst ed;subst eo
 exact hR h' tk' acc c' (fun b o hb e=>hm.heap b o hb e) hS' hacc
theorem ua {a:Addr}{Q:Bool->Shared->Prop}(hT:s.TypeIs (.ref a) "set")(h:Q false s):wpAny (model prog w) A (Builtin.List.listLengthHint (.ref a)) Q E s:=by
 have hsp:splitId "set.__len__"=some ("set","__len__"):=by kernel_rfl
 unfold Builtin.List.listLengthHint
 refine MB (wpAny_specialOf hT F.slot_set_len.lookup ?_)
 dsimp (config:={ zeta:=false,zetaHave:=false }) only
 rw[hsp]
 dsimp (config:={ zeta:=false,zetaHave:=false }) only
 refine MB (wpAny_isInstance hT p6 ?_)
 rw[MJ (by simp)]
 split
 ·refine MB (wpAny_typeOf hT ?_)
  exact ME h
 ·rename_i z
  exact(z (by decide +kernel)).elim
theorem ud {a:Addr}{es:Array (Int × Value)}{ep:Nat}{t:SetTable}{zs:List Int}{Q:List Value->Shared->Prop}(hh:A.handled=none)(ho:s.heap.get? a=some (cS es ep t))(D:SetD prog w (!(byT w)) es t zs)(hz:es.size<4000)
  (hQ:∀h' tk d acc,(∀b o,b<s.heap.objs.size->s.heap.get? b=some o->h'.get? b=some o)->s.heap.objs.size<=h'.objs.size->acc.Perm (es.toList.map (·.2))->Q acc { s with heap:=h',toks:=tk,drawn:=d }) :
  wpAny (model prog w) A (collect (.ref a)) Q E s:=by
 have fit:=D.fit
 have ha:a<s.heap.objs.size:=MU ho
 unfold collect
 refine MB (wpAny_runValue (codeAny_builtin F.entry_proto_collect ?_))
 rw[Around.under_plainId F.plain_proto_collect _]
 show wpAny _ A.in1 (newList [] >>= fun l=>again (.builtin "list.__iadd__" ⟨[l,.ref a],[]⟩)) _ _ s
 refine MB (wpAny_newObj_type ?_)
 refine ME ⟨plainId_quiet F.plain_list_iadd _,codeAny_builtin F.entry_list_iadd ?_⟩
 rw[Around.under_plainId F.plain_list_iadd _]
 show wpAny _ A.in1 (Builtin.List.listExtendWith (.ref s.heap.objs.size) (.ref a) (.ref s.heap.objs.size)) _ _ _
 unfold Builtin.List.listExtendWith
 have g1:(s.heap.push { cls:=.type "list",data:=.seq ([]:List Value).toArray }).get? a=some (cS es ep t):=MD _ ho
 have hS₁:(s.heap.push { cls:=.type "list",data:=.seq ([]:List Value).toArray }).get? s.heap.objs.size=some { cls:=.type "list",data:=.seq ([]:List Value).toArray }:=MX _ rfl
 generalize hh1:s.heap.push { cls:=.type "list",data:=.seq ([]:List Value).toArray }=H1 at g1 hS₁ |-
 refine MB (wpAny_typeOf (T:="set") ⟨_,g1,rfl⟩ ?_)
 have h1:Builtin.List.listSameRef (.ref s.heap.objs.size) (.ref a)=false:=by simp[Builtin.List.listSameRef,Nat.ne_of_gt ha]
 have h2:(Value.type "set" == Value.type "list")=false:=by decide
 have h3:(Value.type "set" == Value.type "tuple")=false:=by decide
 simp only[h1,h2,h3,Bool.or_false,Bool.false_eq_true,if_false]
 have hsp:splitId "set.__len__"=some ("set","__len__"):=by kernel_rfl
 have hsz:s.heap.objs.size<H1.objs.size:=MU hS₁
 refine MB (Aw (s:={ s with heap:=H1 }) g1 fit hz (fun nd=>?_) fun ps d pp=>?_)
 ·have nin:s.heap.objs.size ∉ [H1.objs.size,a]:=fun z=>by
   rcases NA.mp z with z|z
   ·exact M2 hsz z
   ·exact O1 ha (MI.mp z)
  have W1:=fun I (ne:a≠I)=>x9 (A:=A.in1) (ep:=ep) hh I a ne D nd
  have W0:∀h I,h.get? I=some (siO (rawInt 0) a es.size ep)->h.get? a=some (cS es ep t)->∃slot,IsSI h I (.int ((slot:Nat):Int) 0) 0 a es.size ep/\wI w t slot 0/\h.get? a=some (cS es ep t):=fun h I e1 e2 =>
   ⟨0,⟨_,e1,rfl,rfl⟩,.inr (wA D.ok.ris),e2⟩
  have g2:(H1.push (siO (rawInt 0) a es.size ep)).get? a=some (cS es ep t):=MD _ g1
  have hS2:(H1.push (siO (rawInt 0) a es.size ep)).get? s.heap.objs.size=some { cls:=.type "list",data:=.seq ([]:List Value).toArray }:=MD _ hS₁
  have hI:(H1.push (siO (rawInt 0) a es.size ep)).get? H1.objs.size=some (siO (rawInt 0) a es.size ep):=MX _ rfl
  have old:∀b o,b<s.heap.objs.size->s.heap.get? b=some o->(H1.push (siO (rawInt 0) a es.size ep)).get? b=some o:=fun b o hb e=>by
   rw[<-hh1];exact MD _ (MD _ e)
  generalize H1.push (siO (rawInt 0) a es.size ep)=H2 at g2 hS2 hI old |-
  refine MB (N2 ?_)
  refine ua ⟨_,g2,rfl⟩ ?_
  split
  ·refine MB (wpAny_rule ?_)
   refine MB ?_
   show wpAny _ A.in1 (updateSeq s.heap.objs.size (·.push .none) >>= fun _=>updateSeq s.heap.objs.size (·.pop)) _ _ _
   refine MB (wpAny_updateSeq hS2 rfl ?_)
   have hS3:=NL (Obj.mapSeq (·.push Value.none)) hS2 rfl
   refine wpAny_updateSeq hS3 rfl ?_
   have hS4:=NL (Obj.mapSeq (·.pop)) hS3 rfl
   have oth:∀b o,b≠s.heap.objs.size->H2.get? b=some o->((H2.update s.heap.objs.size (Obj.mapSeq (·.push Value.none))).update s.heap.objs.size (Obj.mapSeq (·.pop))).get? b=some o :=
    fun b o hb e=>(OB _ _ (Ne.symm hb)).trans ((OB _ _ (Ne.symm hb)).trans e)
   refine ME ⟨plainId_quiet F.plain_extend_loop _,qR (S:=s.heap.objs.size) (W1 H1.objs.size (M2 (OD ha hsz))) (by rw[sizeLine_eq];omega) nin ?_ hS4 fun h' tk acc c' k' hS' hacc=>?_⟩
   ·exact W0 _ _ (oth _ _ (O1 hsz) hI) (oth _ _ (M2 ha) g2)
   ·refine MB (wpAny_load hS' ?_)
    refine ME (hQ h' tk _ acc.toList (fun b o hb e=>k' b o (fun z=>by
     rcases NA.mp z with z|z
     ·exact M2 hb z
     ·exact M2 (OD hb hsz) (MI.mp z)) (oth b o (M2 hb) (old b o hb e))) (OA (MU hS')) (yG hacc))
  ·rename_i z
   exact(z (by decide +kernel)).elim
 ·have nin:s.heap.objs.size ∉ [H1.objs.size+1,a,H1.objs.size]:=fun z=>by
   rcases NA.mp z with z|z
   ·exact M2 (OE hsz) z
   rcases NA.mp z with z|z
   ·exact O1 ha z
   ·exact M2 hsz (MI.mp z)
  have W1:=CF (A:=A.in1) (prog:=prog) (w:=w) (ep:=ep) hh (H1.objs.size+1) a H1.objs.size (M2 (OE (OD ha hsz))) (M2 (PF _)) fit pp
  have g2:((H1.push (plT ps)).push (siO (.ref H1.objs.size) a es.size ep)).get? a=some (cS es ep t):=MD _ (MD _ g1)
  have hS2:((H1.push (plT ps)).push (siO (.ref H1.objs.size) a es.size ep)).get? s.heap.objs.size=some { cls:=.type "list",data:=.seq ([]:List Value).toArray }:=MD _ (MD _ hS₁)
  have hI:((H1.push (plT ps)).push (siO (.ref H1.objs.size) a es.size ep)).get? (H1.objs.size+1)=some (siO (.ref H1.objs.size) a es.size ep):=by
   have:=MX (o:=siO (.ref H1.objs.size) a es.size ep) (H1.push (plT ps)) rfl
   rw[OI] at this
   exact this
  have hT2:((H1.push (plT ps)).push (siO (.ref H1.objs.size) a es.size ep)).get? H1.objs.size=some (plT ps):=MD _ (MX _ rfl)
  have old:∀b o,b<s.heap.objs.size->s.heap.get? b=some o->((H1.push (plT ps)).push (siO (.ref H1.objs.size) a es.size ep)).get? b=some o:=fun b o hb e=>by
   rw[<-hh1];exact MD _ (MD _ (MD _ e))
  generalize (H1.push (plT ps)).push (siO (.ref H1.objs.size) a es.size ep)=H2 at g2 hS2 hI hT2 old |-
  refine MB (N2 ?_)
  refine ua ⟨_,g2,rfl⟩ ?_
  split
  ·refine MB (wpAny_rule ?_)
   refine MB ?_
   show wpAny _ A.in1 (updateSeq s.heap.objs.size (·.push .none) >>= fun _=>updateSeq s.heap.objs.size (·.pop)) _ _ _
   refine MB (wpAny_updateSeq hS2 rfl ?_)
   have hS3:=NL (Obj.mapSeq (·.push Value.none)) hS2 rfl
   refine wpAny_updateSeq hS3 rfl ?_
   have hS4:=NL (Obj.mapSeq (·.pop)) hS3 rfl
   have oth:∀b o,b≠s.heap.objs.size->H2.get? b=some o->((H2.update s.heap.objs.size (Obj.mapSeq (·.push Value.none))).update s.heap.objs.size (Obj.mapSeq (·.pop))).get? b=some o :=
    fun b o hb e=>(OB _ _ (Ne.symm hb)).trans ((OB _ _ (Ne.symm hb)).trans e)
   refine ME ⟨plainId_quiet F.plain_extend_loop _,qR (S:=s.heap.objs.size) W1 (by rw[sizeLine_eq];omega) nin ?_ hS4 fun h' tk acc c' k' hS' hacc=>?_⟩
   ·exact⟨⟨_,oth _ _ (O1 (OE hsz)) hI,rfl,rfl⟩,oth _ _ (O1 hsz) hT2,oth _ _ (M2 ha) g2⟩
   ·refine MB (wpAny_load hS' ?_)
    refine ME (hQ h' tk _ acc.toList (fun b o hb e=>k' b o (fun z=>by
     rcases NA.mp z with z|z
     ·exact M2 hb z
     ·exact M2 (OE (OD hb hsz)) (MI.mp z)) (oth b o (M2 hb) (old b o hb e))) (OA (MU hS')) (Dj pp hacc))
  ·rename_i z
   exact(z (by decide +kernel)).elim
end
end FW
namespace FW
section
variable {prog:Program}{w:World}{A:Around}{E:Value->Shared->Prop}{s:Shared}
theorem SetZ.at {b:Bool}{h h':Heap}{a:Addr}{zs:List Int}(x:SetZ prog w b h a zs)(e:∀o,h.get? a=some o->h'.get? a=some o):SetZ prog w b h' a zs :=
 let ⟨es,ep,t,ho,d⟩:=x;⟨es,ep,t,e _ ho,d⟩
theorem BY {I:Addr}{fp wr:List Addr}{n:Nat}{P:Nat->Value->Prop}{St:Nat->Heap->Prop}{S:Addr}{b:Bool}{R:Result->Shared->Prop}(W:Walks prog w A.in1 I fp wr n P St)(hSf:S ∉ fp)
  (val:Nat->Int) (hval:∀i v,P i v->∃t,v=.int (val i) t) (hb:n<900) :
  ∀(k i:Nat) (s:Shared),n-i=k->i<=n->St i s.heap->SetZ prog w b s.heap S ((List.range i).map val) ->
   (∀h' tk,(∀c o,c ∉ S::wr->s.heap.get? c=some o->h'.get? c=some o)->SetZ prog w b h' S ((List.range n).map val)->R (.ok (.ret .none)) { s with heap:=h',toks:=tk }) ->
   codeAny (model prog w) A (.builtin "set.update.loop" ⟨[.ref S,.ref I],[]⟩) R s:=by
 have hSw:S ∉ wr:=fun h=>hSf (W.sub _ h)
 have hsub:∀b,b ∉ S::wr->b ∉ wr:=fun b hb z=>hb (MT _ z)
 intro k
 induction k with
 | zero =>
  intro i s hk hi hst hS hR
  have hin:i=n:=by omega
  subst hin
  refine codeAny_builtin PyProof.Rows.F.entry_set_update_loop ?_
  rw[Around.under_plainId OL _]
  show wpAny _ A.in1 (pyNext (.ref I) >>= _) _ _ s
  refine MB (W.done s _ _ hst fun h' tk hm=>?_)
  show wpAny _ A.in1 (ret Value.none) _ _ _
  exact ME (hR h' tk (fun c o hc e=>hm c o (hsub c hc) e) (hS.at fun o e=>hm S o hSw e))
 | succ k ih =>
  intro i s hk hi hst hS hR
  have hlt:i<n:=by omega
  refine codeAny_builtin PyProof.Rows.F.entry_set_update_loop ?_
  rw[Around.under_plainId OL _]
  show wpAny _ A.in1 (pyNext (.ref I) >>= _) _ _ s
  refine MB (W.item i s _ _ hlt hst fun v h1 tk1 hP hst' hm=>?_)
  obtain⟨t,rfl⟩:=hval i v hP
  show wpAny _ A.in1 (holding [Value.int (val i) t] (setAdd S (.int (val i) t)) >>= _) _ _ _
  refine MB (N2 ?_)
  unfold setAdd
  refine N2 ?_
  refine MB ((intKind prog w).pyHash (k:=val i) (intKind_is _ _ _ _) ?_)
  have hS1:SetZ prog w b h1 S ((List.range i).map val):=hS.at fun o e=>hm S o hSw e
  refine JZ (s:={ s with heap:=h1,toks:=tk1+1 }) hS1 (by simp;omega) fun r h2 sb hS2=>?_
  have hS3:SetZ prog w b h2 S ((List.range (i+1)).map val):=by rw[List.range_succ,M8];exact hS2
  refine ME ⟨plainId_quiet OL _,ih (i+1) _ (by omega) hlt (W.frame _ _ _ hst' fun b hb o e=>?_) hS3 fun h' tk kk hS4=>?_⟩
  ·show h2.get? b=some o
   rw[sb.2 b (fun h:b=S=>hSf (by rw[<-h];exact hb))];exact e
  ·refine hR h' tk (fun c o hc e=>kk c o hc ?_) hS4
   show h2.get? c=some o
   rw[sb.2 c (fun h:c=S=>hc (by rw[h];exact NH))]
   exact hm c o (hsub c hc) e
noncomputable abbrev ot (b:Bool):Obj:={ cls:=.type "set",dict:=none,data:=.set #[] 0 (.fresh 0 0 b) }
theorem DY {h:Heap}{a:Addr}{b:Bool}(e:h.get? a=some (ot b)):SetZ prog w b h a [] :=
 ⟨#[],0,.fresh 0 0 b,e,fun e he=>by simp at he,by simp,fun i=>by simp,N5 _,by rfl,⟨fun i j ij jn=>absurd jn (OW _),rfl⟩⟩
theorem CD (a:Value){Q:Value->Shared->Prop}(h:Q (.ref s.heap.objs.size) { s with heap:=s.heap.push (ot (!(byT w))) }) :
  codeAny (model prog w) A (.call (.builtin "set.__new__") ⟨[.type "set",a],[]⟩) (wants Q E) s:=by
 refine codeAny_of_tree ?_
 show wpAny _ A.in1 (do checkBuiltinCall "set.__new__" ⟨[.type "set",a],[]⟩;again (.builtin "set.__new__" ⟨[.type "set",a],[]⟩)) _ _ s
 refine MB (wpAny_of_eq (PySem.F.newCall_set_1 a) (ME ⟨plainId_quiet PySem.F.plain_set_new _,codeAny_builtin PySem.F.entry_set_new ?_⟩))
 rw[Around.under_plainId PySem.F.plain_set_new _]
 unfold Builtin.«set.__new__» Builtin.Frozenset.newClass
 have hsub:=sub_set_self
 obtain⟨hp,g,d,tk,os⟩:=s
 dsimp only
 wp_walk
 refine wpAny_askSetting (ME ?_)
 dsimp only
 simp only[newObj]
 refine MB (wpAny_alloc (ME ?_))
 exact ME h
set_option maxHeartbeats 3200000 in
theorem yI {l:Addr}{items:Array Value}{ns:List Int}{Q:Value->Shared->Prop}(hh:A.handled=none)(hl:s.heap.IsList l items)(hi:IntsAre items.toList ns)(hb:items.size<900)
  (h:∀(h':Heap) (tk:Nat),SetZ prog w (!(byT w)) h' s.heap.objs.size ns->(∀b o,b<s.heap.objs.size->s.heap.get? b=some o->h'.get? b=some o)->Q (.ref s.heap.objs.size) { s with heap:=h',toks:=tk }) :
  wpAny (model prog w) A (call (.type "set") [.ref l]) Q E s:=by
 obtain⟨c,tl,hmro⟩:=PySem.F.called_set.mro
 have hmade:=PySem.F.called_set.made
 have hsub:=PySem.F.called_set.sub
 refine wpAny_call (codeAny_of_tree ?_)
 show wpAny _ _ (callAny (.type "set") _) _ _ _
 refine ME ⟨Code.quiet_builtin _ (by decide +kernel),codeAny_builtin PySem.F.entry_type_call ?_⟩
 rw [Around.under_plain (weight_type_call_type "set" [.ref l] []) rfl]
 have h1:=PySem.F.called_set.notType
 have h2:=PySem.F.called_set.canCreate
 have hct:=PySem.F.typeCall_set_1 (.ref l)
 repeat (any_goals (first|assumption|wp_step))
 refine codeAny_mono (CD (.ref l) (E:=E) (Q:=fun obj s₁=>obj=.ref s.heap.objs.size/\s₁={ s with heap:=s.heap.push (ot (!(byT w))) }) ⟨rfl,rfl⟩) fun r s₁ hr=>?_
 cases r with
 | error e=>exact hr
 | ok fl =>
  cases fl with
  | ret obj =>
   obtain⟨rfl,rfl⟩:=hr
   have hS:(s.heap.push (ot (!(byT w)))).get? s.heap.objs.size=some (ot (!(byT w))):=MX _ rfl
   have hT:Shared.TypeIs { s with heap:=s.heap.push (ot (!(byT w))) } (.ref s.heap.objs.size) "set":=⟨_,hS,rfl⟩
   have hli:=PySem.F.called_set.init.lookup
   have hbi:=PySem.F.called_set.init.bind (.ref s.heap.objs.size)
   repeat (any_goals (first|assumption|wp_step))
   refine codeAny_mono (codeAny_call_builtin (R:=wants (fun r s₂=>r=.none/\∃h' tk,s₂={ s with heap:=h',toks:=tk }/\SetZ prog w (!(byT w)) h' s.heap.objs.size ns /\
     (∀b o,b<s.heap.objs.size->s.heap.get? b=some o->h'.get? b=some o)) E) PySem.F.called_set.init.plain PySem.F.entry_set_init (check_set_init_1 hT ?_)) fun r₂ s₂ hr₂=>?_
   ·have hl1:(s.heap.push (ot (!(byT w)))).IsList l items:=hl.push _
    have hlS:l<s.heap.objs.size:=by obtain⟨o,ho,_⟩:=hl;exact MU ho
    obtain⟨ol,hol,hcl,nl,hdl⟩:=hl
    obtain⟨ocls,odict,odata,oslots⟩:=ol
    simp only at hcl hdl
    subst hcl;subst hdl
    have hol':(s.heap.push (ot (!(byT w)))).get? l=some { cls:=.type "list",dict:=odict,data:=.seq items nl,slots:=oslots }:=MD _ hol
    have hsls:=PySem.F.sub_list_set
    have hslf:=PySem.F.sub_list_frozenset
    have hne:(Value.type "list" == Value.type "dict")=false:=by decide
    unfold Builtin.«set.__init__» noKeywords Builtin.Frozenset.updateFrom
    generalize hPI:pyIter=PI
    wp_walk
    subst hPI
    refine wpAny_pyIter_list hl1 ?_
    refine MB (wpAny_runValue ?_)
    have hh3:A.in1.in1.in1.handled=none:=by simp[hh]
    have hz:(s.heap.push (ot (!(byT w)))).objs.size=s.heap.objs.size+1:=OI ..
    have hneI:l≠(s.heap.push (ot (!(byT w)))).objs.size:=by rw[hz];exact M2 (OE hlS)
    have hSf:s.heap.objs.size ∉ [(s.heap.push (ot (!(byT w)))).objs.size,l]:=fun z=>by
     rw[hz] at z
     rcases NA.mp z with z|z
     ·exact M2 (PF _) z
     ·exact O1 hlS (MI.mp z)
    have hval:∀(i:Nat) (v:Value),items[i]?=some v->∃t,v=.int ((fun i=>ns.getD i 0) i) t:=fun i v hv =>
     PyProof.Rows.IntsAre.int_at hi i v (by rw[Array.getElem?_toList];exact hv)
    have hns:(List.range items.size).map (fun i=>ns.getD i 0)=ns:=by
     have ln:items.size=ns.length:=by rw[<-M9];exact IntsAre.length hi
     refine P7 (by simp[ln]) fun i h1 h2=>?_
     simp[List.getElem?_eq_getElem h2]
    refine BY (b:=!(byT w)) (Walks.list hh3 _ l hneI items) hSf (fun i=>ns.getD i 0) hval hb items.size 0 _ rfl (N5 _)
     ⟨⟨_,MX _ rfl,rfl,rfl⟩,(hl1.push _)⟩ (DY (MD _ hS)) fun h' tk kk hS'=>?_
    rw[hns] at hS'
    show wpAny _ _ _ _ _ _
    refine ME ?_
    show wpAny _ _ (ret Value.none) _ _ _
    refine ME ⟨rfl,h',tk,rfl,hS',fun b o hb e=>?_⟩
    refine kk b o (fun z=>?_) (MD _ (MD _ e))
    rw[hz] at z
    rcases NA.mp z with z|z
    ·exact M2 hb z
    ·exact M2 (OE hb) (MI.mp z)
   ·cases r₂ with
    | error e=>exact hr₂
    | ok fl₂ =>
     cases fl₂ with
     | ret r =>
      obtain⟨rfl,h',tk,rfl,hS',hk'⟩:=hr₂
      repeat (any_goals (first|assumption|wp_step))
      exact h _ _ hS' hk'
     | _=>exact hr₂.elim
  | _=>exact hr.elim
theorem Cy {prog:Program}{w:World}:∀ {vs:List Value}{es:List (Int × Value)},(∀e∈es,EI prog w e)->vs.Perm (es.map (·.2))->IntsAre vs (vs.map toI)
 | [],es,h,p=>.nil
 | v::vs,es,h,p=>by
  have:∀v'∈v::vs,∃k t,v'=Value.int k t:=fun v' hv=>by
   obtain⟨e,he,rfl⟩:=MZ.mp (p.mem_iff.mp hv)
   obtain⟨k,t,rfl⟩:=h e he
   exact⟨k,t,rfl⟩
  have all:∀us:List Value,(∀u∈us,∃k t,u=Value.int k t)->IntsAre us (us.map toI):=fun us=>by
   induction us with
   | nil=>exact fun _=>.nil
   | cons u us ih =>
    intro hu
    obtain⟨k,t,rfl⟩:=hu u NH
    exact .cons k t (ih fun u' hu'=>hu u' (MT _ hu'))
  exact all _ this
theorem wY {a:Addr}{zs:List Int}{Q:Value->Shared->Prop}(hh:A.handled=none)(hZ:SetZ prog w (!(byT w)) s.heap a zs)(hz:zs.length<64)
  (h:∀h' tk d l out e ns',(∀b o,b<s.heap.objs.size->s.heap.get? b=some o->h'.get? b=some o)->s.heap.objs.size<=l->h'.get? l=some (seqObj "list" out e)->IntsAre out.toList ns'->ns'.Pairwise (·< ·)->(∀i,i∈ns'↔i∈zs)->ns'.length<=zs.length ->
   Q (.ref l) { s with heap:=h',toks:=tk,drawn:=d }) :
  wpAny (model prog w) A (call (.builtin "sorted") [.ref a]) Q E s:=by
 obtain⟨es,ep,t,ho,D⟩:=hZ
 have ln:=D.ln
 refine Calls.call_function_entry kind_sorted plain_sorted entry_sorted (args_sorted1 _) ?_
 unfold Builtin.«sorted»
 refine MB (m:=checkCount "sorted" 1 1 _) (ME ?_)
 refine MB (ud (A:=A.in1) hh ho D (by omega) fun h1 tk d acc k1 z1 pm=>?_)
 have la:acc.length=es.size:=by rw[pm.length_eq,MS,M9]
 have hI:IntsAre acc (acc.map toI):=Cy D.el pm
 refine MB (wpAny_newList ?_ (by rw[la,sizeLine_eq];omega))
 have hoL:(h1.push (seqObj "list" acc.toArray 0)).get? h1.objs.size=some (seqObj "list" acc.toArray 0):=MX _ rfl
 refine MB (N2 (wpAny_call_entry slot_list_sort ⟨_,hoL,rfl⟩ entry_list_sort (list_sort_tree hoL hI (by omega) fun out ns' a1 a2 a3=>⟨_,rfl,?_⟩) (args_list_sort _)))
 refine ME ⟨_,rfl,?_⟩
 obtain⟨e,he⟩:=sortedHeap_at (out:=out) hoL
 have pz:ns'.Perm (es.toList.map fun e=>toI e.2):=by
  refine a2.trans ?_
  have:=pm.map toI
  rw[NQ] at this
  exact this
 refine h _ tk d h1.objs.size out e ns' (fun b o hb eb=>?_) z1 he a1 ?_ (fun i=>(pz.mem_iff).trans (D.mem i)) ?_
 ·have lb:b<h1.objs.size:=MG hb z1
  rw[sortedHeap_old (M2 lb) (by rw[size_push'];exact OE lb)]
  exact MD _ (k1 b o hb eb)
 ·have nd:ns'.Nodup:=pz.nodup_iff.mpr D.nd
  exact(a3.and nd).imp fun ⟨x,y⟩=>by omega
 ·rw[pz.length_eq,MS,M9];exact ln
end
end FW
namespace L2
section
variable {X:Cx}
theorem CG:fillsInplaceSlot (.type "list") "add" (Operator.Add == .Add)=pure false:=by
 unfold fillsInplaceSlot
 show (typeLookup (.type "list") (dunderI "add") >>= fun fi=>pure (fi.isSome && !isSeqSlot fi))=pure false
 rw[F.slot_list_iadd.lookup]
 have e:isSeqSlot (some (.builtin "list.__iadd__"))=true:=by decide +kernel
 show (pure (true && !isSeqSlot (some (.builtin "list.__iadd__"))):Sem Bool)=pure false
 rw[e]
 rfl
theorem Da:seqSlot? (.type "list") (dunderI "add")=pure (some (.builtin "list.__iadd__")):=PySem.seqSlot_of F.slot_list_iadd.lookup (by decide +kernel)
theorem zT {M:Model}{A:Around}{E:Value->Shared->Prop}{s:Shared}{a b:Value}{Q:Value->Shared->Prop}(ha:s.TypeIs a "list")(hb:s.TypeIs b "list")
  (hc:wpAny M A (call (.builtin "list.__iadd__") [a,b]) Q E s):wpAny M A (inplaceOp .Add a b) Q E s:=by
 unfold inplaceOp
 refine N2 ?_
 refine MB (wpAny_typeOf ha (MB (wpAny_of_eq CG ?_)))
 show wpAny M A (if false=true then _ else _) Q E s
 rw[MJ MF]
 refine MB (wpAny_binaryOp1_none (nm:="add") ha hb noFill_list_add ?_)
 refine MB (wpAny_of_eq Da ?_)
 exact MB (wpAny_rule hc)
theorem Fv:PIp X .Add (fun x y H Q=>∃l b xs zs,x=.ref l/\y=.ref b/\H l=some (.lst xs)/\H b=some (.lst zs)/\xs.length+zs.length<=sizeLine/\Q (.ref l) (upd H l (.lst (xs++zs)))):=by
 intro pins s σ H x y v u Q I rx ry h
 obtain⟨l,b,xs,zs,rfl,rfl,hH,hB,hz,q⟩:=h
 cases rx
 cases ry
 obtain⟨z,its,n,r,hl,e⟩:=I.lstM hH
 obtain⟨z2,its2,n2,r2,hl2,e2⟩:=I.lstM hB
 have hsz:its.toArray.size+its2.toArray.size<=sizeLine:=by rw[MY,MY];omega
 have hlong:¬(!its.toArray.isEmpty && Builtin.List.listTooLong (its.toArray.size+its2.toArray.size))=true:=by
  rw[oI hsz,Bool.and_false]
  exact MF
 refine zT ⟨_,e,rfl⟩ ⟨_,e2,rfl⟩ ?_
 refine call_meets F.slot_list_iadd ⟨_,e,rfl⟩ F.entry_list_iadd (F.args_list_iadd_2 _ _)
  (AutoSeq1.list___iadd___list_list_0 l its.toArray n b its2.toArray n2 hlong (by rw[MY];omega) (by exact Nat.le_succ_of_le ‹_›)) ⟨e,e2,?_⟩
 refine⟨.ref l,_,I.lset (its':=its++its2) hH e (by simp) (r.append r2) ?_,rfl,q⟩
 rw[NF]
 assumption
end
end L2
namespace L2
structure KT (h:Heap)(f:Addr)(qual:Str)(params:Arguments)(body:Expr)(scope:Scope)(cl:List (Str × Addr)):Prop where
 ex:∃pm c' ctv,h.get? f=some (W.kla_obj "<lambda>" qual params body scope cl pm c' ctv)/\h.CodeRec (.ref c') qual
structure Hv (x:Str)(scope:Scope)(cl:List (Str × Addr)):Prop where
 kind:scope.kind=.function
 co:scope.isCoroutine=false
 gen:scope.isGenerator=false
 nocell:∀y∈scope.names,y.2≠.cell
 par:scope.names.lookup x=some .local
 free:∀y,scope.names.lookup y=some .free->∃c,cl.lookup y=some c
 inj:∀y z c,cl.lookup y=some c->cl.lookup z=some c->y=z
end L2
namespace L2
def F6 (oc:Obj)(q:Str):Prop:=∃vs t,oc.data=.fields vs/\vs[1]?=some (.str q t)
end L2
namespace FW
open PySem L2 HX
set_option genInjectivity true
set_option genCtorIdx true
inductive PV where
 | non|bl (b:Bool)|int (i:Int)|str (x:Str)|tup (xs:List PV)|ref (n:Nat)|rdl (xs:List PV)|fn (a:Nat)
 deriving Inhabited
inductive Cell where
 | lst (xs:List PV)
 | dk (kvs:List (Key × PV))
 | fz (kvs:List (Key × PV))
noncomputable abbrev AH:=List Cell
noncomputable abbrev Fr:=List (Option PV)
noncomputable abbrev EK:=PV->AH->Prop
noncomputable abbrev LK:=List PV->AH->Prop
noncomputable abbrev BK:=Bool->AH->Prop
noncomputable abbrev FSp:=List PV->AH->EK->Prop
mutual
noncomputable def PV.bel (k:Nat):PV->Bool
 | .ref n=>decide (n<k)
 | .tup xs=>PV.bels k xs
 | .rdl xs=>PV.bels k xs
 | .non=>true
 | .bl _=>true
 | .int _=>true
 | .str _=>true
 | .fn _=>false
noncomputable def PV.bels (k:Nat):List PV->Bool
 | []=>true
 | x::xs=>x.bel k && PV.bels k xs
end
mutual
noncomputable def PV.bec (k:Nat):PV->Bool
 | .ref n=>decide (n<k)
 | .tup xs=>PV.becs k xs
 | .rdl xs=>PV.becs k xs
 | .non=>true
 | .bl _=>true
 | .int _=>true
 | .str _=>true
 | .fn _=>true
noncomputable def PV.becs (k:Nat):List PV->Bool
 | []=>true
 | x::xs=>x.bec k && PV.becs k xs
end
mutual
theorem PV.bel_bec {i j:Nat}(h:i<=j):∀ {v:PV},v.bel i=true->v.bec j=true
 | .non,_=>by rw[PV.bec]
 | .bl _,_=>by rw[PV.bec]
 | .int _,_=>by rw[PV.bec]
 | .str _,_=>by rw[PV.bec]
 | .ref n,z=>by rw[PV.bel] at z;rw[PV.bec];have:=O8 z;exact NW (by omega)
 | .tup xs,z=>by rw[PV.bel] at z;rw[PV.bec];exact PV.bels_becs h z
 | .rdl xs,z=>by rw[PV.bel] at z;rw[PV.bec];exact PV.bels_becs h z
 | .fn _,z=>by rw[PV.bel] at z;cases z
theorem PV.bels_becs {i j:Nat}(h:i<=j):∀ {vs:List PV},PV.bels i vs=true->PV.becs j vs=true
 | [],_=>by rw[PV.becs]
 | v::vs,z=>by rw[PV.bels,M3] at z;rw[PV.becs,M3];exact⟨PV.bel_bec h z.1,PV.bels_becs h z.2⟩
end
noncomputable def Cell.bec (k:Nat):Cell->Bool
 | .lst xs=>PV.becs k xs
 | .dk kvs=>PV.becs k (kvs.map (·.2))
 | .fz kvs=>PV.becs k (kvs.map (·.2))
noncomputable def Cell.bel (k:Nat):Cell->Bool
 | .lst xs=>PV.bels k xs
 | .dk kvs=>PV.bels k (kvs.map (·.2))
 | .fz _=>false
mutual
noncomputable def PV.toD:PV->Option PyData
 | .non=>some .none
 | .bl b=>some (.bool b)
 | .int i=>some (.int i)
 | .str x=>some (.str x)
 | .tup xs=>(PV.toDs xs).map .tuple
 | .rdl xs=>(PV.toDs xs).map .list
 | .ref _=>none
 | .fn _=>none
noncomputable def PV.toDs:List PV->Option (List PyData)
 | []=>some []
 | x::xs=>match x.toD,PV.toDs xs with
  | some d,some ds=>some (d::ds)
  | _,_=>none
end
noncomputable def pj (st:AH):PV->Option PyData
 | .ref n=>match st[n]? with
  | some (.lst xs)=>(PV.toDs xs).map .list
  | _=>none
 | v=>v.toD
def eqW (st:AH)(x y:PV)(k:Bool->Prop):Prop :=
 match x,y with
 | .int i,.int j=>k (decide (i=j))
 | .bl a,.bl b=>k (decide (a=b))
 | .str a,.str b=>k (decide (a=b))
 | x,y=>∃d e,pj st x=some d/\pj st y=some e/\SeqAt.shaped d=true/\SeqAt.shaped e=true/\k (PyData.eqv d e)
noncomputable def bS (st:AH):PV->Option String
 | .non=>some "NoneType"
 | .bl _=>some "bool"
 | .int _=>some "int"
 | .str _=>some "str"
 | .tup _=>some "tuple"
 | .rdl _=>some "list"
 | .ref n=>match st[n]? with
  | some (.lst _)=>some "list"
  | some (.dk _)=>some "dict"
  | some (.fz _)=>some "dict"
  | none=>none
 | .fn _=>none
noncomputable def bq (st:AH):PV->Option (List PV)
 | .rdl xs=>some xs
 | .ref n=>match st[n]? with
  | some (.lst xs)=>some xs
  | _=>none
 | _=>none
noncomputable def aW (st:AH):PV->Option (List PV)
 | .tup xs=>some xs
 | v=>bq st v
noncomputable def h_:PV->Bool
 | .non=>true
 | _=>false
noncomputable def m9 (k:Bool):PV->Bool
 | .bl b=>b == k
 | _=>false
noncomputable def e8 (xs:List PV)(lo hi:Option Int):List PV:=(xs.drop (HT.sIx xs.length 0 lo)).take (HT.sIx xs.length xs.length hi-HT.sIx xs.length 0 lo)
def iiW (f:Int->Int->Prop)(x y:PV):Prop :=
 match x with
 | .int i=>match y with
  | .int j=>f i j
  | _=>False
 | _=>False
def J1 (x y:PV)(st:AH)(Q:EK):Prop :=
 match x with
 | .int i=>match y with
  | .int j=>Q (.int (i+j)) st
  | _=>False
 | .ref n=>match y with
  | .ref k=>∃xs ys,st[n]?=some (.lst xs)/\st[k]?=some (.lst ys)/\xs.length+ys.length<=100000/\Q (.ref st.length) (st++[.lst (xs++ys)])
  | _=>False
 | .tup xs=>match y with
  | .tup ys=>xs.length+ys.length<=100000/\Q (.tup (xs++ys)) st
  | _=>False
 | .str a=>match y with
  | .str b=>a.length+b.length<=100000/\Q (.str (a++b)) st
  | _=>False
 | _=>False
def J0 (x y:PV)(st:AH)(Q:EK):Prop :=
 match x with
 | .int i=>match y with
  | .int j=>CMB i j/\Q (.int (i*j)) st
  | _=>False
 | .ref n=>match y with
  | .int k=>∃xs,st[n]?=some (.lst xs)/\-(2 ^ 63)<=k/\k<2 ^ 63/\xs.length*k.toNat<=100000/\Q (.ref st.length) (st++[.lst (List.replicate k.toNat xs).flatten])
  | _=>False
 | _=>False
def jp (op:Operator)(x y:PV)(st:AH)(Q:EK):Prop :=
 match op with
 | .Add=>J1 x y st Q
 | .Sub=>iiW (fun i j=>Q (.int (i-j)) st) x y
 | .Mult=>J0 x y st Q
 | .FloorDiv=>iiW (fun i j=>CBig j/\Q (.int (i/j)) st) x y
 | .Mod=>iiW (fun i j=>0<j/\Q (.int (i % j)) st) x y
 | .Pow=>iiW (fun i j=>wp i j/\Q (.int (i ^ j.toNat)) st) x y
 | _=>False
noncomputable def I_ (kvs:List (Key × PV))(k:Key)(v:PV):List (Key × PV) :=
 if (kvs.any fun kv=>decide (kv.1=k))=true then kvs.map (fun kv=>if kv.1=k then (kv.1,v) else kv) else kvs++[(k,v)]
inductive DW where
 | keys|items
 deriving DecidableEq
noncomputable def Ed (ps:List (Str × PV)):List (Key × PV):=ps.foldl (fun d p=>I_ d (.inr p.1) p.2) []
def inR (a:Str)(n:Nat)(st:AH)(k:Bool->Prop):Prop:=False
def dU (op:CmpOp)(x y:PV)(st:AH)(Q:EK):Prop :=
 match op with
 | .Eq=>eqW st x y fun k=>Q (.bl k) st
 | .NotEq=>eqW st x y fun k=>Q (.bl (!k)) st
 | .Is=>match y with
  | .non=>Q (.bl (h_ x)) st
  | .bl k=>Q (.bl (m9 k x)) st
  | _=>False
 | .IsNot=>match y with
  | .non=>Q (.bl (!h_ x)) st
  | .bl k=>Q (.bl (!m9 k x)) st
  | _=>False
 | .Lt=>match x,y with
  | .int i,.int j=>Q (.bl (decide (i<j))) st
  | _,_=>False
 | .LtE=>match x,y with
  | .int i,.int j=>Q (.bl (decide (i<=j))) st
  | _,_=>False
 | .Gt=>match x,y with
  | .int i,.int j=>Q (.bl (decide (j<i))) st
  | _,_=>False
 | .GtE=>match x,y with
  | .int i,.int j=>Q (.bl (decide (j<=i))) st
  | _,_=>False
 | .In=>match x,y with
  | .str a,.str b=>Q (.bl (!(Builtin.Str.occurrences b a 0 b.length 1).isEmpty)) st
  | .int i,.tup xs=>∃ns:List Int,xs=ns.map PV.int/\Q (.bl (ns.any fun j=>j == i)) st
  | .str a,.tup xs=>∃ns:List Str,xs=ns.map PV.str/\Q (.bl (ns.any fun j=>j == a)) st
  | .str a,.ref n=>inR a n st fun k=>Q (.bl k) st
  | _,_=>False
 | .NotIn=>match x,y with
  | .int i,.tup xs=>∃ns:List Int,xs=ns.map PV.int/\Q (.bl (!(ns.any fun j=>j == i))) st
  | .str a,.tup xs=>∃ns:List Str,xs=ns.map PV.str/\Q (.bl (!(ns.any fun j=>j == a))) st
  | .str a,.ref n=>inR a n st fun k=>Q (.bl (!k)) st
  | _,_=>False
def vP (o:Option (Option PV))(f:PV->Prop):Prop :=
 match o with
 | some (some v)=>f v
 | _=>False
theorem kg {o:Option (Option PV)}{f:PV->Prop}(h:vP o f):∃v,o=some (some v)/\f v:=by
 cases o with
 | none=>exact False.elim h
 | some o=>cases o with|none=>exact False.elim h|some v=>exact⟨v,rfl,h⟩
theorem rE {o:Option (Option PV)}{f:PV->Prop}{v:PV}(e:o=some (some v))(h:f v):vP o f:=by subst e;exact h
theorem GM {v:PV}{f:PV->Prop}:vP (some (some v)) f=f v:=rfl
def ixI (i:Int)(st:AH)(Q:EK)(x:PV):Prop :=
 match x with
 | .str z=>z.length<=100000/\∃c,atI z.cps.toList i=some c/\Q (.str ⟨#[c]⟩) st
 | x=>∃xs,aW st x=some xs/\∃v,atI xs i=some v/\Q v st
theorem xM {i:Int}{st:AH}{Q:EK}{x:PV}(h:ixI i st Q x):(∃z c,x=.str z/\z.length<=100000/\atI z.cps.toList i=some c/\Q (.str ⟨#[c]⟩) st)\/∃xs v,aW st x=some xs/\atI xs i=some v/\Q v st:=by
 cases x with
 | str z=>exact .inl ⟨z,h.2.choose,rfl,h.1,h.2.choose_spec⟩
 | _=>obtain⟨xs,e,v,e2,q⟩:=h;exact .inr ⟨xs,v,e,e2,q⟩
theorem Dr {i:Int}{st:AH}{Q:EK}{x:PV}{xs:List PV}{v:PV}(e:aW st x=some xs)(e2:atI xs i=some v)(h:Q v st):ixI i st Q x:=by
 cases x with|str z=>cases e|_=>exact⟨xs,e,v,e2,h⟩
def ixD (z:Str)(st:AH)(Q:EK)(x:PV):Prop:=False
def ixW (x y:PV)(st:AH)(Q:EK):Prop :=
 match y with
 | .int i=>ixI i st Q x
 | .str z=>ixD z st Q x
 | _=>False
noncomputable def DJ (z:Str)(lo hi:Option Int):Str:=if ((Builtin.Str.strSliceIndices lo hi 1 z.length).length == z.length)=true then z else ⟨((Builtin.Str.strSliceIndices lo hi 1 z.length).filterMap (z.cps[·]?)).toArray⟩
def slW (x:PV)(lo hi:Option Int)(st:AH)(Q:EK):Prop :=
 match x with
 | .str z=>z.length<=100000/\Q (.str (DJ z lo hi)) st
 | .tup xs=>Q (.tup (e8 xs lo hi)) st
 | x=>∃xs,bq st x=some xs/\Q (.ref st.length) (st++[.lst (e8 xs lo hi)])
def EN (st:AH)(Q:EK)(x:PV):Prop :=
 match x with
 | .str z=>z.length<=100000/\Q (.int z.length) st
 | x=>∃xs,aW st x=some xs/\Q (.int xs.length) st
theorem va {st:AH}{Q:EK}{x:PV}(h:EN st Q x):(∃z,x=.str z/\z.length<=100000/\Q (.int z.length) st)\/∃xs,aW st x=some xs/\Q (.int xs.length) st:=by
 cases x with|str z=>exact .inl ⟨z,rfl,h⟩|_=>exact .inr h
theorem AT {st:AH}{Q:EK}{x:PV}{xs:List PV}(e:aW st x=some xs)(h:Q (.int xs.length) st):EN st Q x:=by
 cases x with|str z=>cases e|_=>exact⟨xs,e,h⟩
inductive B where
 | len|max2|min2|divmod|int1|str1|tuple1|list1|all1|any1|abs1|sorted1|repr1|sortS|max1|sortD
 deriving DecidableEq
noncomputable def ie:List PV->Option (List Bool)
 | []=>some []
 | .bl b::r=>(ie r).map (b::·)
 | _::_=>none
def uX (f:PV->Prop)(vs:List PV):Prop :=
 match vs with
 | [x]=>f x
 | _=>False
def Bj (f:PV->PV->Prop)(vs:List PV):Prop :=
 match vs with
 | [x,y]=>f x y
 | _=>False
def inW (f:Int->Prop)(x:PV):Prop :=
 match x with
 | .int b=>f b
 | _=>False
def e6 (b:B)(vs:List PV)(st:AH)(Q:EK):Prop :=
 match b with
 | .len=>uX (EN st Q) vs
 | .max2=>Bj (iiW fun i j=>Q (.int (if i<j then j else i)) st) vs
 | .min2=>Bj (iiW fun i j=>Q (.int (if j<i then j else i)) st) vs
 | .divmod=>Bj (iiW fun i j=>CBig j/\Q (.tup [.int (i/j),.int (i % j)]) st) vs
 | .int1=>False
 | .str1=>False
 | .tuple1=>uX (fun x=>∃xs,aW st x=some xs/\Q (.tup xs) st) vs
 | .list1=>False
 | .all1=>uX (fun x=>∃xs bs,bq st x=some xs/\ie xs=some bs/\Q (.bl (bs.all id)) st) vs
 | .any1=>False
 | .abs1=>uX (inW fun i=>Q (.int i.natAbs) st) vs
 | .sorted1=>False
 | .repr1=>False
 | .sortS=>False
 | .max1=>uX (fun x=>∃ns:List Int,bq st x=some (ns.map PV.int)/\0<ns.length/\∀i,i∈ns->(∀j,j∈ns->j<=i)->Q (.int i) st) vs
 | .sortD=>False
inductive M where
 | append|pop0|extend|insert|count|index
 deriving DecidableEq
def rfW (f:Nat->Prop)(x:PV):Prop :=
 match x with
 | .ref n=>f n
 | _=>False
def sx (m:M)(x:PV)(vs:List PV)(st:AH)(Q:EK):Prop :=
 match m with
 | .append=>rfW (fun n=>uX (fun v=>∃xs,st[n]?=some (.lst xs)/\xs.length<100000/\Q .non (st.set n (.lst (xs++[v])))) vs) x
 | .pop0=>False
 | .extend=>rfW (fun n=>uX (rfW fun k=>∃xs ys,st[n]?=some (.lst xs)/\st[k]?=some (.lst ys)/\xs.length+ys.length<=100000/\Q .non (st.set n (.lst (xs++ys)))) vs) x
 | .insert=>rfW (fun n=>Bj (fun i v=>inW (fun i=>∃xs,st[n]?=some (.lst xs)/\xs.length<100000/\0<=i/\i<=xs.length/\Q .non (st.set n (.lst (xs.take i.toNat++v::xs.drop i.toNat)))) i) vs) x
 | .count=>False
 | .index=>False
theorem bL {f:Int->Int->Prop}{x y:PV}(h:iiW f x y):∃i j,x=.int i/\y=.int j/\f i j:=by
 cases x with
 | int i =>
  cases y with
  | int j=>exact⟨i,j,rfl,rfl,h⟩
  | _=>exact False.elim h
 | _=>exact False.elim h
theorem ba {f:PV->Prop}{vs:List PV}(h:uX f vs):∃x,vs=[x]/\f x:=by
 cases vs with
 | nil=>exact False.elim h
 | cons x t =>
  cases t with
  | nil=>exact⟨x,rfl,h⟩
  | cons _ _=>exact False.elim h
theorem dB {f:PV->PV->Prop}{vs:List PV}(h:Bj f vs):∃x y,vs=[x,y]/\f x y:=by
 cases vs with
 | nil=>exact False.elim h
 | cons x t =>
  cases t with
  | nil=>exact False.elim h
  | cons y t =>
   cases t with
   | nil=>exact⟨x,y,rfl,h⟩
   | cons _ _=>exact False.elim h
theorem nN {f:Int->Prop}{x:PV}(h:inW f x):∃b,x=.int b/\f b:=by
 cases x with
 | int b=>exact⟨b,rfl,h⟩
 | _=>exact False.elim h
theorem ff {f:Nat->Prop}{x:PV}(h:rfW f x):∃b,x=.ref b/\f b:=by
 cases x with
 | ref b=>exact⟨b,rfl,h⟩
 | _=>exact False.elim h
def fE (x:PV)(st:AH)(Q:BK):Prop :=
 match x with
 | .bl b=>Q b st
 | .non=>Q false st
 | .int i=>Q (i != 0) st
 | .str _=>False
 | x=>∃xs,aW st x=some xs/\Q (!xs.isEmpty) st
def Sub (st st':AH):Prop:=∀i,i<st.length->st'[i]?=st[i]?\/∃c,st'[i]?=some c/\c.bel 0=true
noncomputable def Tmp (st:AH)(Q:EK):EK:=fun v st'=>∃st1 g,st'=st1++g/\st1.length=st.length/\Sub st st1/\v.bel st.length=true/\Q v st1
noncomputable def Ret (st:AH)(Q:EK):EK:=fun v st'=>Q v st'\/Tmp st Q v st'
set_option genInjectivity false
set_option genCtorIdx false
mutual
inductive E where
 | var (i:Nat)|int (i:Int)|bl (b:Bool)|non|str (x:Str)|gv (x:Str) (v:PV)
 | tup (es:Es)|lst (es:Es)|dct0|dct1 (k:Str) (i:Int)
 | bin (op:Operator) (a b:E)|neg (a:E)|not (a:E)
 | cmp (op:CmpOp) (a b:E)
 | bop (isAnd:Bool) (es:Es)
 | ite (c a b:E)
 | ix (a b:E)|sl (a:E) (lo hi:O)
 | call (f:Nat) (es:Es)
 | blt (b:B) (es:Es)
 | inst (a:E) (t:String)
 | met (m:M) (o:E) (es:Es)
 | comp (elt:E) (tg:Tg) (it:It) (ifs:Es) (nt:List Str) (caps:List Nat)
 | tmp (a:E)
 | bad
 | jrev (a:E)|part (a:E) (y:Str)|sset (a:E)|clr (a:E)|dcp (a:E)|dget (a b:E)
 | pcall (i:Nat) (e:E)|hm (e be:E) (caps:List Nat)
 | compK (elt:E) (tg:Tg) (wk:DW) (e:E) (ifs:Es) (nt:List Str) (caps:List Nat)
 | compD (kx vx:E) (tg:Tg) (wk:DW) (e:E) (ifs:Es) (nt:List Str) (caps:List Nat)
 | dcl (a:E)|eqd (ne:Bool) (a b:E)|dct2 (k v:E)
inductive Es where
 | nil|cons (e:E) (es:Es)
inductive O where
 | no|yes (e:E)
inductive It where
 | seq (e:E)|range1 (a:E)|range2 (a b:E)|zip (a b:E)|enum (a:E)|chars (e:E)|range3 (a b c:E)|zip3 (a b c:E)
inductive Tg where
 | name (i:Nat)|tup (ts:Tgs)|ltup (ts:Tgs)|sub (o i:E)
inductive Tgs where
 | nil|cons (t:Tg) (ts:Tgs)
end
noncomputable def Tgs.size:Tgs->Nat
 | .nil=>0
 | .cons _ ts=>ts.size+1
def uK (o i v:PV)(st:AH)(k:AH->Prop):Prop :=
 match o,i with
 | .ref n,.int j=>∃xs,st[n]?=some (.lst xs)/\∃q,ixN xs.length j=some q/\k (st.set n (.lst (xs.set q v)))
 | _,_=>False
noncomputable def eI (chk:AH->Prop)(body:PV->AH->(Option PV->AH->Prop)->Prop):List PV->List PV->AH->LK->Prop
 | [],acc,st,Q=>chk st/\Q acc st
 | x::xs,acc,st,Q=>chk st/\body x st fun o st'=>eI chk body xs (acc++o.toList) st' Q
noncomputable def bv (st:AH):PV->AH->Prop
 | .ref n=>fun st'=>st'[n]?=st[n]?
 | _=>fun _=>True
noncomputable def eK (lo:Int)(n:Nat):List PV:=(List.range n).map fun (i:Nat)=>PV.int (lo+(i:Int))
noncomputable def jo:List PV->List PV->List PV
 | x::xs,y::ys=>.tup [x,y]::jo xs ys
 | _,_=>[]
noncomputable def dL:List PV->List PV->List PV->List PV
 | x::xs,y::ys,z::zs=>.tup [x,y,z]::dL xs ys zs
 | _,_,_=>[]
noncomputable def iL:Int->List PV->List PV
 | _,[]=>[]
 | i,x::xs=>.tup [.int i,x]::iL (i+1) xs
noncomputable def FL (g:PV->Bool)(xs:List PV):Nat->Nat->Nat->Nat
 | 0,lo,_=>lo
 | n+1,lo,hi=>if lo<hi then (if g (xs.getD ((lo+hi)/2) .non)=true then FL g xs n ((lo+hi)/2+1) hi else FL g xs n lo ((lo+hi)/2)) else lo
noncomputable def bsr (g:PV->Bool)(xs:List PV):Nat:=FL g xs xs.length 0 xs.length
section
variable (Γ:Nat->FSp)
mutual
noncomputable def wpE:E->Fr->AH->EK->Prop
 | .var i,ρ,st,Q=>vP ρ[i]? fun v=>Q v st
 | .int i,_,st,Q=>Q (.int i) st
 | .bl b,_,st,Q=>Q (.bl b) st
 | .non,_,st,Q=>Q .non st
 | .str x,_,st,Q=>Q (.str x) st
 | .gv _ v,_,st,Q=>Q v st
 | .tup es,ρ,st,Q=>cF es ρ st fun vs st1=>vs.length<=100000/\Q (.tup vs) st1
 | .lst es,ρ,st,Q=>cF es ρ st fun vs st1=>vs.length<=100000/\Q (.ref st1.length) (st1++[.lst vs])
 | .dct0,_,_,_=>False
 | .dct1 _ _,_,_,_=>False
 | .bin op a b,ρ,st,Q=>wpE a ρ st fun x st1=>wpE b ρ st1 fun y st2=>jp op x y st2 Q
 | .neg a,ρ,st,Q=>wpE a ρ st fun x st1=>∃i,x=.int i/\Q (.int (-i)) st1
 | .not a,ρ,st,Q=>wpE a ρ st fun x st1=>∃c,x=.bl c/\Q (.bl (!c)) st1
 | .cmp op a b,ρ,st,Q=>wpE a ρ st fun x st1=>wpE b ρ st1 fun y st2=>dU op x y st2 Q
 | .bop true es,ρ,st,Q=>sy es ρ st Q
 | .bop false es,ρ,st,Q=>rK es ρ st Q
 | .ite c a b,ρ,st,Q=>wpT c ρ st fun k st1=>if k=true then wpE a ρ st1 Q else wpE b ρ st1 Q
 | .ix a b,ρ,st,Q=>wpE a ρ st fun x st1=>wpE b ρ st1 fun y st2=>ixW x y st2 Q
 | .sl a lo hi,ρ,st,Q=>wpE a ρ st fun x st1=>wpO lo ρ st1 fun l st2=>wpO hi ρ st2 fun h st3=>slW x l h st3 Q
 | .call f es,ρ,st,Q=>cF es ρ st fun vs st1=>Γ f vs st1 Q
 | .blt b es,ρ,st,Q=>cF es ρ st fun vs st1=>e6 b vs st1 Q
 | .inst a t,ρ,st,Q=>wpE a ρ st fun x st1=>∃n,bS st1 x=some n/\Q (.bl (cK t n)) st1
 | .met m o es,ρ,st,Q=>wpE o ρ st fun x st1=>(∃xs,bq st1 x=some xs)/\cF es ρ st1 fun vs st2=>sx m x vs st2 Q
 | .comp elt tg it ifs nt caps,ρ,st,Q=>jJ it ρ st fun xs chk st1 =>
   xs.length<100000/\eI chk (fun x st2 k=>dy tg x (nt.map (fun _=>none)++caps.map fun i=>(ρ[i]?).join) st2 fun ρ' st3=>ib ifs ρ' st3 fun c st4 =>
    if c=true then wpE elt ρ' st4 fun v st5=>k (some v) st5 else k none st4) xs [] st1 fun vs st2=>Q (.ref st2.length) (st2++[.lst vs])
 | .tmp a,ρ,st,Q=>wpE a ρ st (Tmp st Q)
 | .bad,_,_,_=>False
 | .jrev _,_,_,_=>False
 | .part _ _,_,_,_=>False
 | .dget _ _,_,_,_=>False
 | .dcp _,_,_,_=>False
 | .clr _,_,_,_=>False
 | .sset a,ρ,st,Q=>wpE a ρ st fun x st1=>∃n,x=.ref n/\∃ns:List Int,st1[n]?=some (.lst (ns.map PV.int))/\ns.length<60/\∀ns':List Int,ns'.Pairwise (·< ·)->(∀i,i∈ns'↔i∈ns)->ns'.length<=ns.length->Q (.ref st1.length) (st1++[.lst (ns'.map PV.int)])
 | .pcall _ _,_,_,_=>False
 | .hm _ _ _,_,_,_=>False
 | .compK _ _ _ _ _ _ _,_,_,_=>False
 | .compD _ _ _ _ _ _ _ _,_,_,_=>False
 | .dct2 _ _,_,_,_=>False
 | .dcl _,_,_,_=>False
 | .eqd _ _ _,_,_,_=>False
noncomputable def cF:Es->Fr->AH->LK->Prop
 | .nil,_,st,Q=>Q [] st
 | .cons e es,ρ,st,Q=>wpE e ρ st fun x st1=>cF es ρ st1 fun xs st2=>Q (x::xs) st2
noncomputable def wpO:O->Fr->AH->(Option Int->AH->Prop)->Prop
 | .no,_,st,Q=>Q none st
 | .yes e,ρ,st,Q=>wpE e ρ st fun x st1=>∃i,x=.int i/\Q (some i) st1
noncomputable def wpT:E->Fr->AH->BK->Prop
 | .bop true es,ρ,st,Q=>ib es ρ st Q
 | .bop false es,ρ,st,Q=>sT es ρ st Q
 | .not a,ρ,st,Q=>wpT a ρ st fun c st1=>Q (!c) st1
 | .cmp op a b,ρ,st,Q=>wpE a ρ st fun x st1=>wpE b ρ st1 fun y st2=>dU op x y st2 fun v st3=>∃c,v=.bl c/\Q c st3
 | .var i,ρ,st,Q=>vP ρ[i]? fun v=>fE v st Q
 | .call f es,ρ,st,Q=>cF es ρ st fun vs st1=>Γ f vs st1 fun v st2=>fE v st2 Q
 | .blt b es,ρ,st,Q=>cF es ρ st fun vs st1=>e6 b vs st1 fun v st2=>fE v st2 Q
 | .inst a t,ρ,st,Q=>wpE a ρ st fun x st1=>∃n,bS st1 x=some n/\Q (cK t n) st1
 | .tmp a,ρ,st,Q=>wpE a ρ st (Tmp st fun v st1=>fE v st1 Q)
 | .ix a b,ρ,st,Q=>wpE a ρ st fun x st1=>wpE b ρ st1 fun y st2=>ixW x y st2 fun v st3=>fE v st3 Q
 | .pcall _ _,_,_,_=>False
 | .eqd _ _ _,_,_,_=>False
 | _,_,_,_=>False
noncomputable def sy:Es->Fr->AH->EK->Prop
 | .nil,_,_,_=>False
 | .cons e .nil,ρ,st,Q=>wpE e ρ st Q
 | .cons e es,ρ,st,Q=>wpE e ρ st fun x st1=>∃c,x=.bl c/\if c=true then sy es ρ st1 Q else Q (.bl false) st1
noncomputable def rK:Es->Fr->AH->EK->Prop
 | .nil,_,_,_=>False
 | .cons e .nil,ρ,st,Q=>wpE e ρ st Q
 | .cons e es,ρ,st,Q=>wpE e ρ st fun x st1=>∃c,x=.bl c/\if c=true then Q (.bl true) st1 else rK es ρ st1 Q
noncomputable def ib:Es->Fr->AH->BK->Prop
 | .nil,_,st,Q=>Q true st
 | .cons e .nil,ρ,st,Q=>wpT e ρ st Q
 | .cons e es,ρ,st,Q=>wpT e ρ st fun c st1=>if c=true then ib es ρ st1 Q else Q false st1
noncomputable def sT:Es->Fr->AH->BK->Prop
 | .nil,_,st,Q=>Q false st
 | .cons e .nil,ρ,st,Q=>wpT e ρ st Q
 | .cons e es,ρ,st,Q=>wpT e ρ st fun c st1=>if c=true then Q true st1 else sT es ρ st1 Q
noncomputable def jJ:It->Fr->AH->(List PV->(AH->Prop)->AH->Prop)->Prop
 | .seq e,ρ,st,Q=>wpE e ρ st fun x st1=>∃xs,aW st1 x=some xs/\Q xs (bv st1 x) st1
 | .range1 a,ρ,st,Q=>wpE a ρ st fun x st1=>∃j,x=.int j/\-(2 ^ 62)<=j/\j<2 ^ 62/\Q (eK 0 j.toNat) (fun _=>True) st1
 | .range2 _ _,_,_,_=>False
 | .zip a b,ρ,st,Q=>wpE a ρ st fun x st1=>wpE b ρ st1 fun y st2=>∃xs ys,aW st2 x=some xs/\aW st2 y=some ys/\Q (jo xs ys) (fun st'=>bv st2 x st'/\bv st2 y st') st2
 | .zip3 a b c,ρ,st,Q=>wpE a ρ st fun x st1=>wpE b ρ st1 fun y st2=>wpE c ρ st2 fun u st3=>∃xs ys zs,aW st3 x=some xs/\aW st3 y=some ys/\aW st3 u=some zs/\Q (dL xs ys zs) (fun st'=>bv st3 x st'/\bv st3 y st'/\bv st3 u st') st3
 | .enum a,ρ,st,Q=>wpE a ρ st fun x st1=>∃xs,x=.tup xs/\Q (iL 0 xs) (fun _=>True) st1
 | .chars _,_,_,_=>False
 | .range3 _ _ _,_,_,_=>False
noncomputable def dy:Tg->PV->Fr->AH->(Fr->AH->Prop)->Prop
 | .name i,v,ρ,st,Q=>Q (ρ.set i (some v)) st
 | .tup ts,v,ρ,st,Q=>∃xs,v=.tup xs/\xs.length=ts.size/\iH ts xs ρ st Q
 | .ltup _,_,_,_,_=>False
 | .sub o i,v,ρ,st,Q=>wpE o ρ st fun x st1=>wpE i ρ st1 fun y st2=>uK x y v st2 fun st3=>Q ρ st3
noncomputable def iH:Tgs->List PV->Fr->AH->(Fr->AH->Prop)->Prop
 | .nil,vs,ρ,st,Q=>vs=[]/\Q ρ st
 | .cons t ts,vs,ρ,st,Q=>∃v r,vs=v::r/\dy t v ρ st fun ρ' st'=>iH ts r ρ' st' Q
end
end
mutual
inductive S where
 | set (t:Tg) (e:E)|par (i j:Nat) (a b:E)|aug (i:Nat) (op:Operator) (e:E)|expr (e:E)|ret (e:E)|retN
 | ifS (c:E) (a b:Ss)|whileS (c:E) (b:Ss)|forS (t:Tg) (it:It) (b:Ss)|pass|brk|cont|bad|set2 (i j:Nat) (e:E)|forK (t:Tg) (wk:DW) (e:E) (b:Ss)
inductive Ss where
 | nil|cons (s:S) (ss:Ss)
end
structure aO where
 nx:Fr->AH->Prop
 rt:EK
 bk:Fr->AH->Prop:=fun _ _=>False
 ct:Fr->AH->Prop:=fun _ _=>False
set_option genInjectivity true
set_option genCtorIdx true
noncomputable def rJ (chk:AH->Prop)(body:PV->Fr->AH->aO->Prop)(D:aO):List PV->Fr->AH->Prop
 | [],ρ,st=>chk st/\D.nx ρ st
 | x::xs,ρ,st=>chk st/\body x ρ st { nx:=rJ chk body D xs,ct:=rJ chk body D xs,bk:=D.nx,rt:=D.rt }
noncomputable def eX (c:Fr->AH->BK->Prop)(body:Fr->AH->aO->Prop)(D:aO):Nat->Fr->AH->Prop
 | 0,_,_=>False
 | n+1,ρ,st=>c ρ st fun k st1=>if k=true then body ρ st1 { nx:=eX c body D n,ct:=eX c body D n,bk:=D.nx,rt:=D.rt } else D.nx ρ st1
def qb (op:Operator)(x y:PV)(st:AH)(Q:EK):Prop :=
 match op,x,y with
 | .Add,.int i,.int j=>Q (.int (i+j)) st
 | .Sub,.int i,.int j=>Q (.int (i-j)) st
 | .Add,.ref n,.ref k=>∃xs ys,st[n]?=some (.lst xs)/\st[k]?=some (.lst ys)/\xs.length+ys.length<=100000/\Q (.ref n) (st.set n (.lst (xs++ys)))
 | _,_,_=>False
section
variable (Γ:Nat->FSp)
mutual
noncomputable def wpS:S->Fr->AH->aO->Prop
 | .set t e,ρ,st,D=>wpE Γ e ρ st fun v st1=>dy Γ t v ρ st1 D.nx
 | .par i j a b,ρ,st,D=>wpE Γ a ρ st fun x st1=>wpE Γ b ρ st1 fun y st2=>D.nx ((ρ.set i (some x)).set j (some y)) st2
 | .aug i op e,ρ,st,D=>∃x,ρ[i]?=some (some x)/\wpE Γ e ρ st fun y st1=>qb op x y st1 fun z st2=>D.nx (ρ.set i (some z)) st2
 | .expr e,ρ,st,D=>wpE Γ e ρ st fun _ st1=>D.nx ρ st1
 | .ret e,ρ,st,D=>wpE Γ e ρ st D.rt
 | .retN,_,st,D=>D.rt .non st
 | .ifS c a b,ρ,st,D=>wpT Γ c ρ st fun k st1=>if k=true then au a ρ st1 D else au b ρ st1 D
 | .whileS c b,ρ,st,D=>∃n,eX (wpT Γ c) (au b) D n ρ st
 | .forS t it b,ρ,st,D=>jJ Γ it ρ st fun xs chk st1=>rJ chk (fun x ρ' st' D'=>dy Γ t x ρ' st' fun ρ2 st2=>au b ρ2 st2 D') D xs ρ st1
 | .pass,ρ,st,D=>D.nx ρ st
 | .brk,ρ,st,D=>D.bk ρ st
 | .cont,ρ,st,D=>D.ct ρ st
 | .bad,_,_,_=>False
 | .forK _ _ _ _,_,_,_=>False
 | .set2 i j e,ρ,st,D=>wpE Γ e ρ st fun v st1=>D.nx ((ρ.set i (some v)).set j (some v)) st1
noncomputable def au:Ss->Fr->AH->aO->Prop
 | .nil,ρ,st,D=>D.nx ρ st
 | .cons s ss,ρ,st,D=>wpS s ρ st { D with nx:=fun ρ' st'=>au ss ρ' st' D }
end
end
section
variable {Γ:Nat->FSp}{ρ:Fr}{st:AH}{Q:EK}{D:aO}{a b c:E}{es:Es}
theorem Ju:au Γ .nil ρ st D=D.nx ρ st:=rfl
theorem JL {s:S}:au Γ (.cons s .nil) ρ st D=wpS Γ s ρ st D:=rfl
theorem Em {t:Tg}:wpS Γ (.set t a) ρ st D=wpE Γ a ρ st fun v st1=>dy Γ t v ρ st1 D.nx:=rfl
theorem KP {i j:Nat}:wpS Γ (.par i j a b) ρ st D=wpE Γ a ρ st fun x st1=>wpE Γ b ρ st1 fun y st2=>D.nx ((ρ.set i (some x)).set j (some y)) st2:=rfl
theorem Kn {i:Nat}{op:Operator}:wpS Γ (.aug i op a) ρ st D=∃x,ρ[i]?=some (some x)/\wpE Γ a ρ st fun y st1=>qb op x y st1 fun z st2=>D.nx (ρ.set i (some z)) st2:=rfl
theorem IY:wpS Γ (.expr a) ρ st D=wpE Γ a ρ st fun _ st1=>D.nx ρ st1:=rfl
theorem Kq:wpS Γ (.ret a) ρ st D=wpE Γ a ρ st fun v st1=>D.rt v st1:=rfl
theorem JX:wpS Γ .retN ρ st D=D.rt .non st:=rfl
theorem Jn {x y:Ss}:wpS Γ (.ifS c x y) ρ st D=wpT Γ c ρ st fun k st1=>if k=true then au Γ x ρ st1 D else au Γ y ρ st1 D:=rfl
theorem Js:wpS Γ .pass ρ st D=D.nx ρ st:=rfl
theorem JV {i j:Nat}:wpS Γ (.set2 i j a) ρ st D=wpE Γ a ρ st fun v st1=>D.nx ((ρ.set i (some v)).set j (some v)) st1:=rfl
theorem K2:wpS Γ .brk ρ st D=D.bk ρ st:=rfl
theorem JN:wpS Γ .cont ρ st D=D.ct ρ st:=rfl
theorem KC {i:Nat}:wpE Γ (.var i) ρ st Q=vP ρ[i]? fun v=>Q v st:=rfl
theorem Km {i:Int}:wpE Γ (.int i) ρ st Q=Q (.int i) st:=rfl
theorem Mt {i:Bool}:wpE Γ (.bl i) ρ st Q=Q (.bl i) st:=rfl
theorem Lm:wpE Γ .non ρ st Q=Q .non st:=rfl
theorem K4 {i:Str}:wpE Γ (.str i) ρ st Q=Q (.str i) st:=rfl
theorem L8 {x:Str}{v:PV}:wpE Γ (.gv x v) ρ st Q=Q v st:=rfl
theorem Ko:wpE Γ (.tup es) ρ st Q=cF Γ es ρ st fun vs st1=>vs.length<=100000/\Q (.tup vs) st1:=rfl
theorem Ld:wpE Γ (.lst es) ρ st Q=cF Γ es ρ st fun vs st1=>vs.length<=100000/\Q (.ref st1.length) (st1++[.lst vs]):=rfl
theorem K1 {op:Operator}:wpE Γ (.bin op a b) ρ st Q=wpE Γ a ρ st fun x st1=>wpE Γ b ρ st1 fun y st2=>jp op x y st2 Q:=rfl
theorem Li:wpE Γ (.neg a) ρ st Q=wpE Γ a ρ st fun x st1=>∃i,x=.int i/\Q (.int (-i)) st1:=rfl
theorem Lp:wpE Γ (.not a) ρ st Q=wpE Γ a ρ st fun x st1=>∃c,x=.bl c/\Q (.bl (!c)) st1:=rfl
theorem KD {op:CmpOp}:wpE Γ (.cmp op a b) ρ st Q=wpE Γ a ρ st fun x st1=>wpE Γ b ρ st1 fun y st2=>dU op x y st2 Q:=rfl
theorem KA:wpE Γ (.bop true es) ρ st Q=sy Γ es ρ st Q:=rfl
theorem Mv:wpE Γ (.bop false es) ρ st Q=rK Γ es ρ st Q:=rfl
theorem Lo:wpE Γ (.ite c a b) ρ st Q=wpT Γ c ρ st fun k st1=>if k=true then wpE Γ a ρ st1 Q else wpE Γ b ρ st1 Q:=rfl
theorem Lr:wpE Γ (.ix a b) ρ st Q=wpE Γ a ρ st fun x st1=>wpE Γ b ρ st1 fun y st2=>ixW x y st2 Q:=rfl
theorem LS {lo hi:O}:wpE Γ (.sl a lo hi) ρ st Q=wpE Γ a ρ st fun x st1=>wpO Γ lo ρ st1 fun l st2=>wpO Γ hi ρ st2 fun h st3=>slW x l h st3 Q:=rfl
theorem IZ {f:Nat}:wpE Γ (.call f es) ρ st Q=cF Γ es ρ st fun vs st1=>Γ f vs st1 Q:=rfl
theorem La {f:B}:wpE Γ (.blt f es) ρ st Q=cF Γ es ρ st fun vs st1=>e6 f vs st1 Q:=rfl
theorem IT {t:String}:wpE Γ (.inst a t) ρ st Q=wpE Γ a ρ st fun x st1=>∃n,bS st1 x=some n/\Q (.bl (cK t n)) st1:=rfl
theorem KZ {m:M}:wpE Γ (.met m a es) ρ st Q=wpE Γ a ρ st fun x st1=>(∃xs,bq st1 x=some xs)/\cF Γ es ρ st1 fun vs st2=>sx m x vs st2 Q:=rfl
theorem Jc:wpE Γ (.sset a) ρ st Q=wpE Γ a ρ st fun x st1=>∃n,x=.ref n/\∃ns:List Int,st1[n]?=some (.lst (ns.map PV.int))/\ns.length<60/\∀ns':List Int,ns'.Pairwise (·< ·)->(∀i,i∈ns'↔i∈ns)->ns'.length<=ns.length->Q (.ref st1.length) (st1++[.lst (ns'.map PV.int)]):=rfl
theorem K':wpE Γ (.tmp a) ρ st Q=wpE Γ a ρ st fun v st1=>Tmp st Q v st1:=rfl
variable {LQ:LK}{BQ:BK}{e e2:E}{i:Nat}{v:PV}{FQ:Fr->AH->Prop}{IQ:List PV->(AH->Prop)->AH->Prop}
theorem JH:cF Γ .nil ρ st LQ=LQ [] st:=rfl
theorem Iq:cF Γ (.cons e es) ρ st LQ=wpE Γ e ρ st fun x st1=>cF Γ es ρ st1 fun xs st2=>LQ (x::xs) st2:=rfl
theorem LH {OQ:Option Int->AH->Prop}:wpO Γ .no ρ st OQ=OQ none st:=rfl
theorem K3 {OQ:Option Int->AH->Prop}:wpO Γ (.yes e) ρ st OQ=wpE Γ e ρ st fun x st1=>∃i,x=.int i/\OQ (some i) st1:=rfl
theorem Kl:wpT Γ (.bop true es) ρ st BQ=ib Γ es ρ st BQ:=rfl
theorem L9:wpT Γ (.bop false es) ρ st BQ=sT Γ es ρ st BQ:=rfl
theorem Ky:wpT Γ (.not a) ρ st BQ=wpT Γ a ρ st fun c st1=>BQ (!c) st1:=rfl
theorem Ll {op:CmpOp}:wpT Γ (.cmp op a b) ρ st BQ=wpE Γ a ρ st fun x st1=>wpE Γ b ρ st1 fun y st2=>dU op x y st2 fun v st3=>∃c,v=.bl c/\BQ c st3:=rfl
theorem KQ:wpT Γ (.var i) ρ st BQ=vP ρ[i]? fun v=>fE v st BQ:=rfl
theorem IL {f:Nat}:wpT Γ (.call f es) ρ st BQ=cF Γ es ρ st fun vs st1=>Γ f vs st1 fun v st2=>fE v st2 BQ:=rfl
theorem Kv {f:B}:wpT Γ (.blt f es) ρ st BQ=cF Γ es ρ st fun vs st1=>e6 f vs st1 fun v st2=>fE v st2 BQ:=rfl
theorem JM {t:String}:wpT Γ (.inst a t) ρ st BQ=wpE Γ a ρ st fun x st1=>∃n,bS st1 x=some n/\BQ (cK t n) st1:=rfl
theorem KF:wpT Γ (.tmp a) ρ st BQ=wpE Γ a ρ st fun v st1=>Tmp st (fun v st1=>fE v st1 BQ) v st1:=rfl
theorem L0:wpT Γ (.ix a b) ρ st BQ=wpE Γ a ρ st fun x st1=>wpE Γ b ρ st1 fun y st2=>ixW x y st2 fun v st3=>fE v st3 BQ:=rfl
theorem Jq:sy Γ (.cons e .nil) ρ st Q=wpE Γ e ρ st Q:=rfl
theorem Iw:sy Γ (.cons e (.cons e2 es)) ρ st Q=wpE Γ e ρ st fun x st1=>∃c,x=.bl c/\if c=true then sy Γ (.cons e2 es) ρ st1 Q else Q (.bl false) st1:=rfl
theorem Ji:rK Γ (.cons e .nil) ρ st Q=wpE Γ e ρ st Q:=rfl
theorem IF:rK Γ (.cons e (.cons e2 es)) ρ st Q=wpE Γ e ρ st fun x st1=>∃c,x=.bl c/\if c=true then Q (.bl true) st1 else rK Γ (.cons e2 es) ρ st1 Q:=rfl
theorem Fa:ib Γ .nil ρ st BQ=BQ true st:=rfl
theorem IJ:ib Γ (.cons e .nil) ρ st BQ=wpT Γ e ρ st BQ:=rfl
theorem IB:ib Γ (.cons e (.cons e2 es)) ρ st BQ=wpT Γ e ρ st fun c st1=>if c=true then ib Γ (.cons e2 es) ρ st1 BQ else BQ false st1:=rfl
theorem Jt:sT Γ (.cons e .nil) ρ st BQ=wpT Γ e ρ st BQ:=rfl
theorem IA:sT Γ (.cons e (.cons e2 es)) ρ st BQ=wpT Γ e ρ st fun c st1=>if c=true then BQ true st1 else sT Γ (.cons e2 es) ρ st1 BQ:=rfl
theorem JG:jJ Γ (.seq e) ρ st IQ=wpE Γ e ρ st fun x st1=>∃xs,aW st1 x=some xs/\IQ xs (bv st1 x) st1:=rfl
theorem KR:jJ Γ (.range1 a) ρ st IQ=wpE Γ a ρ st fun x st1=>∃j,x=.int j/\-(2 ^ 62)<=j/\j<2 ^ 62/\IQ (eK 0 j.toNat) (fun _=>True) st1:=rfl
theorem Jf:jJ Γ (.zip a b) ρ st IQ=wpE Γ a ρ st fun x st1=>wpE Γ b ρ st1 fun y st2=>∃xs ys,aW st2 x=some xs/\aW st2 y=some ys/\IQ (jo xs ys) (fun st'=>bv st2 x st'/\bv st2 y st') st2:=rfl
theorem ID:jJ Γ (.zip3 a b c) ρ st IQ=wpE Γ a ρ st fun x st1=>wpE Γ b ρ st1 fun y st2=>wpE Γ c ρ st2 fun u st3=>∃xs ys zs,aW st3 x=some xs/\aW st3 y=some ys/\aW st3 u=some zs/\IQ (dL xs ys zs) (fun st'=>bv st3 x st'/\bv st3 y st'/\bv st3 u st') st3:=rfl
theorem Ir:jJ Γ (.enum a) ρ st IQ=wpE Γ a ρ st fun x st1=>∃xs,x=.tup xs/\IQ (iL 0 xs) (fun _=>True) st1:=rfl
theorem nL:dy Γ (.name i) v ρ st FQ=FQ (ρ.set i (some v)) st:=rfl
theorem vC {ts:Tgs}:dy Γ (.tup ts) v ρ st FQ=∃xs,v=.tup xs/\xs.length=ts.size/\iH Γ ts xs ρ st FQ:=rfl
theorem vD:dy Γ (.sub a b) v ρ st FQ=wpE Γ a ρ st fun x st1=>wpE Γ b ρ st1 fun y st2=>uK x y v st2 fun st3=>FQ ρ st3:=rfl
theorem IC {vs:List PV}:iH Γ .nil vs ρ st FQ=(vs=[]/\FQ ρ st):=rfl
theorem Hk {t:Tg}{ts:Tgs}{vs:List PV}:iH Γ (.cons t ts) vs ρ st FQ=∃v r,vs=v::r/\dy Γ t v ρ st fun ρ' st'=>iH Γ ts r ρ' st' FQ:=rfl
theorem gy:Tgs.size .nil=0:=id rfl
theorem dN {t:Tg}{ts:Tgs}:Tgs.size (.cons t ts)=ts.size+1:=id rfl
end
end FW
namespace FW
open PySem L2 HX
theorem ug {st:AH}{x y:PV}{k k':Bool->Prop}(h:∀b,k b->k' b)(q:eqW st x y k):eqW st x y k':=by
 unfold eqW at q |-
 split at q
 ·exact h _ q
 ·exact h _ q
 ·exact h _ q
 ·obtain⟨d,e,h1,h2,h3,h4,q⟩:=q
  exact⟨d,e,h1,h2,h3,h4,h _ q⟩
theorem qF {op:Operator}{x y:PV}{st:AH}{Q Q':EK}(h:∀v st,Q v st->Q' v st)(q:jp op x y st Q):jp op x y st Q':=by
 cases op with
 | Add =>
  cases x with
  | int i =>
   cases y with
   | int j=>exact h _ _ q
   | _=>exact False.elim q
  | ref n =>
   cases y with
   | ref k=>obtain⟨xs,ys,h1,h2,h3,q⟩:=q;exact⟨xs,ys,h1,h2,h3,h _ _ q⟩
   | _=>exact False.elim q
  | tup xs =>
   cases y with
   | tup ys=>exact⟨q.1,h _ _ q.2⟩
   | _=>exact False.elim q
  | str a =>
   cases y with
   | str b=>exact⟨q.1,h _ _ q.2⟩
   | _=>exact False.elim q
  | _=>exact False.elim q
 | Mult =>
  cases x with
  | int i =>
   cases y with
   | int j=>exact⟨q.1,h _ _ q.2⟩
   | _=>exact False.elim q
  | ref n =>
   cases y with
   | int k=>obtain⟨xs,h1,h2,h3,h4,q⟩:=q;exact⟨xs,h1,h2,h3,h4,h _ _ q⟩
   | _=>exact False.elim q
  | _=>exact False.elim q
 | Sub=>obtain⟨i,j,rfl,rfl,q⟩:=bL q;exact h _ _ q
 | FloorDiv=>obtain⟨i,j,rfl,rfl,q⟩:=bL q;exact⟨q.1,h _ _ q.2⟩
 | Mod=>obtain⟨i,j,rfl,rfl,q⟩:=bL q;exact⟨q.1,h _ _ q.2⟩
 | Pow=>obtain⟨i,j,rfl,rfl,q⟩:=bL q;exact⟨q.1,h _ _ q.2⟩
 | _=>exact False.elim q
theorem uo {a:Str}{n:Nat}{st:AH}{k k':Bool->Prop}(h:∀b,k b->k' b)(q:inR a n st k):inR a n st k':=q
theorem iR {op:CmpOp}{x y:PV}{st:AH}{Q Q':EK}(h:∀v st,Q v st->Q' v st)(q:dU op x y st Q):dU op x y st Q':=by
 unfold dU at q |-
 split at q
 ·exact ug (fun _=>h _ _) q
 ·exact ug (fun _=>h _ _) q
 ·split at q <;> first|exact h _ _ q|exact q
 ·split at q <;> first|exact h _ _ q|exact q
 ·split at q <;> first|exact h _ _ q|exact q
 ·split at q <;> first|exact h _ _ q|exact q
 ·split at q <;> first|exact h _ _ q|exact q
 ·split at q <;> first|exact h _ _ q|exact q
 ·split at q <;> first|exact h _ _ q|(obtain⟨ns,e,q⟩:=q;exact⟨ns,e,h _ _ q⟩)|exact uo (fun _=>h _ _) q|exact q
 ·split at q <;> first|(obtain⟨ns,e,q⟩:=q;exact⟨ns,e,h _ _ q⟩)|exact uo (fun _=>h _ _) q|exact q
theorem kA {x y:PV}{st:AH}{Q Q':EK}(h:∀v st,Q v st->Q' v st)(q:ixW x y st Q):ixW x y st Q':=by
 cases y with
 | int i =>
  rcases xM q with⟨z,c,rfl,h1,h2,q⟩|⟨xs,v,h1,h2,q⟩
  ·exact⟨h1,c,h2,h _ _ q⟩
  ·exact Dr h1 h2 (h _ _ q)
 | str z=>exact False.elim q
 | _=>exact q
theorem vb {x:PV}{lo hi:Option Int}{st:AH}{Q Q':EK}(h:∀v st,Q v st->Q' v st)(q:slW x lo hi st Q):slW x lo hi st Q':=by
 cases x with
 | tup xs=>exact h _ _ q
 | str z=>exact⟨q.1,h _ _ q.2⟩
 | _=>obtain⟨xs,e,q⟩:=q;exact⟨xs,e,h _ _ q⟩
theorem iW {b:B}{vs:List PV}{st:AH}{Q Q':EK}(h:∀v st,Q v st->Q' v st)(q:e6 b vs st Q):e6 b vs st Q':=by
 cases b with
 | len =>
  obtain⟨x,rfl,q⟩:=ba q
  rcases va q with⟨z,rfl,h1,q⟩|⟨xs,e,q⟩
  ·exact⟨h1,h _ _ q⟩
  ·exact AT e (h _ _ q)
 | max2=>obtain⟨x,y,rfl,q⟩:=dB q;obtain⟨i,j,rfl,rfl,q⟩:=bL q;exact h _ _ q
 | min2=>obtain⟨x,y,rfl,q⟩:=dB q;obtain⟨i,j,rfl,rfl,q⟩:=bL q;exact h _ _ q
 | divmod=>obtain⟨x,y,rfl,q⟩:=dB q;obtain⟨i,j,rfl,rfl,q⟩:=bL q;exact⟨q.1,h _ _ q.2⟩
 | int1=>exact False.elim q
 | str1=>exact False.elim q
 | tuple1=>obtain⟨x,rfl,xs,h1,q⟩:=ba q;exact⟨xs,h1,h _ _ q⟩
 | list1=>exact False.elim q
 | all1=>obtain⟨x,rfl,xs,bs,h1,h2,q⟩:=ba q;exact⟨xs,bs,h1,h2,h _ _ q⟩
 | any1=>exact False.elim q
 | abs1=>obtain⟨x,rfl,q⟩:=ba q;obtain⟨i,rfl,q⟩:=nN q;exact h _ _ q
 | sortS=>exact False.elim q
 | sortD=>exact False.elim q
 | max1=>obtain⟨x,rfl,xs,h1,h2,q⟩:=ba q;exact⟨xs,h1,h2,fun z p s=>h _ _ (q z p s)⟩
 | sorted1=>exact False.elim q
 | repr1=>exact False.elim q
theorem jh {m:M}{x:PV}{vs:List PV}{st:AH}{Q Q':EK}(h:∀v st,Q v st->Q' v st)(q:sx m x vs st Q):sx m x vs st Q':=by
 cases m with
 | append=>obtain⟨n,rfl,q⟩:=ff q;obtain⟨v,rfl,xs,h1,h2,q⟩:=ba q;exact⟨xs,h1,h2,h _ _ q⟩
 | pop0=>exact False.elim q
 | extend=>obtain⟨n,rfl,q⟩:=ff q;obtain⟨v,rfl,q⟩:=ba q;obtain⟨k,rfl,xs,ys,h1,h2,h3,q⟩:=ff q;exact⟨xs,ys,h1,h2,h3,h _ _ q⟩
 | insert=>obtain⟨n,rfl,q⟩:=ff q;obtain⟨i,v,rfl,q⟩:=dB q;obtain⟨k,rfl,xs,h1,h2,h3,h4,q⟩:=nN q;exact⟨xs,h1,h2,h3,h4,h _ _ q⟩
 | count=>exact False.elim q
 | index=>exact False.elim q
theorem bJ {x:PV}{st:AH}{Q Q':BK}(h:∀v st,Q v st->Q' v st)(q:fE x st Q):fE x st Q':=by
 unfold fE at q |-
 split at q <;> first
  | exact h _ _ q
  | exact q.elim
  | (obtain⟨xs,h1,q⟩:=q;exact⟨xs,h1,h _ _ q⟩)
theorem q5 {o i v:PV}{st:AH}{k k':AH->Prop}(h:∀st,k st->k' st)(q:uK o i v st k):uK o i v st k':=by
 unfold uK at q |-
 split at q
 ·obtain⟨xs,h1,j,h2,q⟩:=q
  exact⟨xs,h1,j,h2,h _ q⟩
 ·exact q
theorem uR {st0:AH}{Q Q':EK}(h:∀v st,Q v st->Q' v st){v:PV}{st:AH}(q:Tmp st0 Q v st):Tmp st0 Q' v st:=by
 obtain⟨st1,g,h1,h2,h3,h4,q⟩:=q
 exact⟨st1,g,h1,h2,h3,h4,h _ _ q⟩
theorem gX {chk:AH->Prop}{body body':PV->AH->(Option PV->AH->Prop)->Prop}(hb:∀x st k k',(∀o st,k o st->k' o st)->body x st k->body' x st k') :
  ∀ {xs acc:List PV}{st:AH}{Q Q':LK},(∀v st,Q v st->Q' v st)->eI chk body xs acc st Q->eI chk body' xs acc st Q'
 | [],acc,st,Q,Q',h,q=>⟨q.1,h _ _ q.2⟩
 | x::xs,acc,st,Q,Q',h,q=>⟨q.1,hb _ _ _ _ (fun o st' z=>gX hb h z) q.2⟩
section
variable {Γ:Nat->FSp}
def bu (Γ:Nat->FSp):Prop:=∀f vs st Q Q',(∀v st,Q v st->Q' v st)->Γ f vs st Q->Γ f vs st Q'
mutual
theorem aa (G:bu Γ):∀(e:E) {ρ:Fr}{st:AH}{Q Q':EK},(∀v st,Q v st->Q' v st)->wpE Γ e ρ st Q->wpE Γ e ρ st Q'
 | .var i,ρ,st,Q,Q',h,q=>by
  obtain⟨v,e,z⟩:=kg q
  exact rE e (h _ _ z)
 | .int i,ρ,st,Q,Q',h,q=>by exact h _ _ q
 | .bl i,ρ,st,Q,Q',h,q=>by exact h _ _ q
 | .non,ρ,st,Q,Q',h,q=>by exact h _ _ q
 | .str i,ρ,st,Q,Q',h,q=>by exact h _ _ q
 | .gv _ i,ρ,st,Q,Q',h,q=>by exact h _ _ q
 | .tup es,ρ,st,Q,Q',h,q=>by exact aF G es (fun vs st1 z=>⟨z.1,h _ _ z.2⟩) q
 | .lst es,ρ,st,Q,Q',h,q=>by exact aF G es (fun vs st1 z=>⟨z.1,h _ _ z.2⟩) q
 | .dct0,ρ,st,Q,Q',h,q=>False.elim q
 | .bad,ρ,st,Q,Q',h,q=>False.elim q
 | .jrev _,ρ,st,Q,Q',h,q=>False.elim q
 | .dget _ _,ρ,st,Q,Q',h,q=>False.elim q
 | .dcp _,ρ,st,Q,Q',h,q=>False.elim q
 | .clr _,ρ,st,Q,Q',h,q=>False.elim q
 | .sset a,ρ,st,Q,Q',h,q=>by
  refine aa G a (fun x st1 z=>?_) q
  obtain⟨n,e,ns,h1,h2,z⟩:=z
  exact⟨n,e,ns,h1,h2,fun ns' p1 p2 p3=>h _ _ (z ns' p1 p2 p3)⟩
 | .part _ _,ρ,st,Q,Q',h,q=>False.elim q
 | .pcall _ _,ρ,st,Q,Q',h,q=>False.elim q
 | .hm _ _ _,ρ,st,Q,Q',h,q=>False.elim q
 | .dct1 _ _,ρ,st,Q,Q',h,q=>False.elim q
 | .bin op a b,ρ,st,Q,Q',h,q=>by exact aa G a (fun x st1 z=>aa G b (fun y st2 z=>qF h z) z) q
 | .neg a,ρ,st,Q,Q',h,q=>by
  skip
  refine aa G a (fun x st1 z=>?_) q
  obtain⟨i,e,z⟩:=z
  exact⟨i,e,h _ _ z⟩
 | .not a,ρ,st,Q,Q',h,q=>by
  skip
  refine aa G a (fun x st1 z=>?_) q
  obtain⟨i,e,z⟩:=z
  exact⟨i,e,h _ _ z⟩
 | .cmp op a b,ρ,st,Q,Q',h,q=>by exact aa G a (fun x st1 z=>aa G b (fun y st2 z=>iR h z) z) q
 | .bop true es,ρ,st,Q,Q',h,q=>by exact my G es h q
 | .bop false es,ρ,st,Q,Q',h,q=>by exact lG G es h q
 | .ite c a b,ρ,st,Q,Q',h,q=>by
  skip
  refine aJ G c (fun k st1 z=>?_) q
  cases k with
  | true=>rw[ML rfl] at z |-;exact aa G a h z
  | false=>rw[MJ MF] at z |-;exact aa G b h z
 | .ix a b,ρ,st,Q,Q',h,q=>by exact aa G a (fun x st1 z=>aa G b (fun y st2 z=>kA h z) z) q
 | .sl a lo hi,ρ,st,Q,Q',h,q=>by exact aa G a (fun x st1 z=>kq G lo (fun l st2 z=>kq G hi (fun u st3 z=>vb h z) z) z) q
 | .call f es,ρ,st,Q,Q',h,q=>by exact aF G es (fun vs st1 z=>G _ _ _ _ _ h z) q
 | .blt b es,ρ,st,Q,Q',h,q=>by exact aF G es (fun vs st1 z=>iW h z) q
 | .inst a t,ρ,st,Q,Q',h,q=>by
  skip
  refine aa G a (fun x st1 z=>?_) q
  obtain⟨i,e,z⟩:=z
  exact⟨i,e,h _ _ z⟩
 | .met m o es,ρ,st,Q,Q',h,q=>by exact aa G o (fun x st1 z=>⟨z.1,aF G es (fun vs st2 z=>jh h z) z.2⟩) q
 | .comp elt tg it ifs nt caps,ρ,st,Q,Q',h,q=>by
  skip
  exact gc G it (fun xs chk st1 z=>⟨z.1,gX (fun x st k k' hk w=>aY G tg (fun ρ' st3 w=>bX G ifs (fun c st4 w=>by
   cases c with
   | true=>rw[ML rfl] at w |-;exact aa G elt (fun v st5 w=>hk _ _ w) w
   | false=>rw[MJ MF] at w |-;exact hk _ _ w) w) w) (fun vs st2 w=>h _ _ w) z.2⟩) q
 | .tmp a,ρ,st,Q,Q',h,q=>by exact aa G a (fun v st1 z=>uR h z) q
 | .compK _ _ _ _ _ _ _,ρ,st,Q,Q',h,q=>False.elim q
 | .compD _ _ _ _ _ _ _ _,ρ,st,Q,Q',h,q=>False.elim q
 | .dct2 _ _,ρ,st,Q,Q',h,q=>False.elim q
 | .dcl _,ρ,st,Q,Q',h,q=>False.elim q
 | .eqd _ _ _,ρ,st,Q,Q',h,q=>False.elim q
theorem aF (G:bu Γ):∀(e:Es) {ρ:Fr}{st:AH}{Q Q':LK},(∀v st,Q v st->Q' v st)->cF Γ e ρ st Q->cF Γ e ρ st Q'
 | .nil,ρ,st,Q,Q',h,q=>by exact h _ _ q
 | .cons e es,ρ,st,Q,Q',h,q=>by exact aa G e (fun x st1 z=>aF G es (fun xs st2 z=>h _ _ z) z) q
theorem kq (G:bu Γ):∀(e:O) {ρ:Fr}{st:AH}{Q Q':Option Int->AH->Prop},(∀v st,Q v st->Q' v st)->wpO Γ e ρ st Q->wpO Γ e ρ st Q'
 | .no,ρ,st,Q,Q',h,q=>by exact h _ _ q
 | .yes e,ρ,st,Q,Q',h,q=>by
  skip
  refine aa G e (fun x st1 z=>?_) q
  obtain⟨i,e,z⟩:=z
  exact⟨i,e,h _ _ z⟩
theorem aJ (G:bu Γ):∀(e:E) {ρ:Fr}{st:AH}{Q Q':BK},(∀v st,Q v st->Q' v st)->wpT Γ e ρ st Q->wpT Γ e ρ st Q'
 | .bop true es,ρ,st,Q,Q',h,q=>by exact bX G es h q
 | .bop false es,ρ,st,Q,Q',h,q=>by exact lV G es h q
 | .not a,ρ,st,Q,Q',h,q=>by exact aJ G a (fun c st1 z=>h _ _ z) q
 | .cmp op a b,ρ,st,Q,Q',h,q=>by
  skip
  exact aa G a (fun x st1 z=>aa G b (fun y st2 z=>iR (fun v st3 w=>by obtain⟨c,e,w⟩:=w;exact⟨c,e,h _ _ w⟩) z) z) q
 | .var i,ρ,st,Q,Q',h,q=>by
  obtain⟨v,e,z⟩:=kg q
  exact rE e (bJ h z)
 | .call f es,ρ,st,Q,Q',h,q=>by exact aF G es (fun vs st1 z=>G _ _ _ _ _ (fun v st2 z=>bJ h z) z) q
 | .blt b es,ρ,st,Q,Q',h,q=>by exact aF G es (fun vs st1 z=>iW (fun v st2 z=>bJ h z) z) q
 | .inst a t,ρ,st,Q,Q',h,q=>by
  skip
  refine aa G a (fun x st1 z=>?_) q
  obtain⟨i,e,z⟩:=z
  exact⟨i,e,h _ _ z⟩
 | .tmp a,ρ,st,Q,Q',h,q=>by exact aa G a (fun v st1 z=>uR (fun v st2 z=>bJ h z) z) q
 | .ix a b,ρ,st,Q,Q',h,q=>by exact aa G a (fun x st1 z=>aa G b (fun y st2 z=>kA (fun v st3 z=>bJ h z) z) z) q
 | .pcall _ _,ρ,st,Q,Q',h,q=>False.elim q
 | .eqd _ _ _,ρ,st,Q,Q',h,q=>False.elim q
 | .compK _ _ _ _ _ _ _,ρ,st,Q,Q',h,q=>False.elim q
 | .compD _ _ _ _ _ _ _ _,ρ,st,Q,Q',h,q=>False.elim q
 | .dcl _,ρ,st,Q,Q',h,q=>False.elim q
 | .dct2 _ _,ρ,st,Q,Q',h,q=>False.elim q
 | .hm _ _ _,ρ,st,Q,Q',h,q=>False.elim q
 | .int _,ρ,st,Q,Q',h,q=>False.elim q
 | .bl _,ρ,st,Q,Q',h,q=>False.elim q
 | .non,ρ,st,Q,Q',h,q=>False.elim q
 | .str _,ρ,st,Q,Q',h,q=>False.elim q
 | .gv _ _,ρ,st,Q,Q',h,q=>False.elim q
 | .tup _,ρ,st,Q,Q',h,q=>False.elim q
 | .lst _,ρ,st,Q,Q',h,q=>False.elim q
 | .dct0,ρ,st,Q,Q',h,q=>False.elim q
 | .bad,ρ,st,Q,Q',h,q=>False.elim q
 | .jrev _,ρ,st,Q,Q',h,q=>False.elim q
 | .dcp _,ρ,st,Q,Q',h,q=>False.elim q
 | .dget _ _,ρ,st,Q,Q',h,q=>False.elim q
 | .clr _,ρ,st,Q,Q',h,q=>False.elim q
 | .sset _,ρ,st,Q,Q',h,q=>False.elim q
 | .part _ _,ρ,st,Q,Q',h,q=>False.elim q
 | .dct1 _ _,ρ,st,Q,Q',h,q=>False.elim q
 | .bin _ _ _,ρ,st,Q,Q',h,q=>False.elim q
 | .neg _,ρ,st,Q,Q',h,q=>False.elim q
 | .ite _ _ _,ρ,st,Q,Q',h,q=>False.elim q
 | .sl _ _ _,ρ,st,Q,Q',h,q=>False.elim q
 | .met _ _ _,ρ,st,Q,Q',h,q=>False.elim q
 | .comp _ _ _ _ _ _,ρ,st,Q,Q',h,q=>False.elim q
theorem my (G:bu Γ):∀(e:Es) {ρ:Fr}{st:AH}{Q Q':EK},(∀v st,Q v st->Q' v st)->sy Γ e ρ st Q->sy Γ e ρ st Q'
 | .nil,ρ,st,Q,Q',h,q=>False.elim q
 | .cons e .nil,ρ,st,Q,Q',h,q=>by exact aa G e h q
 | .cons e (.cons e2 es),ρ,st,Q,Q',h,q=>by
  skip
  refine aa G e (fun x st1 z=>?_) q
  obtain⟨c,e,z⟩:=z
  refine⟨c,e,?_⟩
  cases c with
  | true=>rw[ML rfl] at z |-;exact my G (.cons e2 es) h z
  | false=>rw[MJ MF] at z |-;exact h _ _ z
theorem lG (G:bu Γ):∀(e:Es) {ρ:Fr}{st:AH}{Q Q':EK},(∀v st,Q v st->Q' v st)->rK Γ e ρ st Q->rK Γ e ρ st Q'
 | .nil,ρ,st,Q,Q',h,q=>False.elim q
 | .cons e .nil,ρ,st,Q,Q',h,q=>by exact aa G e h q
 | .cons e (.cons e2 es),ρ,st,Q,Q',h,q=>by
  skip
  refine aa G e (fun x st1 z=>?_) q
  obtain⟨c,e,z⟩:=z
  refine⟨c,e,?_⟩
  cases c with
  | true=>rw[ML rfl] at z |-;exact h _ _ z
  | false=>rw[MJ MF] at z |-;exact lG G (.cons e2 es) h z
theorem bX (G:bu Γ):∀(e:Es) {ρ:Fr}{st:AH}{Q Q':BK},(∀v st,Q v st->Q' v st)->ib Γ e ρ st Q->ib Γ e ρ st Q'
 | .nil,ρ,st,Q,Q',h,q=>by exact h _ _ q
 | .cons e .nil,ρ,st,Q,Q',h,q=>by exact aJ G e h q
 | .cons e (.cons e2 es),ρ,st,Q,Q',h,q=>by
  skip
  refine aJ G e (fun c st1 z=>?_) q
  cases c with
  | true=>rw[ML rfl] at z |-;exact bX G (.cons e2 es) h z
  | false=>rw[MJ MF] at z |-;exact h _ _ z
theorem lV (G:bu Γ):∀(e:Es) {ρ:Fr}{st:AH}{Q Q':BK},(∀v st,Q v st->Q' v st)->sT Γ e ρ st Q->sT Γ e ρ st Q'
 | .nil,ρ,st,Q,Q',h,q=>by exact h _ _ q
 | .cons e .nil,ρ,st,Q,Q',h,q=>by exact aJ G e h q
 | .cons e (.cons e2 es),ρ,st,Q,Q',h,q=>by
  skip
  refine aJ G e (fun c st1 z=>?_) q
  cases c with
  | true=>rw[ML rfl] at z |-;exact h _ _ z
  | false=>rw[MJ MF] at z |-;exact lV G (.cons e2 es) h z
theorem gc (G:bu Γ):∀(e:It) {ρ:Fr}{st:AH}{Q Q':List PV->(AH->Prop)->AH->Prop},(∀v c st,Q v c st->Q' v c st)->jJ Γ e ρ st Q->jJ Γ e ρ st Q'
 | .seq a,ρ,st,Q,Q',h,q=>by
  skip
  refine aa G a (fun x st1 z=>?_) q
  obtain⟨c,e,z⟩:=z
  exact⟨c,e,h _ _ _ z⟩
 | .range1 a,ρ,st,Q,Q',h,q=>by
  skip
  refine aa G a (fun x st1 z=>?_) q
  obtain⟨c,e,h1,h2,z⟩:=z
  exact⟨c,e,h1,h2,h _ _ _ z⟩
 | .range2 _ _,ρ,st,Q,Q',h,q=>False.elim q
 | .zip a b,ρ,st,Q,Q',h,q=>by
  skip
  refine aa G a (fun x st1 z=>aa G b (fun y st2 z=>?_) z) q
  obtain⟨i,j,e,e2,z⟩:=z
  exact⟨i,j,e,e2,h _ _ _ z⟩
 | .enum a,ρ,st,Q,Q',h,q=>by
  skip
  refine aa G a (fun x st1 z=>?_) q
  obtain⟨c,e,z⟩:=z
  exact⟨c,e,h _ _ _ z⟩
 | .chars _,ρ,st,Q,Q',h,q=>False.elim q
 | .zip3 a b c,ρ,st,Q,Q',h,q=>by
  refine aa G a (fun x st1 z=>aa G b (fun y st2 z=>aa G c (fun u st3 z=>?_) z) z) q
  obtain⟨i,j,k,e,e2,e3,z⟩:=z
  exact⟨i,j,k,e,e2,e3,h _ _ _ z⟩
 | .range3 _ _ _,ρ,st,Q,Q',h,q=>False.elim q
theorem aY (G:bu Γ):∀(t:Tg) {v:PV}{ρ:Fr}{st:AH}{Q Q':Fr->AH->Prop},(∀ρ st,Q ρ st->Q' ρ st)->dy Γ t v ρ st Q->dy Γ t v ρ st Q'
 | .name i,v,ρ,st,Q,Q',h,q=>by exact h _ _ q
 | .tup ts,v,ρ,st,Q,Q',h,q=>by
  skip
  obtain⟨xs,e,hl,q⟩:=q
  exact⟨xs,e,hl,gP G ts h q⟩
 | .ltup ts,v,ρ,st,Q,Q',h,q=>False.elim q
 | .sub o i,v,ρ,st,Q,Q',h,q=>by exact aa G o (fun x st1 z=>aa G i (fun y st2 z=>q5 (fun st3 z=>h _ _ z) z) z) q
theorem gP (G:bu Γ):∀(t:Tgs) {v:List PV}{ρ:Fr}{st:AH}{Q Q':Fr->AH->Prop},(∀ρ st,Q ρ st->Q' ρ st)->iH Γ t v ρ st Q->iH Γ t v ρ st Q'
 | .nil,v,ρ,st,Q,Q',h,q=>by exact⟨q.1,h _ _ q.2⟩
 | .cons t ts,v,ρ,st,Q,Q',h,q=>by
  skip
  obtain⟨x,r,e,q⟩:=q
  exact⟨x,r,e,aY G t (fun ρ' st' z=>gP G ts h z) q⟩
end
structure k9 (D D':aO):Prop where
 nx:∀ρ st,D.nx ρ st->D'.nx ρ st
 rt:∀v st,D.rt v st->D'.rt v st
 bk:∀ρ st,D.bk ρ st->D'.bk ρ st
 ct:∀ρ st,D.ct ρ st->D'.ct ρ st
theorem lQ {chk:AH->Prop}{body body':PV->Fr->AH->aO->Prop}{D D':aO}(hD:k9 D D')(hb:∀x ρ st D D',k9 D D'->body x ρ st D->body' x ρ st D') :
  ∀ {xs:List PV}{ρ:Fr}{st:AH},rJ chk body D xs ρ st->rJ chk body' D' xs ρ st
 | [],ρ,st,q=>⟨q.1,hD.nx _ _ q.2⟩
 | x::xs,ρ,st,q=>by
  refine⟨q.1,hb _ _ _ _ _ ?_ q.2⟩
  exact⟨fun _ _ z=>lQ hD hb z,hD.rt,hD.nx,fun _ _ z=>lQ hD hb z⟩
theorem iP {c:Fr->AH->BK->Prop}{body:Fr->AH->aO->Prop}{D D':aO}(hD:k9 D D')(hc:∀ρ st Q Q',(∀b st,Q b st->Q' b st)->c ρ st Q->c ρ st Q')
  (hb:∀ρ st D D',k9 D D'->body ρ st D->body ρ st D'):∀ {n:Nat}{ρ:Fr}{st:AH},eX c body D n ρ st->eX c body D' n ρ st
 | 0,ρ,st,q=>q
 | n+1,ρ,st,q=>hc _ _ _ _ (fun b st1 z=>by
  cases b with
  | true =>
   rw[ML rfl] at z |-
   refine hb _ _ _ _ ?_ z
   exact⟨fun _ _ z=>iP hD hc hb z,hD.rt,hD.nx,fun _ _ z=>iP hD hc hb z⟩
  | false=>rw[MJ MF] at z |-;exact hD.nx _ _ z) q
theorem qZ {op:Operator}{x y:PV}{st:AH}{Q Q':EK}(h:∀v st,Q v st->Q' v st)(q:qb op x y st Q):qb op x y st Q':=by
 unfold qb at q |-
 split at q
 ·exact h _ _ q
 ·exact h _ _ q
 ·obtain⟨xs,ys,h1,h2,h3,q⟩:=q
  exact⟨xs,ys,h1,h2,h3,h _ _ q⟩
 ·exact q
mutual
theorem gh (G:bu Γ):∀(s:S) {ρ:Fr}{st:AH}{D D':aO},k9 D D'->wpS Γ s ρ st D->wpS Γ s ρ st D'
 | .set t e,ρ,st,D,D',h,q=>by exact aa G e (fun v st1 z=>aY G t h.nx z) q
 | .par i j a b,ρ,st,D,D',h,q=>by exact aa G a (fun v st1 z=>aa G b (fun w st2 z=>h.nx _ _ z) z) q
 | .aug i op e,ρ,st,D,D',h,q=>by
  skip
  obtain⟨x,h1,q⟩:=q
  exact⟨x,h1,aa G e (fun v st1 z=>qZ (fun _ _ z=>h.nx _ _ z) z) q⟩
 | .expr e,ρ,st,D,D',h,q=>by exact aa G e (fun v st1 z=>h.nx _ _ z) q
 | .ret e,ρ,st,D,D',h,q=>by exact aa G e h.rt q
 | .retN,ρ,st,D,D',h,q=>by exact h.rt _ _ q
 | .ifS c a b,ρ,st,D,D',h,q=>by
  skip
  refine aJ G c (fun k st1 z=>?_) q
  cases k with
  | true=>rw[ML rfl] at z |-;exact aU G a h z
  | false=>rw[MJ MF] at z |-;exact aU G b h z
 | .whileS c b,ρ,st,D,D',h,q=>by
  skip
  obtain⟨n,q⟩:=q
  refine⟨n,iP h (c:=wpT Γ c) (body:=au Γ b) ?_ ?_ q⟩
  ·exact fun _ _ _ _ hk z=>aJ G c hk z
  ·exact fun _ _ _ _ hk z=>aU G b hk z
 | .forS t it b,ρ,st,D,D',h,q=>by
  skip
  exact gc G it (fun xs chk st1 z=>lQ h (fun x ρ st D D' hd w=>aY G t (fun ρ2 st2 w=>aU G b hd w) w) z) q
 | .forK _ _ _ _,ρ,st,D,D',h,q=>False.elim q
 | .pass,ρ,st,D,D',h,q=>by exact h.nx _ _ q
 | .bad,ρ,st,D,D',h,q=>False.elim q
 | .set2 i j e,ρ,st,D,D',h,q=>by exact aa G e (fun v st1 z=>h.nx _ _ z) q
 | .brk,ρ,st,D,D',h,q=>by exact h.bk _ _ q
 | .cont,ρ,st,D,D',h,q=>by exact h.ct _ _ q
theorem aU (G:bu Γ):∀(s:Ss) {ρ:Fr}{st:AH}{D D':aO},k9 D D'->au Γ s ρ st D->au Γ s ρ st D'
 | .nil,ρ,st,D,D',h,q=>by exact h.nx _ _ q
 | .cons s ss,ρ,st,D,D',h,q=>by
  skip
  refine gh G s ?_ q
  exact⟨fun _ _ z=>aU G ss h z,h.rt,h.bk,h.ct⟩
end
end
end FW
namespace FW
open L2 HX
def RdF (K:W.Frag)(H:Hp)(a:Addr)(ys:List V):Prop :=
 (∃o,H a=some (.frz o (.lst ys)))\/∃(o:Obj) (its:Array Value) (n:Nat),K.lookup a=some o/\o.cls=.type "list"/\o.dict=none/\o.data=.seq its n/\its.size<=sizeLine/\Vals ys its.toList
theorem RdF.sq {K:W.Frag}{H:Hp}{a:Addr}{ys:List V}(h:RdF K H a ys):SqL K H a ys:=by
 rcases h with h|h
 ·exact .inl (.inr h)
 ·exact .inr h
mutual
noncomputable def R (K:W.Frag)(m:List Addr)(H:Hp):PV->V->Prop
 | .non,v=>v=.non
 | .bl b,v=>v=.bl b
 | .int i,v=>v=.int i
 | .str x,v=>v=.str x
 | .ref n,v=>∃a,m[n]?=some a/\v=.ref a
 | .tup xs,v=>∃a ys,v=.ref a/\SqT K H a ys/\Rs K m H xs ys
 | .rdl xs,v=>∃a ys,v=.ref a/\RdF K H a ys/\Rs K m H xs ys
 | .fn a,v=>v=.ref a
noncomputable def Rs (K:W.Frag)(m:List Addr)(H:Hp):List PV->List V->Prop
 | [],ys=>ys=[]
 | x::xs,ys=>∃y r,ys=y::r/\R K m H x y/\Rs K m H xs r
end
section
variable {K:W.Frag}{m m':List Addr}{H H':Hp}{v:V}{vs:List V}
theorem R_non:R K m H .non v↔v=.non:=by rw[R]
theorem R_bl {b:Bool}:R K m H (.bl b) v↔v=.bl b:=by rw[R]
theorem R_int {b:Int}:R K m H (.int b) v↔v=.int b:=by rw[R]
theorem R_str {b:Str}:R K m H (.str b) v↔v=.str b:=by rw[R]
theorem iG {n:Nat}:R K m H (.ref n) v↔∃a,m[n]?=some a/\v=.ref a:=by rw[R]
theorem R_tup {xs:List PV}:R K m H (.tup xs) v↔∃a ys,v=.ref a/\SqT K H a ys/\Rs K m H xs ys:=by rw[R]
theorem fj {xs:List PV}:R K m H (.rdl xs) v↔∃a ys,v=.ref a/\RdF K H a ys/\Rs K m H xs ys:=by rw[R]
theorem yb {a:Nat}:R K m H (.fn a) v↔v=.ref a:=by rw[R]
theorem Rs_nil:Rs K m H [] vs↔vs=[]:=by rw[Rs]
theorem aQ {x:PV}{xs:List PV}:Rs K m H (x::xs) vs↔∃y r,vs=y::r/\R K m H x y/\Rs K m H xs r:=by rw[Rs]
theorem Rs_cons' {x:PV}{xs:List PV}:Rs K m H (x::xs) (v::vs)↔R K m H x v/\Rs K m H xs vs:=by
 rw[aQ]
 constructor
 ·rintro⟨_,_,e,h1,h2⟩;cases e;exact⟨h1,h2⟩
 ·rintro⟨h1,h2⟩;exact⟨_,_,rfl,h1,h2⟩
theorem Rs.len:∀ {xs:List PV}{ys:List V},Rs K m H xs ys->xs.length=ys.length
 | [],ys,h=>by rw[Rs_nil] at h;subst h;rfl
 | x::xs,ys,h=>by
  rw[aQ] at h
  obtain⟨y,r,rfl,_,h⟩:=h
  simp[Rs.len h]
theorem Rs.get:∀ {xs:List PV}{ys:List V}{i:Nat}{x:PV},Rs K m H xs ys->xs[i]?=some x->∃y,ys[i]?=some y/\R K m H x y
 | [],ys,i,x,h,e=>by simp at e
 | x::xs,ys,i,z,h,e=>by
  rw[aQ] at h
  obtain⟨y,r,rfl,h1,h⟩:=h
  cases i with
  | zero=>simp at e;subst e;exact⟨y,rfl,h1⟩
  | succ i =>
   obtain⟨w,e1,e2⟩:=Rs.get h (by simpa using e)
   exact⟨w,by simpa using e1,e2⟩
theorem Rs.app:∀ {xs zs:List PV}{ys ws:List V},Rs K m H xs ys->Rs K m H zs ws->Rs K m H (xs++zs) (ys++ws)
 | [],zs,ys,ws,h,h'=>by rw[Rs_nil] at h;subst h;exact h'
 | x::xs,zs,ys,ws,h,h'=>by
  rw[aQ] at h
  obtain⟨y,r,rfl,h1,h⟩:=h
  rw[P8,aQ]
  exact⟨y,r++ws,rfl,h1,h.app h'⟩
theorem Rs.drop:∀ {xs:List PV}{ys:List V} (n:Nat),Rs K m H xs ys->Rs K m H (xs.drop n) (ys.drop n)
 | xs,ys,0,h=>by simpa using h
 | [],ys,n+1,h=>by rw[Rs_nil] at h;subst h;simp[Rs_nil]
 | x::xs,ys,n+1,h=>by
  rw[aQ] at h
  obtain⟨y,r,rfl,h1,h⟩:=h
  simpa using Rs.drop n h
theorem Rs.take:∀ {xs:List PV}{ys:List V} (n:Nat),Rs K m H xs ys->Rs K m H (xs.take n) (ys.take n)
 | xs,ys,0,h=>by simp[Rs_nil]
 | [],ys,n+1,h=>by rw[Rs_nil] at h;subst h;simp[Rs_nil]
 | x::xs,ys,n+1,h=>by
  rw[aQ] at h
  obtain⟨y,r,rfl,h1,h⟩:=h
  rw[PL,PL,Rs_cons']
  exact⟨h1,Rs.take n h⟩
theorem Rs.set {x:PV}{y:V}(hx:R K m H x y):∀ {xs:List PV}{ys:List V} (n:Nat),Rs K m H xs ys->Rs K m H (xs.set n x) (ys.set n y)
 | [],ys,n,h=>by rw[Rs_nil] at h;subst h;simp[Rs_nil]
 | z::xs,ys,0,h=>by
  rw[aQ] at h
  obtain⟨w,r,rfl,h1,h⟩:=h
  rw[List.set_cons_zero,List.set_cons_zero,Rs_cons']
  exact⟨hx,h⟩
 | z::xs,ys,n+1,h=>by
  rw[aQ] at h
  obtain⟨w,r,rfl,h1,h⟩:=h
  rw[List.set_cons_succ,List.set_cons_succ,Rs_cons']
  exact⟨h1,Rs.set hx n h⟩
theorem Rs.cut {xs:List PV}{ys:List V}(h:Rs K m H xs ys)(lo hi:Option Int):Rs K m H (e8 xs lo hi) (pR ys lo hi):=by
 unfold e8 pR
 rw[h.len]
 exact(h.drop _).take _
theorem Rs.atI {xs:List PV}{ys:List V}{i:Int}{x:PV}(h:Rs K m H xs ys)(e:atI xs i=some x):∃y,L2.atI ys i=some y/\R K m H x y:=by
 unfold L2.atI at e |-
 rw[h.len] at e
 cases q:ixN ys.length i with
 | none=>rw[q] at e;cases e
 | some j =>
  rw[q] at e
  obtain⟨y,e1,e2⟩:=h.get (show xs[j]?=some x from e)
  exact⟨y,e1,e2⟩
theorem Rs.rep {xs:List PV}{ys:List V}(h:Rs K m H xs ys):∀n:Nat,Rs K m H (List.replicate n xs).flatten (List.replicate n ys).flatten
 | 0=>by simp[Rs_nil]
 | n+1=>by
  rw[NX,NX,OJ,OJ]
  exact h.app (Rs.rep h n)
theorem Rs.one {x:PV}{y:V}(h:R K m H x y):Rs K m H [x] [y]:=by rw[Rs_cons',Rs_nil];exact⟨h,rfl⟩
end
noncomputable def aZ:List Str:=["coming","latest","through"]
def TB (K:W.Frag)(H:Hp):Prop:=∀x∈aZ,∀c T,W.tabIn K x=some (c,T)->(∀y∈aZ,∀d,W.tabIn K y=some (d,T)->y=x)/\∃ps,H T=some (.tbl ps)/\TriplesOk ps.toList /\
 ∀pos cv,codeAmong pos ps.toList=some cv->∃c' oc,cv=.ref c'/\H c'=some (.frz oc (.own 0))/\F6 oc (x++".<locals>."++"<lambda>")
theorem TB.keep {K:W.Frag}{H H':Hp}(t:TB K H)(h1:∀a ps,H a=some (.tbl ps)->H' a=some (.tbl ps))(h2:∀a o,H a=some (.frz o (.own 0))->H' a=some (.frz o (.own 0))):TB K H':=fun x hx c T e=>by
 obtain⟨e0,ps,e1,e2,e3⟩:=t x hx c T e
 refine⟨e0,ps,h1 _ _ e1,e2,fun pos cv q=>?_⟩
 obtain⟨c',oc,g1,g2,g3⟩:=e3 pos cv q
 exact⟨c',oc,g1,h2 _ _ g2,g3⟩
structure Ext (K:W.Frag)(m:List Addr)(H:Hp)(m':List Addr)(H':Hp):Prop where
 pre:m <+: m'
 new:∀a∈m',a∈m\/H a=none
 fr:∀a o,a ∉ m->H a=some o->(∀ps,o≠.tbl ps)->H' a=some o
 tup:∀a ys,SqT K H a ys->SqT K H' a ys
 rdf:∀a ys,RdF K H a ys->RdF K H' a ys
 tbs:∀a ps,a ∉ m->H a=some (.tbl ps)->∃ps',H' a=some (.tbl ps')
 tb:TB K H->TB K H'
 frz:∀a o u,H a=some (.frz o u)->H' a=some (.frz o u)
theorem Ext.refl (K:W.Frag)(m:List Addr)(H:Hp):Ext K m H m H:=⟨P9 _,fun _ h=>.inl h,fun _ _ _ h _=>h,fun _ _ h=>h,fun _ _ h=>h,fun _ ps _ h=>⟨ps,h⟩,fun h=>h,fun _ _ _ h=>h⟩
theorem Ext.ne {K:W.Frag}{m m':List Addr}{H H':Hp}(x:Ext K m H m' H'){a:Addr}{o:HO}(hm:a ∉ m)(e:H a=some o):H' a≠none:=fun z=>by
 by_cases h:∃ps,o=.tbl ps
 ·obtain⟨ps,rfl⟩:=h
  obtain⟨q,e2⟩:=x.tbs a ps hm e
  rw[e2] at z;cases z
 ·rw[x.fr a o hm e fun ps q=>h ⟨ps,q⟩] at z;cases z
theorem Ext.trans {K:W.Frag}{m m1 m2:List Addr}{H H1 H2:Hp}(a:Ext K m H m1 H1)(b:Ext K m1 H1 m2 H2):Ext K m H m2 H2:=by
 have nin:∀c o,c ∉ m->H c=some o->c ∉ m1:=fun c o h e z=>by
  rcases a.new c z with q|q
  ·exact h q
  ·rw[e] at q;cases q
 refine⟨a.pre.trans b.pre,fun c hc=>?_,fun c o h e n=>b.fr c o (nin c o h e) (a.fr c o h e n) n,fun c ys h=>b.tup c ys (a.tup c ys h),fun c ys h=>b.rdf c ys (a.rdf c ys h),fun c ps h e=>let ⟨p1,e1⟩:=a.tbs c ps h e;b.tbs c p1 (nin c _ h e) e1,fun h=>b.tb (a.tb h),fun c o u h=>b.frz c o u (a.frz c o u h)⟩
 rcases b.new c hc with q|q
 ·exact a.new c q
 ·by_cases hm:c∈m
  ·exact .inl hm
  ·cases e:H c with
   | none=>exact .inr rfl
   | some o=>exact absurd q (a.ne hm e)
theorem ku {m m':List Addr}(h:m <+: m'){n:Nat}{a:Addr}(e:m[n]?=some a):m'[n]?=some a:=by
 obtain⟨t,rfl⟩:=h
 rw[M1 (MC.mp e).1]
 exact e
mutual
theorem R.mono {K:W.Frag}{m m':List Addr}{H H':Hp}(x:Ext K m H m' H'):∀ {p:PV}{v:V},R K m H p v->R K m' H' p v
 | .non,v,h=>by rw[R_non] at h |-;exact h
 | .bl b,v,h=>by rw[R_bl] at h |-;exact h
 | .int b,v,h=>by rw[R_int] at h |-;exact h
 | .str b,v,h=>by rw[R_str] at h |-;exact h
 | .ref n,v,h=>by rw[iG] at h |-;obtain⟨a,e,q⟩:=h;exact⟨a,ku x.pre e,q⟩
 | .tup xs,v,h=>by rw[R_tup] at h |-;obtain⟨a,ys,e,q,r⟩:=h;exact⟨a,ys,e,x.tup _ _ q,Rs.mono x r⟩
 | .rdl xs,v,h=>by rw[fj] at h |-;obtain⟨a,ys,e,q,r⟩:=h;exact⟨a,ys,e,x.rdf _ _ q,Rs.mono x r⟩
 | .fn b,v,h=>by rw[yb] at h |-;exact h
theorem Rs.mono {K:W.Frag}{m m':List Addr}{H H':Hp}(x:Ext K m H m' H'):∀ {ps:List PV}{vs:List V},Rs K m H ps vs->Rs K m' H' ps vs
 | [],vs,h=>by rw[Rs_nil] at h |-;exact h
 | p::ps,vs,h=>by
  rw[aQ] at h |-
  obtain⟨y,r,e,h1,h2⟩:=h
  exact⟨y,r,e,R.mono x h1,Rs.mono x h2⟩
end
mutual
theorem R.cut {K:W.Frag}{m:List Addr}{H:Hp}{k:Nat}:∀ {p:PV}{v:V},R K m H p v->p.bec k=true->R K (m.take k) H p v
 | .non,v,h,_=>by rw[R_non] at h |-;exact h
 | .bl b,v,h,_=>by rw[R_bl] at h |-;exact h
 | .int b,v,h,_=>by rw[R_int] at h |-;exact h
 | .str b,v,h,_=>by rw[R_str] at h |-;exact h
 | .ref n,v,h,z=>by
  rw[iG] at h |-
  obtain⟨a,e,q⟩:=h
  rw[PV.bec] at z
  exact⟨a,by rw[OG (O8 z)];exact e,q⟩
 | .tup xs,v,h,z=>by
  rw[R_tup] at h |-
  obtain⟨a,ys,e,q,r⟩:=h
  rw[PV.bec] at z
  exact⟨a,ys,e,q,Rs.cutm r z⟩
 | .rdl xs,v,h,z=>by
  rw[fj] at h |-
  obtain⟨a,ys,e,q,r⟩:=h
  rw[PV.bec] at z
  exact⟨a,ys,e,q,Rs.cutm r z⟩
 | .fn b,v,h,_=>by rw[yb] at h |-;exact h
theorem Rs.cutm {K:W.Frag}{m:List Addr}{H:Hp}{k:Nat}:∀ {ps:List PV}{vs:List V},Rs K m H ps vs->PV.becs k ps=true->Rs K (m.take k) H ps vs
 | [],vs,h,_=>by rw[Rs_nil] at h |-;exact h
 | p::ps,vs,h,z=>by
  rw[aQ] at h |-
  obtain⟨y,r,e,h1,h2⟩:=h
  rw[PV.becs,M3] at z
  exact⟨y,r,e,R.cut h1 z.1,Rs.cutm h2 z.2⟩
end
mutual
theorem R.bel {K:W.Frag}{m:List Addr}{H:Hp}:∀ {p:PV}{v:V},R K m H p v->p.bec m.length=true
 | .non,v,h=>by rw[PV.bec]
 | .bl b,v,h=>by rw[PV.bec]
 | .int b,v,h=>by rw[PV.bec]
 | .str b,v,h=>by rw[PV.bec]
 | .ref n,v,h=>by
  rw[iG] at h
  obtain⟨a,e,q⟩:=h
  rw[PV.bec]
  exact NW (MC.mp e).1
 | .tup xs,v,h=>by
  rw[R_tup] at h
  obtain⟨a,ys,e,q,r⟩:=h
  rw[PV.bec]
  exact Rs.bel r
 | .rdl xs,v,h=>by
  rw[fj] at h
  obtain⟨a,ys,e,q,r⟩:=h
  rw[PV.bec]
  exact Rs.bel r
 | .fn b,v,h=>by rw[PV.bec]
theorem Rs.bel {K:W.Frag}{m:List Addr}{H:Hp}:∀ {ps:List PV}{vs:List V},Rs K m H ps vs->PV.becs m.length ps=true
 | [],vs,h=>by rw[PV.becs]
 | p::ps,vs,h=>by
  rw[aQ] at h
  obtain⟨y,r,e,h1,h2⟩:=h
  rw[PV.becs,M3]
  exact⟨R.bel h1,Rs.bel h2⟩
end
noncomputable def CellR (K:W.Frag)(m:List Addr)(H:Hp):Cell->Addr->Prop
 | .lst xs,a=>∃ys,H a=some (.lst ys)/\Rs K m H xs ys
 | .dk kvs,a=>∃ys,H a=some (.dK ys)/\ys.map (·.1)=kvs.map (·.1)/\Rs K m H (kvs.map (·.2)) (ys.map (·.2))
 | .fz kvs,a=>∃o ys,H a=some (.frz o (.dK ys))/\ys.map (·.1)=kvs.map (·.1)/\Rs K m H (kvs.map (·.2)) (ys.map (·.2))
theorem CellR.mono {K:W.Frag}{m m':List Addr}{H H':Hp}(x:Ext K m H m' H'){c:Cell}{a:Addr}(h:CellR K m H c a)(e:H' a=H a):CellR K m' H' c a:=by
 cases c with
 | lst xs=>obtain⟨ys,h1,h2⟩:=h;exact⟨ys,e.trans h1,h2.mono x⟩
 | dk kvs=>obtain⟨ys,h1,h2,h3⟩:=h;exact⟨ys,e.trans h1,h2,h3.mono x⟩
 | fz kvs=>obtain⟨o,ys,h1,h2,h3⟩:=h;exact⟨o,ys,e.trans h1,h2,h3.mono x⟩
theorem CellR.ex {K:W.Frag}{m:List Addr}{H:Hp}{c:Cell}{a:Addr}(h:CellR K m H c a):∃o,H a=some o/\(∀ys,o≠.tup ys)/\∀u p,o=.frz u p->∃ys,p=.dK ys:=by
 cases c with
 | lst xs=>obtain⟨ys,h1,h2⟩:=h;exact⟨_,h1,⟨fun _ z=>(by cases z),fun _ _ z=>(by cases z)⟩⟩
 | dk kvs=>obtain⟨ys,h1,h2,h3⟩:=h;exact⟨_,h1,⟨fun _ z=>(by cases z),fun _ _ z=>(by cases z)⟩⟩
 | fz kvs=>obtain⟨o,ys,h1,h2,h3⟩:=h;exact⟨_,h1,⟨fun _ z=>(by cases z),fun _ _ z=>(by cases z;exact⟨ys,rfl⟩)⟩⟩
theorem CellR.cut {K:W.Frag}{m:List Addr}{H:Hp}{c:Cell}{a:Addr}{k:Nat}(h:CellR K m H c a)(z:c.bec k=true):CellR K (m.take k) H c a:=by
 cases c with
 | lst xs=>obtain⟨ys,h1,h2⟩:=h;exact⟨ys,h1,h2.cutm z⟩
 | dk kvs=>obtain⟨ys,h1,h2,h3⟩:=h;exact⟨ys,h1,h2,h3.cutm z⟩
 | fz kvs=>obtain⟨o,ys,h1,h2,h3⟩:=h;exact⟨o,ys,h1,h2,h3.cutm z⟩
theorem CellR.bel {K:W.Frag}{m:List Addr}{H:Hp}{c:Cell}{a:Addr}(h:CellR K m H c a):c.bec m.length=true:=by
 cases c with
 | lst xs=>obtain⟨ys,h1,h2⟩:=h;exact h2.bel
 | dk kvs=>obtain⟨ys,h1,h2,h3⟩:=h;exact h3.bel
 | fz kvs=>obtain⟨o,ys,h1,h2,h3⟩:=h;exact h3.bel
structure RH (K:W.Frag)(m:List Addr)(H:Hp)(st:AH):Prop where
 len:m.length=st.length
 nd:m.Nodup
 at_:∀(n:Nat) (c:Cell) (a:Addr),st[n]?=some c->m[n]?=some a->CellR K m H c a
 tb:TB K H
section
variable {K:W.Frag}{m m':List Addr}{H H':Hp}{st:AH}
theorem RH.get {n:Nat}{c:Cell}(h:RH K m H st)(e:st[n]?=some c):∃a,m[n]?=some a/\CellR K m H c a:=by
 have:n<m.length:=by rw[h.len];exact(MC.mp e).1
 exact⟨m[n],by simp[this],h.at_ n c _ e (by simp[this])⟩
theorem RH.mem {a:Addr}(h:RH K m H st)(e:a∈m):∃o,H a=some o/\(∀ys,o≠.tup ys)/\∀u p,o=.frz u p->∃ys,p=.dK ys:=by
 obtain⟨n,hn,rfl⟩:=QC.mp e
 have:n<st.length:=by rw[<-h.len];exact hn
 exact(h.at_ n st[n] _ (by simp[this]) (by simp[hn])).ex
theorem RH.mem_tbl {a:Addr}(h:RH K m H st)(e:a∈m){ps:Array Value}:H a≠some (.tbl ps):=fun z=>by
 obtain⟨n,hn,rfl⟩:=QC.mp e
 have:n<st.length:=by rw[<-h.len];exact hn
 have c:=h.at_ n st[n] m[n] (by simp[this]) (by simp[hn])
 cases q:st[n] with
 | lst xs=>rw[q] at c;obtain⟨ys,h1,_⟩:=c;rw[h1] at z;cases z
 | dk xs=>rw[q] at c;obtain⟨ys,h1,_⟩:=c;rw[h1] at z;cases z
 | fz xs=>rw[q] at c;obtain⟨o,ys,h1,_⟩:=c;rw[h1] at z;cases z
theorem RH.lst {n:Nat}{xs:List PV}{v:V}(h:RH K m H st)(e:st[n]?=some (.lst xs))(r:R K m H (.ref n) v):∃a ys,v=.ref a/\m[n]?=some a/\H a=some (.lst ys)/\Rs K m H xs ys:=by
 rw[iG] at r
 obtain⟨a,e1,rfl⟩:=r
 obtain⟨ys,h1,h2⟩:=h.at_ n _ a e e1
 exact⟨a,ys,rfl,e1,h1,h2⟩
theorem RH.fresh {p:Addr}(h:RH K m H st)(e:H p=none):p ∉ m:=fun z=>by
 obtain⟨o,q,_⟩:=h.mem z
 rw[e] at q;cases q
theorem Ext.newT {p:Addr}{o:HO}(h:RH K m H st)(e:H p=none):Ext K m H m (upd H p o):=by
 refine⟨P9 _,fun _ z=>.inl z,fun a u _ q _=>?_,fun a ys q=>?_,fun a ys q=>?_,fun a ps _ q=>⟨ps,by rw[am (aD q e)];exact q⟩,fun t=>t.keep (fun a ps q=>by rw[am (aD q e)];exact q) fun a o q=>by rw[am (aD q e)];exact q,fun a o u q=>by rw[am (aD q e)];exact q⟩
 ·rw[am (aD q e)];exact q
 ·rcases q with (q|⟨u,q⟩)|q
  ·exact .inl (.inl (by rw[am (aD q e)];exact q))
  ·exact .inl (.inr ⟨u,by rw[am (aD q e)];exact q⟩)
  ·exact .inr q
 ·rcases q with⟨u,q⟩|q
  ·exact .inl ⟨u,by rw[am (aD q e)];exact q⟩
  ·exact .inr q
theorem RH.keep (h:RH K m H st)(x:Ext K m H m H')(e:∀a∈m,H' a=H a):RH K m H' st :=
 ⟨h.len,h.nd,fun n c a h1 h2=>(h.at_ n c a h1 h2).mono x (e a (MQ h2)),x.tb h.tb⟩
theorem RH.newT {p:Addr}{o:HO}(h:RH K m H st)(e:H p=none):RH K m (upd H p o) st :=
 h.keep (Ext.newT h e) fun a ha=>am fun z=>h.fresh e (z ▸ ha)
theorem Ext.new1 {p:Addr}{o:HO}(h:RH K m H st)(e:H p=none):Ext K m H (m++[p]) (upd H p o):=by
 have q:=Ext.newT (o:=o) h e
 refine⟨QL _ _,fun a z=>?_,q.fr,q.tup,q.rdf,q.tbs,q.tb,q.frz⟩
 rcases MW.mp z with z|z
 ·exact .inl z
 ·rw[MI] at z
  subst z
  exact .inr e
theorem RH.new1 {p:Addr}{o:HO}{c:Cell}(h:RH K m H st)(e:H p=none)(hc:CellR K (m++[p]) (upd H p o) c p):RH K (m++[p]) (upd H p o) (st++[c]):=by
 have x:=Ext.new1 (o:=o) h e
 refine⟨by simp[h.len],OY.mpr ⟨h.nd,MP.mpr ⟨by simp,Q6⟩,fun a ha b hb z=>?_⟩,fun n c' a h1 h2=>?_,x.tb h.tb⟩
 ·rw[MI] at hb
  subst hb
  exact h.fresh e (z ▸ ha)
 ·by_cases hn:n<st.length
  ·rw[M1 hn] at h1
   rw[M1 (by rw[h.len];exact hn)] at h2
   exact(h.at_ n c' a h1 h2).mono x (am fun z=>h.fresh e (z ▸ MQ h2))
  ·rw[M6 (by exact Nat.not_lt.mp ‹_›)] at h1
   rw[M6 (by rw[h.len];exact Nat.not_lt.mp ‹_›)] at h2
   have hl:=h.len
   by_cases hz:n-st.length=0
   ·rw[hz] at h1
    rw[show n-m.length=0 by omega] at h2
    simp at h1 h2
    subst h1 h2
    exact hc
   ·rw[OU (by simp;exact Nat.pos_of_ne_zero ‹_›)] at h1
    cases h1
theorem RH.newL {p:Addr}{xs:List PV}{ys:List V}(h:RH K m H st)(e:H p=none)(r:Rs K m H xs ys):RH K (m++[p]) (upd H p (.lst ys)) (st++[.lst xs]) :=
 h.new1 e ⟨ys,bH,r.mono (Ext.new1 h e)⟩
theorem R.last {p:Addr}{n:Nat}(h:m.length=n):R K (m++[p]) H (.ref n) (.ref p):=by
 rw[iG]
 exact⟨p,by rw[<-h];simp,rfl⟩
theorem nfL {H:Hp}{a:Addr}{ys:List V}(g:H a=some (.lst ys)):∀w v,H a≠some (.frz w v):=fun _ _ z=>by rw[g] at z;cases z
theorem Ext.set {n:Nat}{a:Addr}{ys:List V}{o:HO}(h:RH K m H st)(e:m[n]?=some a)(hz:∀w v,H a≠some (.frz w v)):Ext K m H m (upd H a o):=by
 have hm:=MQ e
 obtain⟨u,hu,h1,h2⟩:=h.mem hm
 refine⟨P9 _,fun _ z=>.inl z,fun b w hb q _=>?_,fun b zs q=>?_,fun b zs q=>?_,fun b ps hb q=>⟨ps,by rw[am (show b≠a from fun z=>hb (by rw[z];exact hm))];exact q⟩,fun t=>t.keep (fun b ps q=>by rw[am (fun z=>by subst z;exact h.mem_tbl hm q)];exact q) fun b w q=>by rw[am (fun z=>by subst z;exact hz _ _ q)];exact q,fun b w v q=>by rw[am (fun z=>by subst z;exact hz _ _ q)];exact q⟩
 ·have hne:b≠a:=fun z=>hb (by rw[z];exact hm)
  rw[am hne];exact q
 ·rcases q with (q|⟨w,q⟩)|q
  ·exact .inl (.inl (by rw[am (fun z=>by subst z;rw[hu] at q;cases q;exact h1 _ rfl)];exact q))
  ·exact .inl (.inr ⟨w,by rw[am (fun z=>by subst z;exact hz _ _ q)];exact q⟩)
  ·exact .inr q
 ·rcases q with⟨w,q⟩|q
  ·exact .inl ⟨w,by rw[am (fun z=>by subst z;exact hz _ _ q)];exact q⟩
  ·exact .inr q
theorem yj {m:List Addr}(h:m.Nodup){i j:Nat}{a:Addr}(e:m[i]?=some a)(e':m[j]?=some a):i=j:=by
 obtain⟨h1,h2⟩:=MC.mp e
 obtain⟨h3,h4⟩:=MC.mp e'
 exact(List.getElem_inj h).mp (h2.trans h4.symm)
theorem RH.setL {n:Nat}{a:Addr}{xs:List PV}{ys:List V}(h:RH K m H st)(e:m[n]?=some a)(hz:∀w v,H a≠some (.frz w v))(r:Rs K m H xs ys):RH K m (upd H a (.lst ys)) (st.set n (.lst xs)):=by
 have x:Ext K m H m (upd H a (.lst ys)):=Ext.set (ys:=ys) h e hz
 refine⟨by simp[h.len],h.nd,fun k c b h1 h2=>?_,x.tb h.tb⟩
 by_cases hk:k=n
 ·subst hk
  rw[e] at h2
  cases h2
  have hl:k<st.length:=by rw[<-h.len];exact(MC.mp e).1
  rw[M_ hl] at h1
  cases h1
  exact⟨ys,bH,r.mono x⟩
 ·rw[NK (fun z=>hk z.symm)] at h1
  exact(h.at_ k c b h1 h2).mono x (am fun z=>hk (yj h.nd h2 (z ▸ e)))
end
structure RF (K:W.Frag)(m:List Addr)(H:Hp)(ρ:Fr)(σ:L2.St):Prop where
 len:ρ.length=σ.length
 at_:∀(i:Nat) v,ρ[i]?=some (some v)->∃x,σ[i]?=some (some x)/\R K m H v x
theorem RF.mono {K:W.Frag}{m m':List Addr}{H H':Hp}{ρ:Fr}{σ:L2.St}(h:RF K m H ρ σ)(x:Ext K m H m' H'):RF K m' H' ρ σ :=
 ⟨h.len,fun i v e=>let ⟨y,e1,r⟩:=h.at_ i v e;⟨y,e1,r.mono x⟩⟩
theorem RF.set {K:W.Frag}{m:List Addr}{H:Hp}{ρ:Fr}{σ:L2.St}(h:RF K m H ρ σ)(i:Nat){v:PV}{x:V}(r:R K m H v x):RF K m H (ρ.set i (some v)) (σ.set i (some x)):=by
 refine⟨by simp[h.len],fun j w e=>?_⟩
 by_cases hj:i=j
 ·subst hj
  have hl:i<ρ.length:=by have:=(MC.mp e).1;simpa using this
  rw[M_ hl] at e
  cases e
  exact⟨x,by rw[M_ (h.len ▸ hl)],r⟩
 ·rw[NK hj] at e
  rw[NK hj]
  exact h.at_ j w e
noncomputable def post (K:W.Frag)(m:List Addr)(H:Hp)(Q:VK):EK:=fun v st'=>∀m' H' x,Ext K m H m' H'->RH K m' H' st'->R K m' H' v x->Q x H'
noncomputable def postB (K:W.Frag)(m:List Addr)(H:Hp)(Q:Bool->Hp->Prop):BK:=fun v st'=>∀m' H',Ext K m H m' H'->RH K m' H' st'->Q v H'
noncomputable def Hy (K:W.Frag)(m:List Addr)(H:Hp)(Q:List V->Hp->Prop):LK:=fun vs st'=>∀m' H' xs,Ext K m H m' H'->RH K m' H' st'->Rs K m' H' vs xs->Q xs H'
noncomputable def TEx (K:W.Frag)(w:Fr->AH->EK->Prop):TE:=fun σ H Q=>∃m ρ st,RF K m H ρ σ/\RH K m H st/\w ρ st (post K m H Q)
noncomputable def TTx (K:W.Frag)(w:Fr->AH->BK->Prop):TT:=fun σ H Q=>∃m ρ st,RF K m H ρ σ/\RH K m H st/\w ρ st (postB K m H Q)
noncomputable def TAx (K:W.Frag)(w:Fr->AH->LK->Prop):TA:=fun σ H Q=>∃m ρ st,RF K m H ρ σ/\RH K m H st/\w ρ st (Hy K m H Q)
theorem post.ext {K:W.Frag}{m m1:List Addr}{H H1:Hp}{Q:VK}(x:Ext K m H m1 H1){v:PV}{st:AH}(q:post K m H Q v st):post K m1 H1 Q v st:=fun m' H' y e r s=>q m' H' y (x.trans e) r s
theorem postB.ext {K:W.Frag}{m m1:List Addr}{H H1:Hp}{Q:Bool->Hp->Prop}(x:Ext K m H m1 H1){v:Bool}{st:AH}(q:postB K m H Q v st):postB K m1 H1 Q v st:=fun m' H' e r=>q m' H' (x.trans e) r
noncomputable def D7 (K:W.Frag)(w:PV->PV->AH->EK->Prop):R2:=fun x' y' H Q=>∃m st x y,RH K m H st/\R K m H x x'/\R K m H y y'/\w x y st (post K m H Q)
noncomputable def GP (K:W.Frag)(w:List PV->AH->EK->Prop):List V->Hp->VK->Prop:=fun xs' H Q=>∃m st xs,RH K m H st/\Rs K m H xs xs'/\w xs st (post K m H Q)
end FW
namespace FW
open L2 HX
theorem eO {n:Nat}(h:n<=100000):n<=sizeLine:=by rw[sizeLine_eq];omega
theorem nE {n:Nat}(h:n<100000):n<sizeLine:=by rw[sizeLine_eq];omega
section
variable {X:Cx}
theorem post.here {K:W.Frag}{m:List Addr}{H:Hp}{Q:VK}{v:PV}{st:AH}{x:V}(q:post K m H Q v st)(h:RH K m H st)(r:R K m H v x):Q x H:=q m H x (Ext.refl _ _ _) h r
theorem post.newT {K:W.Frag}{m:List Addr}{H:Hp}{Q:VK}{xs:List PV}{ys:List V}{st:AH}{p:Addr}(q:post K m H Q (.tup xs) st)(h:RH K m H st)(r:Rs K m H xs ys)(e:H p=none):Q (.ref p) (upd H p (.tup ys)) :=
 q m _ _ (Ext.newT h e) (h.newT e) (R_tup.mpr ⟨p,ys,rfl,SqT.of bH,r.mono (Ext.newT h e)⟩)
theorem post.newL {K:W.Frag}{m:List Addr}{H:Hp}{Q:VK}{xs:List PV}{ys:List V}{st:AH}{p:Addr}(q:post K m H Q (.ref st.length) (st++[.lst xs]))(h:RH K m H st)(r:Rs K m H xs ys)(e:H p=none):Q (.ref p) (upd H p (.lst ys)) :=
 q _ _ _ (Ext.new1 h e) (h.newL e r) (R.last h.len)
theorem post.setL {K:W.Frag}{m:List Addr}{H:Hp}{Q:VK}{v:PV}{y:V}{xs:List PV}{ys:List V}{st:AH}{n:Nat}{a:Addr}(q:post K m H Q v (st.set n (.lst xs)))(h:RH K m H st)(e:m[n]?=some a)(hz:∀w v,H a≠some (.frz w v))(r:Rs K m H xs ys)(rv:R K m H v y) :
  Q y (upd H a (.lst ys)):=q _ _ _ (Ext.set (ys:=ys) h e hz) (h.setL e hz r) (rv.mono (Ext.set (ys:=ys) h e hz))
theorem ei {K:W.Frag}{m:List Addr}{H:Hp}{st:AH}{v:PV}{x:V}{xs:List PV}(h:RH K m H st)(r:R K m H v x)(e:bq st v=some xs):∃a ys,x=.ref a/\SqL K H a ys/\Rs K m H xs ys:=by
 cases v with
 | rdl zs =>
  cases e
  rw[fj] at r
  obtain⟨a,ys,rfl,h1,h2⟩:=r
  exact⟨a,ys,rfl,h1.sq,h2⟩
 | ref n =>
  unfold bq at e
  simp only at e
  split at e
  ·cases e
   rename_i q
   obtain⟨a,ys,rfl,_,h1,h2⟩:=h.lst q r
   exact⟨a,ys,rfl,SqL.of h1,h2⟩
  ·cases e
 | _=>cases e
theorem kO {K:W.Frag}{m:List Addr}{H:Hp}{st:AH}{v:PV}{x:V}{xs:List PV}(h:RH K m H st)(r:R K m H v x)(e:aW st v=some xs):∃a ys,x=.ref a/\(SqL K H a ys\/SqT K H a ys)/\Rs K m H xs ys:=by
 cases v with
 | tup zs =>
  cases e
  rw[R_tup] at r
  obtain⟨a,ys,rfl,h1,h2⟩:=r
  exact⟨a,ys,rfl,.inr h1,h2⟩
 | rdl zs =>
  obtain⟨a,ys,h1,h2,h3⟩:=ei h r e
  exact⟨a,ys,h1,.inl h2,h3⟩
 | ref n =>
  obtain⟨a,ys,h1,h2,h3⟩:=ei h r e
  exact⟨a,ys,h1,.inl h2,h3⟩
 | _=>cases e
theorem Jo {P:Program}{w:World}{A:Around}{E:Value->Shared->Prop}{s:Shared}{t b:Addr}{ws:List Value}{Q:Value->Shared->Prop}(ht:IsTup s.heap t ([]:List Value).toArray)(hb:IsTup s.heap b ws.toArray)(h:Q (.ref b) s) :
  wpAny (model P w) A (binaryOp .Add (.ref t) (.ref b)) Q E s:=by
 obtain⟨⟨cls,dd,data,sl⟩,ho,hc,n,hd⟩:=id ht
 obtain⟨⟨cls2,dd2,data2,sl2⟩,ho2,hc2,n2,hd2⟩:=id hb
 simp only at hc hd hc2 hd2
 subst hc hd hc2 hd2
 exact concat_meets ⟨_,ho,rfl⟩ ⟨_,ho2,rfl⟩ noFill_tuple_add seq_tuple_add P1 PZ (PN _ _)
  (tuple_addW0 t b ([]:List Value).toArray ws.toArray n n2 dd dd2 sl sl2 rfl) ⟨ho,ho2,h⟩
theorem E1 (op:Operator):OpR X (binaryOp op) (D7 X.K (jp op)):=by
 intro pins s σ H x' y' v u Q I rx ry h
 obtain⟨m,st,x,y,rh,hx,hy,w⟩:=h
 cases op with
 | Add =>
  cases x with
  | int i =>
   cases y with
   | int j =>
    have w:post X.K m H Q (.int (i+j)) st:=w
    rw[R_int] at hx hy;subst hx hy
    exact Fw pins s σ H _ _ v u Q I rx ry ⟨_,_,rfl,rfl,w.here rh (R_int.mpr rfl)⟩
   | _=>exact False.elim w
  | ref n =>
   cases y with
   | ref k =>
    obtain⟨xs,ys,h1,h2,h3,w⟩:=w
    obtain⟨a,xs',rfl,e1,g1,r1⟩:=rh.lst h1 hx
    obtain⟨b,ys',rfl,e2,g2,r2⟩:=rh.lst h2 hy
    exact EL pins s σ H _ _ v u Q I rx ry ⟨a,b,xs',ys',rfl,rfl,g1,g2,by rw[<-r1.len,<-r2.len];exact eO h3,fun p hp=>w.newL rh (r1.app r2) hp⟩
   | _=>exact False.elim w
  | tup xs =>
   cases y with
   | tup ys =>
    obtain⟨h2,w⟩:=w
    rw[R_tup] at hx hy
    obtain⟨a,xs',rfl,g1,r1⟩:=hx
    obtain⟨b,ys',rfl,g2,r2⟩:=hy
    by_cases h1:xs'=[]
    ·subst h1
     cases rx
     cases ry
     obtain⟨its1,rv1,p1,_⟩:=I.tuple g1
     obtain⟨its2,rv2,p2,_⟩:=I.tuple g2
     cases rv1
     have e:=r1.len
     rw[N1.mp e,QY] at w
     exact Jo p1 p2 ⟨.ref b,H,I,rfl,w.here rh (R_tup.mpr ⟨b,ys',rfl,g2,r2⟩)⟩
    refine Dp pins s σ H _ _ v u Q I rx ry ⟨a,b,xs',ys',rfl,rfl,g1,g2,fun z=>?_,by rw[<-r1.len,<-r2.len];exact eO h2,fun z=>?_,fun z p hp=>w.newT rh (r1.app r2) hp⟩
    ·exact h1 z
    ·subst z
     have e:=r2.len
     rw[N1.mp e,O4] at w
     exact w.here rh (R_tup.mpr ⟨a,xs',rfl,g1,r1⟩)
   | _=>exact False.elim w
  | str a =>
   cases y with
   | str b =>
    obtain⟨h2,w⟩:=w
    rw[R_str] at hx hy;subst hx hy
    exact wq pins s σ H _ _ v u Q I rx ry ⟨_,_,rfl,rfl,eO h2,w.here rh (R_str.mpr rfl)⟩
   | _=>exact False.elim w
  | _=>exact False.elim w
 | Mult =>
  cases x with
  | int i =>
   cases y with
   | int j =>
    have w:CMB i j/\post X.K m H Q (.int (i*j)) st:=w
    rw[R_int] at hx hy;subst hx hy
    exact CS pins s σ H _ _ v u Q I rx ry ⟨_,_,rfl,rfl,w.1,w.2.here rh (R_int.mpr rfl)⟩
   | _=>exact False.elim w
  | ref n =>
   cases y with
   | int k =>
    obtain⟨xs,h1,h2,h3,h4,w⟩:=w
    rw[R_int] at hy;subst hy
    obtain⟨a,xs',rfl,e1,g1,r1⟩:=rh.lst h1 hx
    exact FY pins s σ H _ _ v u Q I rx ry ⟨a,_,xs',rfl,rfl,g1,h2,h3,by rw[<-r1.len];exact eO h4,fun p hp=>w.newL rh (r1.rep _) hp⟩
   | _=>exact False.elim w
  | _=>exact False.elim w
 | Sub =>
  obtain⟨i,j,rfl,rfl,w⟩:=bL w
  rw[R_int] at hx hy;subst hx hy
  exact Ge pins s σ H _ _ v u Q I rx ry ⟨_,_,rfl,rfl,w.here rh (R_int.mpr rfl)⟩
 | FloorDiv =>
  obtain⟨i,j,rfl,rfl,w⟩:=bL w
  rw[R_int] at hx hy;subst hx hy
  exact B_ pins s σ H _ _ v u Q I rx ry ⟨_,_,rfl,rfl,w.1,w.2.here rh (R_int.mpr rfl)⟩
 | Mod =>
  obtain⟨i,j,rfl,rfl,w⟩:=bL w
  rw[R_int] at hx hy;subst hx hy
  exact ES pins s σ H _ _ v u Q I rx ry ⟨_,_,rfl,rfl,w.1,w.2.here rh (R_int.mpr rfl)⟩
 | Pow =>
  obtain⟨i,j,rfl,rfl,w⟩:=bL w
  rw[R_int] at hx hy;subst hx hy
  exact FN pins s σ H _ _ v u Q I rx ry ⟨_,_,rfl,rfl,w.1,w.2.here rh (R_int.mpr rfl)⟩
 | _=>exact False.elim w
mutual
theorem R.den {K:W.Frag}{m:List Addr}{H:Hp}:∀ {p:PV}{v:V}{d:PyData},R K m H p v->p.toD=some d->(∃xs,d=.list xs)\/Den K H d v
 | .non,v,d,h,e=>by rw[PV.toD] at e;cases e;rw[R_non] at h;exact .inr (den_non.mpr h)
 | .bl b,v,d,h,e=>by rw[PV.toD] at e;cases e;rw[R_bl] at h;exact .inr (den_bl.mpr h)
 | .int b,v,d,h,e=>by rw[PV.toD] at e;cases e;rw[R_int] at h;exact .inr (den_int.mpr h)
 | .str b,v,d,h,e=>by rw[PV.toD] at e;cases e;rw[R_str] at h;exact .inr (den_str.mpr h)
 | .ref n,v,d,h,e=>by rw[PV.toD] at e;cases e
 | .fn n,v,d,h,e=>by rw[PV.toD] at e;cases e
 | .tup xs,v,d,h,e=>by
  rw[PV.toD] at e
  cases q:PV.toDs xs with
  | none=>rw[q] at e;cases e
  | some ds =>
   rw[q] at e
   cases e
   rw[R_tup] at h
   obtain⟨a,ys,rfl,h1,h2⟩:=h
   exact .inr (den_tup.mpr ⟨a,ys,rfl,h1,Rs.den h2 q⟩)
 | .rdl xs,v,d,h,e=>by
  rw[PV.toD] at e
  cases q:PV.toDs xs with
  | none=>rw[q] at e;cases e
  | some ds=>rw[q] at e;cases e;exact .inl ⟨_,rfl⟩
theorem Rs.den {K:W.Frag}{m:List Addr}{H:Hp}:∀ {ps:List PV}{vs:List V}{ds:List PyData},Rs K m H ps vs->PV.toDs ps=some ds->Dens K H ds vs
 | [],vs,ds,h,e=>by rw[PV.toDs] at e;cases e;rw[Rs_nil] at h;exact dens_nil.mpr h
 | p::ps,vs,ds,h,e=>by
  rw[aQ] at h
  obtain⟨y,r,rfl,h1,h2⟩:=h
  rw[PV.toDs] at e
  cases q:p.toD with
  | none=>rw[q] at e;cases e
  | some d =>
   cases q2:PV.toDs ps with
   | none=>rw[q,q2] at e;cases e
   | some ds' =>
    rw[q,q2] at e
    cases e
    refine dens_cons'.mpr ⟨?_,Rs.den h2 q2⟩
    cases p with
    | rdl xs =>
     rw[PV.toD] at q
     cases q3:PV.toDs xs with
     | none=>rw[q3] at q;cases q
     | some es =>
      rw[q3] at q
      cases q
      rw[fj] at h1
      obtain⟨a,ys,rfl,g1,g2⟩:=h1
      exact den_lst.mpr ⟨a,ys,rfl,g1.sq,Rs.den g2 q3⟩
    | _ =>
     rcases R.den h1 q with⟨xs,rfl⟩|z
     ·first
       | (rw[PV.toD] at q;cases q;done)
       | (rw[PV.toD] at q;simp only[Option.map_eq_some_iff,reduceCtorEq,and_false,exists_false] at q)
     ·exact z
end
theorem j_ {K:W.Frag}{m:List Addr}{H:Hp}{st:AH}{p:PV}{v:V}{d:PyData}(rh:RH K m H st)(h:R K m H p v)(e:pj st p=some d):Den K H d v:=by
 cases p with
 | ref n =>
  unfold pj at e
  simp only at e
  split at e
  ·rename_i xs q
   cases q2:PV.toDs xs with
   | none=>rw[q2] at e;cases e
   | some ds =>
    rw[q2] at e
    cases e
    obtain⟨a,ys,rfl,_,h1,h2⟩:=rh.lst q h
    exact den_lst.mpr ⟨a,ys,rfl,SqL.of h1,h2.den q2⟩
  ·cases e
 | rdl xs =>
  have e':(PV.rdl xs).toD=some d:=e
  rw[PV.toD] at e'
  cases q2:PV.toDs xs with
  | none=>rw[q2] at e';cases e'
  | some ds =>
   rw[q2] at e'
   cases e'
   rw[fj] at h
   obtain⟨a,ys,rfl,g1,g2⟩:=h
   exact den_lst.mpr ⟨a,ys,rfl,g1.sq,g2.den q2⟩
 | tup xs =>
  have e':(PV.tup xs).toD=some d:=e
  rcases R.den h e' with⟨zs,rfl⟩|z
  ·rw[PV.toD] at e'
   simp at e'
  ·exact z
 | fn b=>have e':(PV.fn b).toD=some d:=e;rw[PV.toD] at e';cases e'
 | non=>have e':(PV.non).toD=some d:=e;rw[PV.toD] at e';cases e';exact den_non.mpr (R_non.mp h)
 | bl b=>have e':(PV.bl b).toD=some d:=e;rw[PV.toD] at e';cases e';exact den_bl.mpr (R_bl.mp h)
 | int b=>have e':(PV.int b).toD=some d:=e;rw[PV.toD] at e';cases e';exact den_int.mpr (R_int.mp h)
 | str b=>have e':(PV.str b).toD=some d:=e;rw[PV.toD] at e';cases e';exact den_str.mpr (R_str.mp h)
theorem R.nonB {K:W.Frag}{m:List Addr}{H:Hp}{p:PV}{v:V}(h:R K m H p v):decide (v=.non)=h_ p:=by
 cases p with
 | non=>rw[R_non] at h;subst h;rfl
 | bl b=>rw[R_bl] at h;subst h;rfl
 | int b=>rw[R_int] at h;subst h;rfl
 | str b=>rw[R_str] at h;subst h;rfl
 | ref n=>rw[iG] at h;obtain⟨a,_,rfl⟩:=h;rfl
 | tup n=>rw[R_tup] at h;obtain⟨a,_,rfl,_⟩:=h;rfl
 | rdl n=>rw[fj] at h;obtain⟨a,_,rfl,_⟩:=h;rfl
 | fn n=>rw[yb] at h;subst h;rfl
theorem R.blB {K:W.Frag}{m:List Addr}{H:Hp}{p:PV}{v:V}{k:Bool}(h:R K m H p v):decide (v=.bl k)=m9 k p:=by
 cases p with
 | non=>rw[R_non] at h;subst h;rfl
 | bl b=>rw[R_bl] at h;subst h;cases b <;> cases k <;> rfl
 | int b=>rw[R_int] at h;subst h;rfl
 | str b=>rw[R_str] at h;subst h;rfl
 | ref n=>rw[iG] at h;obtain⟨a,_,rfl⟩:=h;rfl
 | tup n=>rw[R_tup] at h;obtain⟨a,_,rfl,_⟩:=h;rfl
 | rdl n=>rw[fj] at h;obtain⟨a,_,rfl,_⟩:=h;rfl
 | fn n=>rw[yb] at h;subst h;rfl
theorem Id {i j:Int}:decide (V.int i=V.int j)=decide (i=j):=by simp
theorem HN {i j:Bool}:decide (V.bl i=V.bl j)=decide (i=j):=by simp
theorem GW {i j:Str}:decide (V.str i=V.str j)=decide (i=j):=by simp
theorem nK {K:W.Frag}{m:List Addr}{H:Hp}:∀ {ns:List Int}{ys:List V},Rs K m H (ns.map PV.int) ys->ys=ns.map V.int
 | [],ys,h=>by rw[OH,Rs_nil] at h;exact h
 | n::ns,ys,h=>by
  cases ys with
  | nil=>have:=h.len;simp at this
  | cons y ys =>
   rw[M7,Rs_cons',R_int] at h
   rw[h.1,nK h.2]
   rfl
theorem mh:∀ {ns:List Int},(ns.map V.int).all js=true
 | []=>rfl
 | n::ns=>by rw[M7,O6,mh];rfl
theorem r9 {i:Int}:∀ {ns:List Int},inV (.int i) (ns.map V.int)=ns.any fun j=>j == i
 | []=>rfl
 | n::ns=>by
  have:=r9 (i:=i) (ns:=ns)
  unfold inV at this |-
  rw[M7,OP,OP,this]
  rfl
theorem sL {K:W.Frag}{m:List Addr}{H:Hp}:∀ {ns:List Str}{ys:List V},Rs K m H (ns.map PV.str) ys->ys=ns.map V.str
 | [],ys,h=>by rw[OH,Rs_nil] at h;exact h
 | n::ns,ys,h=>by
  cases ys with
  | nil=>have:=h.len;simp at this
  | cons y ys =>
   rw[M7,Rs_cons',R_str] at h
   rw[h.1,sL h.2]
   rfl
theorem lh:∀ {ns:List Str},(ns.map V.str).all js=true
 | []=>rfl
 | n::ns=>by rw[M7,O6,lh];rfl
theorem sZ {i:Str}:∀ {ns:List Str},inV (.str i) (ns.map V.str)=ns.any fun j=>j == i
 | []=>rfl
 | n::ns=>by
  have:=sZ (i:=i) (ns:=ns)
  unfold inV at this |-
  rw[M7,OP,OP,this]
  rfl
section
variable {K:W.Frag}{m:List Addr}{H:Hp}
end
theorem zU (hu:X.A.units+64<cLine)(op:CmpOp):OpR X (compareOp op) (D7 X.K (dU op)):=by
 intro pins s σ H x' y' v u Q I rx ry h
 obtain⟨m,st,x,y,rh,hx,hy,w⟩:=h
 unfold dU at w
 cases op with
 | Eq =>
  simp only at w
  unfold eqW at w
  split at w
  ·rw[R_int] at hx hy;subst hx hy
   exact BH pins s σ H _ _ v u Q I rx ry ⟨rfl,by rw[Id];exact w.here rh (R_bl.mpr rfl)⟩
  ·rw[R_bl] at hx hy;subst hx hy
   exact BH pins s σ H _ _ v u Q I rx ry ⟨rfl,by rw[HN];exact w.here rh (R_bl.mpr rfl)⟩
  ·rw[R_str] at hx hy;subst hx hy
   exact BH pins s σ H _ _ v u Q I rx ry ⟨rfl,by rw[GW];exact w.here rh (R_bl.mpr rfl)⟩
  ·obtain⟨d,e,h1,h2,h3,h4,w⟩:=w
   exact FF hu pins s σ H _ _ v u Q I rx ry ⟨d,e,j_ rh hx h1,j_ rh hy h2,h3,h4,w.here rh (R_bl.mpr rfl)⟩
 | NotEq =>
  simp only at w
  unfold eqW at w
  split at w
  ·rw[R_int] at hx hy;subst hx hy
   exact Cq pins s σ H _ _ v u Q I rx ry ⟨rfl,by rw[Id];exact w.here rh (R_bl.mpr rfl)⟩
  ·rw[R_bl] at hx hy;subst hx hy
   exact Cq pins s σ H _ _ v u Q I rx ry ⟨rfl,by rw[HN];exact w.here rh (R_bl.mpr rfl)⟩
  ·rw[R_str] at hx hy;subst hx hy
   exact Cq pins s σ H _ _ v u Q I rx ry ⟨rfl,by rw[GW];exact w.here rh (R_bl.mpr rfl)⟩
  ·obtain⟨d,e,h1,h2,h3,h4,w⟩:=w
   exact Gu hu pins s σ H _ _ v u Q I rx ry ⟨d,e,j_ rh hx h1,j_ rh hy h2,h3,h4,w.here rh (R_bl.mpr rfl)⟩
 | Is =>
  simp only at w
  split at w
  ·rw[R_non] at hy;subst hy
   exact Gv pins s σ H _ _ v u Q I rx ry ⟨rfl,by rw[hx.nonB];exact w.here rh (R_bl.mpr rfl)⟩
  ·rw[R_bl] at hy;subst hy
   exact Fo pins s σ H _ _ v u Q I rx ry ⟨_,rfl,by rw[hx.blB];exact w.here rh (R_bl.mpr rfl)⟩
  ·exact w.elim
 | IsNot =>
  simp only at w
  split at w
  ·rw[R_non] at hy;subst hy
   exact CB pins s σ H _ _ v u Q I rx ry ⟨rfl,by rw[hx.nonB];exact w.here rh (R_bl.mpr rfl)⟩
  ·rw[R_bl] at hy;subst hy
   exact yZ pins s σ H _ _ v u Q I rx ry ⟨_,rfl,by rw[hx.blB];exact w.here rh (R_bl.mpr rfl)⟩
  ·exact w.elim
 | Lt =>
  simp only at w
  split at w
  ·rw[R_int] at hx hy;subst hx hy
   exact Ij pins s σ H _ _ v u Q I rx ry ⟨_,_,rfl,rfl,w.here rh (R_bl.mpr rfl)⟩
  ·exact w.elim
 | LtE =>
  simp only at w
  split at w
  ·rw[R_int] at hx hy;subst hx hy
   exact HE pins s σ H _ _ v u Q I rx ry ⟨_,_,rfl,rfl,w.here rh (R_bl.mpr rfl)⟩
  ·exact w.elim
 | Gt =>
  simp only at w
  split at w
  ·rw[R_int] at hx hy;subst hx hy
   exact HD pins s σ H _ _ v u Q I rx ry ⟨_,_,rfl,rfl,w.here rh (R_bl.mpr rfl)⟩
  ·exact w.elim
 | GtE =>
  simp only at w
  split at w
  ·rw[R_int] at hx hy;subst hx hy
   exact HF pins s σ H _ _ v u Q I rx ry ⟨_,_,rfl,rfl,w.here rh (R_bl.mpr rfl)⟩
  ·exact w.elim
 | In =>
  simp only at w
  split at w
  ·rw[R_str] at hx hy;subst hx hy
   exact zM pins s σ H _ _ v u Q I rx ry ⟨_,_,rfl,rfl,w.here rh (R_bl.mpr rfl)⟩
  ·rw[R_int] at hx;subst hx
   obtain⟨ns,rfl,w⟩:=w
   obtain⟨a,ys,rfl,g,r⟩:=R_tup.mp hy
   obtain rfl:=nK r
   refine qQ pins s σ H _ _ v u Q I rx ry ⟨a,_,rfl,.inr g,rfl,mh,?_⟩
   rw[MJ MF,r9]
   exact w.here rh (R_bl.mpr rfl)
  ·rw[R_str] at hx;subst hx
   obtain⟨ns,rfl,w⟩:=w
   obtain⟨a,ys,rfl,g,r⟩:=R_tup.mp hy
   obtain rfl:=sL r
   refine qQ pins s σ H _ _ v u Q I rx ry ⟨a,_,rfl,.inr g,rfl,lh,?_⟩
   rw[MJ MF,sZ]
   exact w.here rh (R_bl.mpr rfl)
  ·exact False.elim w
  ·exact w.elim
 | NotIn =>
  simp only at w
  split at w
  ·rw[R_int] at hx;subst hx
   obtain⟨ns,rfl,w⟩:=w
   obtain⟨a,ys,rfl,g,r⟩:=R_tup.mp hy
   obtain rfl:=nK r
   refine kz pins s σ H _ _ v u Q I rx ry ⟨a,_,rfl,.inr g,rfl,mh,?_⟩
   rw[ML rfl,r9]
   exact w.here rh (R_bl.mpr rfl)
  ·rw[R_str] at hx;subst hx
   obtain⟨ns,rfl,w⟩:=w
   obtain⟨a,ys,rfl,g,r⟩:=R_tup.mp hy
   obtain rfl:=sL r
   refine kz pins s σ H _ _ v u Q I rx ry ⟨a,_,rfl,.inr g,rfl,lh,?_⟩
   rw[ML rfl,sZ]
   exact w.here rh (R_bl.mpr rfl)
  ·exact False.elim w
  ·exact w.elim
theorem Ei (hu:X.A.units+64<cLine):IxR X (D7 X.K ixW):=by
 intro value slice pins s σ H x' y' v u Q I rx ry h hs
 obtain⟨m,st,x,y,rh,hx,hy,w⟩:=h
 cases y with
 | int i =>
  rw[R_int] at hy;subst hy
  rcases xM w with⟨z,c,rfl,h1,h2,w⟩|⟨xs,z,h1,h2,w⟩
  ·rw[R_str] at hx;subst hx
   exact E5 value slice pins s σ H _ _ v u Q I rx ry ⟨_,_,c,rfl,rfl,eO h1,h2,w.here rh (R_str.mpr rfl)⟩ hs
  obtain⟨a,ys,rfl,g,r⟩:=kO rh hx h1
  obtain⟨y,e,ry'⟩:=r.atI h2
  rcases g with g|g
  ·exact CJ value slice pins s σ H _ _ v u Q I rx ry ⟨a,ys,_,y,rfl,rfl,g,e,w.here rh ry'⟩ hs
  ·exact EQ value slice pins s σ H _ _ v u Q I rx ry ⟨a,ys,_,y,rfl,rfl,g,e,w.here rh ry'⟩ hs
 | str z=>exact False.elim w
 | _=>exact w.elim
theorem jq {prog:Program}{w:World}{A:Around}{E:Value->Shared->Prop}{s:Shared}{t sl:Addr}{items:Array Value}{vl vu:Value}{lo hi:Option Int}{Q:Value->Shared->Prop}(ht:IsTup s.heap t items)(hs:s.heap.IsSliceOf sl vl vu .none)(pl:IsPart vl lo)(pu:IsPart vu hi)
  (hw:HT.sIx items.size 0 lo=0/\HT.sIx items.size items.size hi=items.size) (h:Q (.ref t) s):wpAny (model prog w) A (getItem (.ref t) (.ref sl)) Q E s:=by
 obtain⟨os,hos,hcs,hds⟩:=id hs
 have hTs:s.TypeIs (.ref sl) "slice":=⟨os,hos,hcs⟩
 unfold getItem
 try with_reducible refine N2 ?_
 first|refine MB (ME ?_)|skip
 refine MB (wpAny_sequenceKey ht.typeIs (by decide) ?_)
 refine MB (wpAny_callSpecial?_slot (name:=Str.ofString "__getitem__") ht.typeIs OF
  (wpAny_call_entry OF ht.typeIs entry_tuple_getitem ?_ (args_tuple_getitem _ _)))
 show wpAny _ _ (Builtin.Tuple.tupleItemsOf (.ref t) >>= _) _ _ s
 refine MB (tupleItemsOf_ ht ?_)
 refine MB (wpAny_typeOf hTs ?_)
 rw[ML (by decide)]
 refine MB (HT.sliceApplied_gen hs pl pu ?_)
 have hyes:((((HT.sIx items.size 0 lo:Nat):Int) == 0 && (1:Int) == 1 && (HT.sIx items.size items.size hi-HT.sIx items.size 0 lo) == items.size)=true):=by
  rw[hw.1,hw.2]
  simp
 show wpAny _ _ (if (((HT.sIx items.size 0 lo:Nat):Int) == 0 && (1:Int) == 1 && (HT.sIx items.size items.size hi-HT.sIx items.size 0 lo) == items.size)=true then _ else _) _ _ s
 rw[ML hyes]
 unfold Builtin.Tuple.tupleIsExact
 refine MB (MB (wpAny_typeOf ht.typeIs (ME ?_)))
 rw[ML (by simp)]
 exact MB (wpAny_rule (ME ⟨_,rfl,ME h⟩))
noncomputable def Hl (K:W.Frag):V->Option Int->Option Int->Hp->VK->Prop:=fun x' lo hi H Q=>∃m st x,RH K m H st/\R K m H x x'/\slW x lo hi st (post K m H Q)
theorem v7 {ys:List V}{lo hi:Option Int}(h:HT.sIx ys.length 0 lo=0/\HT.sIx ys.length ys.length hi=ys.length):pR ys lo hi=ys:=by
 unfold pR
 rw[h.1,h.2,QM,Nat.sub_zero,N7]
theorem xE {v:Value}{p:Option Int}(h:IsPart v p):∃q:Option (Int × Tok),v=partValue q/\q.map (·.1)=p:=by
 cases h with
 | none=>exact⟨none,rfl,rfl⟩
 | int i t=>exact⟨some (i,t),rfl,rfl⟩
theorem DU {z:Str}{t:Tok}{l u:Option (Int × Tok)}{lo hi:Option Int}{Q:Value->Shared->Prop}{s:Shared}(e:(l.map (·.1),u.map (·.1))=(lo,hi))(h1:z.length<=100000)(h:∀tk t',Q (.str (DJ z lo hi) t') { s with toks:=tk }):(sliceMade z t l u none).post Q s:=by
 cases e
 unfold sliceMade
 have h:∀tk t',Q (.str (if ((slicePicked z l u none).length == z.length)=true then z else ⟨((slicePicked z l u none).filterMap (z.cps[·]?)).toArray⟩) t') { s with toks:=tk }:=h
 cases q:((slicePicked z l u none).length == z.length) with
 | true =>
  rw[q] at h
  exact h s.toks t
 | false =>
  rw[q] at h
  refine⟨?_,h _ _⟩
  show ((slicePicked z l u none).filterMap (z.cps[·]?)).toArray.size<=sizeLine
  rw[MY]
  refine NI (PP _ _) (NI ?_ (eO h1))
  refine sliceRange_length_le _ _ _ _ (fun _=>?_) fun z=>absurd (show (1:Int) > 0 by decide) z
  cases l <;> cases u <;> constructor <;> simp only[Option.map,Option.getD,show (1:Int) > 0 by decide,if_true] <;> first|omega|(split <;> omega)
theorem Hg:SlR X (Hl X.K):=by
 intro pins s σ H x' v vl vu lo hi sl Q I rx hs pl pu h
 obtain⟨m,st,x,rh,hx,w⟩:=h
 unfold slW at w
 split at w
 ·rename_i z
  rw[R_str] at hx
  subst hx
  obtain⟨t,rfl⟩:=rx
  obtain⟨h1,w⟩:=w
  obtain⟨l,el,pl'⟩:=xE pl
  obtain⟨u,eu,pu'⟩:=xE pu
  subst el eu
  refine ⟨"str",_,PyProof.Rows.slot_str_getitem.lookup,typeIs_str _ _ _,?_⟩
  refine wpAny_getItem_str_slice (l:=l) (u:=u) (st:=none) hs rfl (DU ?_ h1 fun tk t'=>⟨.str (DJ z lo hi),H,I.tok tk,⟨t',rfl⟩,w.here rh (R_str.mpr rfl)⟩)
  rw[pl',pu']
 ·rw[R_tup] at hx
  obtain⟨a,ys,rfl,g,r⟩:=hx
  by_cases hw:HT.sIx ys.length 0 lo=0/\HT.sIx ys.length ys.length hi=ys.length
  ·cases rx
   obtain⟨its,r',ht,hz⟩:=I.tuple g
   have hlen:its.toArray.size=ys.length:=by rw[MY];exact r'.length.symm
   refine ⟨"tuple",_,PyProof.Rows.slot_tuple_getitem.lookup,ht.typeIs,jq ht hs pl pu (by rw [hlen];exact hw) ?_⟩
   refine⟨.ref a,H,I,rfl,w.here rh (R_tup.mpr ⟨a,ys,rfl,g,?_⟩)⟩
   have:=r.cut lo hi
   rw[v7 hw] at this
   exact this
  ·exact Fe pins s σ H _ v vl vu lo hi sl Q I rx hs pl pu ⟨a,ys,rfl,g,hw,fun p hp=>w.newT rh (r.cut lo hi) hp⟩
 ·obtain⟨xs,h1,w⟩:=w
  obtain⟨a,ys,rfl,g,r⟩:=ei rh hx h1
  exact Dg pins s σ H _ v vl vu lo hi sl Q I rx hs pl pu ⟨a,ys,rfl,g,fun p hp=>w.newL rh (r.cut lo hi) hp⟩
theorem Rs.one' {K:W.Frag}{m:List Addr}{H:Hp}{x:PV}{ys:List V}(h:Rs K m H [x] ys):∃y,ys=[y]/\R K m H x y:=by
 rw[aQ] at h
 obtain⟨y,r,rfl,h1,h2⟩:=h
 rw[Rs_nil] at h2
 subst h2
 exact⟨y,rfl,h1⟩
theorem Rs.two' {K:W.Frag}{m:List Addr}{H:Hp}{x z:PV}{ys:List V}(h:Rs K m H [x,z] ys):∃y u,ys=[y,u]/\R K m H x y/\R K m H z u:=by
 rw[aQ] at h
 obtain⟨y,r,rfl,h1,h2⟩:=h
 obtain⟨u,rfl,h3⟩:=h2.one'
 exact⟨y,u,rfl,h1,h3⟩
theorem qx {K:W.Frag}{m:List Addr}{H:Hp}:∀ {xs:List PV}{bs:List Bool}{ys:List V}{us:List Value},ie xs=some bs->Rs K m H xs ys->Vals ys us->LSm.BoolsAre us bs
 | [],bs,ys,us,e,h,r=>by
  rw[Rs_nil] at h;subst h
  cases r
  cases e
  exact .nil
 | x::xs,bs,ys,us,e,h,r=>by
  rw[aQ] at h
  obtain⟨y,q,rfl,h1,h2⟩:=h
  cases x with
  | bl b =>
   cases r with
   | cons r1 r2 =>
    rw[R_bl] at h1
    subst h1
    cases r1
    unfold ie at e
    cases z:ie xs with
    | none=>rw[z] at e;cases e
    | some bs' =>
     rw[z] at e
     cases e
     exact .cons b (qx z h2 r2)
  | _=>cases e
theorem yr {l:Addr}{vs:List Value}{bs:List Bool}{P:Program}{w:World}{A:Around}{E:Value->Shared->Prop}{s:Shared}{Q:Value->Shared->Prop}(hh:A.handled=none)(hl:s.heap.IsList l vs.toArray)(hb:LSm.BoolsAre vs bs)
  (h:∀h' tk,(∀b x,s.heap.get? b=some x->h'.get? b=some x)->Q (.bool (bs.all id)) { s with heap:=h',toks:=tk }):wpAny (model P w) A (call (.builtin "all") [.ref l]) Q E s:=by
 have hlt:l<s.heap.objs.size:=by obtain⟨_,e,_⟩:=hl;exact MU e
 refine call_all_walk (wpAny_pyIter_list hl ?_)
 refine⟨s.heap.objs.size,[s.heap.objs.size,l],[s.heap.objs.size],vs.toArray.size,_,_,fun i=>(bs[i]?).getD true,rfl,Walks.list (A:=A.in1) hh _ l (M2 hlt) vs.toArray,
  ⟨⟨_,MX _ rfl,rfl,rfl⟩,hl.push _⟩,fun i v s' Q' E' hP hQ=>?_,fun h' tk hk=>?_⟩
 ·obtain⟨b,e,rfl⟩:=hb.get i v (by simpa using hP)
  simp only[e,Option.getD_some] at hQ
  exact wpAny_truthy_bool hQ
 ·have e:((List.range vs.toArray.size).all fun i=>(bs[i]?).getD true)=bs.all id:=by
   rw[MY,hb.length];exact LSm.range_all bs
  rw[e]
  exact h h' tk (LSm.kept_iter hk)
noncomputable def HP:B->Value
 | .len=>.builtin "len"
 | .max2=>.builtin "max"
 | .min2=>.builtin "min"
 | .divmod=>.builtin "divmod"
 | .int1=>.type "int"
 | .str1=>.type "str"
 | .tuple1=>.type "tuple"
 | .list1=>.type "list"
 | .all1=>.builtin "all"
 | .any1=>.builtin "any"
 | .abs1=>.builtin "abs"
 | .sorted1=>.builtin "sorted"
 | .repr1=>.builtin "repr"
 | .sortS=>.builtin "sorted"
 | .max1=>.builtin "max"
 | .sortD=>.builtin "sorted"
theorem u_ {K:W.Frag}{m:List Addr}{H:Hp}:∀ {ns:List Int}{ys:List V}{us:List Value},Rs K m H (ns.map PV.int) ys->Vals ys us->IntsAre us ns
 | [],ys,us,h,r=>by
  rw[OH,Rs_nil] at h;subst h
  cases r
  exact .nil
 | n::ns,ys,us,h,r=>by
  rw[M7,aQ] at h
  obtain⟨y,q,rfl,h1,h2⟩:=h
  rw[R_int] at h1
  subst h1
  cases r with
  | cons r1 r2 =>
   obtain⟨t,rfl⟩:=r1
   exact .cons n t (u_ h2 r2)
theorem rB:∀ {us:List Value}{ns:List Int},IntsAre us ns->Vals (ns.map V.int) us
 | _,_,.nil=>.nil
 | _,_,.cons n t r=>.cons ⟨t,rfl⟩ (rB r)
theorem zV {K:W.Frag}{m:List Addr}{H:Hp}:∀ {ns:List Int},Rs K m H (ns.map PV.int) (ns.map V.int)
 | []=>by rw[OH,OH,Rs_nil]
 | n::ns=>by rw[M7,M7,Rs_cons',R_int];exact⟨rfl,zV⟩
theorem yJ {pins:List (Addr × Obj)}{s:Shared}{σ:L2.St}{H:Hp}{p:Addr}{its:List Value}{ns:List Int}{Q:VK}(I:L2.Inv X pins σ H s)(hc:X.calm=true)(hl:s.heap.IsList p its.toArray)(hi:IntsAre its ns)(hne:0<ns.length)
  (q:∀i,i∈ns->(∀j,j∈ns->j<=i)->Q (.int i) H):wpAny (model X.prog X.w) X.A (call (.builtin "max") [.ref p]) (EP X pins σ Q) X.xe s:=by
 obtain⟨xs,e⟩:=hi.allInts.items
 have hns:ns=xs.toList.map (·.1):=by rw[<-hi.numsOf,<-nums_intItems,<-e]
 have hsz:0<xs.size:=by
  have h3:=hne;rw[hns,MS,M9] at h3;exact h3
 rw[e] at hl
 refine max_intList (I.ok.hd hc) hl hsz fun v h' tk hv hk=>?_
 obtain⟨t,rfl⟩:=intItems_at hv
 obtain⟨h1,h2⟩:=argBest_gt (numAt xs) (xs.size-1)
 refine⟨.int _,H,I.kept (t':=tk) hk,⟨t,rfl⟩,q _ ?_ fun j hj=>?_⟩
 ·rw[hns,numAt_eq];exact getD_mem (by rw[MS,M9];omega)
 ·rw[hns] at hj
  obtain⟨k,hk2,rfl⟩:=mem_getD hj
  rw[MS,M9] at hk2
  rw[<-numAt_eq];exact h2 k (by omega)
theorem E9 (hc:X.calm=true)(hgd:X.A.guards=some [])(hun:X.A.units+64<cLine)(b:B):eW X (HP b) (GP X.K (e6 b)):=by
 intro pins s σ H xs' us Q I r h
 obtain⟨m,st,xs,rh,hx,w⟩:=h
 cases b with
 | len =>
  obtain⟨x0,rfl,w⟩:=ba w
  obtain⟨y,rfl,hy⟩:=hx.one'
  rcases va w with⟨z,rfl,h1,w⟩|⟨ys,h1,w⟩
  ·rw[R_str] at hy;subst hy
   exact sg pins s σ H _ us Q I r ⟨_,rfl,eO h1,w.here rh (R_int.mpr rfl)⟩
  obtain⟨a,zs,rfl,g,rz⟩:=kO rh hy h1
  refine sj pins s σ H _ us Q I r ⟨a,zs,rfl,g,?_⟩
  have:=w.here rh (x:=V.int ys.length) (R_int.mpr rfl)
  rw[rz.len] at this
  exact this
 | max2 =>
  obtain⟨x0,y0,rfl,w⟩:=dB w
  obtain⟨i,j,rfl,rfl,w⟩:=bL w
  obtain⟨y,u,rfl,hy,hu⟩:=hx.two'
  rw[R_int] at hy hu;subst hy hu
  exact yO hc pins s σ H _ us Q I r ⟨_,_,rfl,w.here rh (R_int.mpr rfl)⟩
 | min2 =>
  obtain⟨x0,y0,rfl,w⟩:=dB w
  obtain⟨i,j,rfl,rfl,w⟩:=bL w
  obtain⟨y,u,rfl,hy,hu⟩:=hx.two'
  rw[R_int] at hy hu;subst hy hu
  exact yD hc pins s σ H _ us Q I r ⟨_,_,rfl,w.here rh (R_int.mpr rfl)⟩
 | divmod =>
  obtain⟨x0,y0,rfl,w⟩:=dB w
  obtain⟨i,j,rfl,rfl,w⟩:=bL w
  obtain⟨y,u,rfl,hy,hu⟩:=hx.two'
  rw[R_int] at hy hu;subst hy hu
  refine rN pins s σ H _ us Q I r ⟨_,_,rfl,w.1,fun p hp=>w.2.newT rh ?_ hp⟩
  rw[Rs_cons',Rs_cons',Rs_nil,R_int,R_int]
  exact⟨rfl,rfl,rfl⟩
 | int1=>exact False.elim w
 | str1=>exact False.elim w
 | tuple1 =>
  obtain⟨x0,rfl,w⟩:=ba w
  obtain⟨ys,h1,w⟩:=w
  obtain⟨y,rfl,hy⟩:=hx.one'
  obtain⟨a,zs,rfl,g,rz⟩:=kO rh hy h1
  refine pU pins s σ H _ us Q I r ⟨a,zs,rfl,?_⟩
  rcases g with g|g
  ·exact .inl ⟨g,fun p hp=>w.newT rh rz hp⟩
  ·exact .inr ⟨g,w.here rh (R_tup.mpr ⟨a,zs,rfl,g,rz⟩)⟩
 | list1=>exact False.elim w
 | all1 =>
  obtain⟨x0,rfl,w⟩:=ba w
  obtain⟨ys,bs,h1,h2,w⟩:=w
  obtain⟨y,rfl,hy⟩:=hx.one'
  obtain⟨a,zs,rfl,g,rz⟩:=ei rh hy h1
  obtain⟨u,rfl,ru⟩:=j9 r
  cases ru
  obtain⟨its,ri,pl,_⟩:=I.list g
  exact yr (I.ok.hd hc) pl.isList (qx h2 rz ri) fun h' tk k=>⟨.bl _,H,I.kept k,rfl,w.here rh (R_bl.mpr rfl)⟩
 | any1=>exact False.elim w
 | abs1 =>
  obtain⟨x0,rfl,w⟩:=ba w
  obtain⟨i,rfl,w⟩:=nN w
  obtain⟨y,rfl,hy⟩:=hx.one'
  rw[R_int] at hy;subst hy
  refine Ci pins s σ H _ us Q I r ⟨_,rfl,?_⟩
  have:=w.here rh (R_int.mpr rfl)
  have e:(if i<0 then -i else i)=(i.natAbs:Int):=by split <;> omega
  rw[e]
  exact this
 | sorted1=>exact False.elim w
 | sortS=>exact False.elim w
 | sortD=>exact False.elim w
 | max1 =>
  obtain⟨x0,rfl,w⟩:=ba w
  obtain⟨ns,h1,h2,w⟩:=w
  obtain⟨y,rfl,hy⟩:=hx.one'
  obtain⟨a,zs,rfl,g,rz⟩:=ei rh hy h1
  obtain⟨u,rfl,ru⟩:=j9 r
  cases ru
  obtain⟨its,ri,pl,_⟩:=I.list g
  exact yJ I hc pl.isList (u_ rz ri) h2 fun i p1 p2=>(w i p1 p2).here rh (R_int.mpr rfl)
 | repr1=>exact False.elim w
theorem zo {st:AH}{x:PV}{n:String}(h:bS st x=some n):n∈["NoneType","bool","int","str","list","tuple","dict"]:=by
 cases x with
 | ref k =>
  unfold bS at h
  simp only at h
  split at h <;> cases h <;> decide
 | _=>cases h <;> decide
theorem C7 {pins:List (Addr × Obj)}{s:Shared}{σ:L2.St}{H:Hp}{A:Around}{E:Value->Shared->Prop}{K:W.Frag}{m:List Addr}{st:AH}{x:PV}{x':V}{u:Value}{n c:String}{Q:Value->Shared->Prop}(I:Inv X pins σ H s)(rh:RH X.K m H st)(hx:R X.K m H x x')
  (ru:RelV x' u) (hk:bS st x=some n) (hc:c∈["int","bool","str","tuple","list","dict"]) (h:∀tk,Q (.bool (cK c n)) { s with toks:=tk }) :
  wpAny (model X.prog X.w) A (call (.builtin "isinstance") [u,.type c]) Q E s:=by
 have e:=A7 X.K c hc n (zo hk)
 cases x with
 | non=>cases hk;rw[R_non] at hx;subst hx;exact eh I ru .non e h
 | bl b=>cases hk;rw[R_bl] at hx;subst hx;exact eh I ru (.bl b) e h
 | fn b=>cases hk
 | int b=>cases hk;rw[R_int] at hx;subst hx;exact eh I ru (.int b) e h
 | str b=>cases hk;rw[R_str] at hx;subst hx;exact eh I ru (.str b) e h
 | tup xs =>
  cases hk
  rw[R_tup] at hx
  obtain⟨a,ys,rfl,g,r⟩:=hx
  cases ru
  obtain⟨its,_,⟨o,ho,hcl,_⟩,_⟩:=I.tuple g
  exact OR W.kitx_tuple I.kIn ⟨o,ho,hcl⟩ e (fun z=>nomatch z) h
 | rdl xs =>
  cases hk
  rw[fj] at hx
  obtain⟨a,ys,rfl,g,r⟩:=hx
  cases ru
  obtain⟨its,_,pl,_⟩:=I.list g.sq
  obtain⟨o,ho,hcl,_⟩:=pl.isList
  exact OR Q9 I.kIn ⟨o,ho,hcl⟩ e (fun z=>nomatch z) h
 | ref k =>
  unfold bS at hk
  simp only at hk
  split at hk
  ·cases hk
   rename_i q
   obtain⟨a,ys,rfl,_,h1,h2⟩:=rh.lst q hx
   exact eh I ru (.lst h1) e h
  ·cases hk
   rename_i kvs q
   rw[iG] at hx
   obtain⟨a,e1,rfl⟩:=hx
   obtain⟨ys,h1,_⟩:=rh.at_ k _ a q e1
   exact eh I ru (.dK h1) e h
  ·cases hk
   rename_i kvs q
   rw[iG] at hx
   obtain⟨a,e1,rfl⟩:=hx
   obtain⟨o,ys,h1,_⟩:=rh.at_ k _ a q e1
   cases ru
   obtain⟨ho,_,_,vs,_,o',_,_,ho',hcl,_⟩:=I.hok a _ h1
   exact OR Q_ I.kIn ⟨o',ho',hcl.1⟩ e (fun z=>nomatch z) h
  ·cases hk
noncomputable def xr:M->String
 | .append=>"list.append"
 | .pop0=>"list.pop"
 | .extend=>"list.extend"
 | .insert=>"list.insert"
 | .count=>"list.count"
 | .index=>"list.index"
noncomputable def Dy:V->List V->Hp->VK->Prop:=fun x vs H Q=>∃(l:Addr) (xs:List V) (i:Int) (y:V),x=.ref l/\vs=[.int i,y]/\H l=some (.lst xs)/\0<=i/\i<=xs.length/\xs.length<100000/\Q .non (upd H l (.lst (xs.take i.toNat++y::xs.drop i.toNat)))
theorem yR:MtR X "list.insert" Dy:=by
 intro pins s σ H x vs v us Q I rx rv h
 obtain⟨l,xs,i,y,rfl,rfl,hH,hk0,hk,hz,q⟩:=h
 cases rx
 cases rv with
 | cons r1 rr =>
 obtain⟨u,rfl,ru⟩:=j9 rr
 obtain⟨t,rfl⟩:=r1
 obtain⟨z,its,n,r,hl,e⟩:=I.lstM hH
 have hlen:=r.length
 have hzz:=nE hz
 have fit:¬(!Builtin.List.listFitsIndex i)=true:=by
  simp[Builtin.List.listFitsIndex]
  omega
 have M:=PySem.AutoSeq1.list_insert_list_int_val_1 l its.toArray n i t u fit (by rw[MY];omega)
 refine call_meets PySem.F.slot_list_insert ⟨_,e,rfl⟩ PySem.F.entry_list_insert (PySem.F.args_list_insert_3 _ _ _) M ⟨e,?_⟩
 refine⟨.non,_,I.lset (its':=its.take i.toNat++u::its.drop i.toNat) hH e ?_ ?_ ?_,rfl,q⟩
 ·have e0:¬(i<0):=by exact Int.not_lt.mpr ‹_›
  have e1:min i.toNat its.length=i.toNat:=by omega
  simp only[List.size_toArray,e0,if_false,e1]
  apply Array.ext'
  simp
  exact P5 (by simp)
 ·exact(r.take _).append (.cons ru (r.drop _))
 ·simp;omega
noncomputable def HZ (K:W.Frag)(w:PV->List PV->AH->EK->Prop):V->List V->Hp->VK->Prop:=fun x' xs' H Q=>∃m st x xs,RH K m H st/\R K m H x x'/\Rs K m H xs xs'/\w x xs st (post K m H Q)
theorem Fs (c:M):MtR X (xr c) (HZ X.K (sx c)):=by
 intro pins s σ H x' vs' v us Q I rx rv h
 obtain⟨m,st,x,vs,rh,hx,hv,w⟩:=h
 cases c with
 | append =>
  obtain⟨n0,rfl,w⟩:=ff w
  obtain⟨x0,rfl,w⟩:=ba w
  obtain⟨xs,h1,h2,w⟩:=w
  obtain⟨a,ys,rfl,e,g,r⟩:=rh.lst h1 hx
  obtain⟨y,rfl,hy⟩:=hv.one'
  exact qK pins s σ H _ _ v us Q I rx rv ⟨a,ys,y,rfl,rfl,g,by rw[<-r.len];exact nE h2,w.setL rh e (nfL g) (r.app (.one hy)) (R_non.mpr rfl)⟩
 | pop0=>exact False.elim w
 | index=>exact False.elim w
 | count=>exact False.elim w
 | extend =>
  obtain⟨n0,rfl,w⟩:=ff w
  obtain⟨x0,rfl,w⟩:=ba w
  obtain⟨k0,rfl,w⟩:=ff w
  obtain⟨xs,zs,h1,h2,h3,w⟩:=w
  obtain⟨a,ys,rfl,e,g,r⟩:=rh.lst h1 hx
  obtain⟨y,rfl,hy⟩:=hv.one'
  obtain⟨b,ys2,rfl,e2,g2,r2⟩:=rh.lst h2 hy
  exact zu pins s σ H _ _ v us Q I rx rv ⟨a,b,ys,ys2,rfl,rfl,g,g2,by rw[<-r.len,<-r2.len];exact eO h3,w.setL rh e (nfL g) (r.app r2) (R_non.mpr rfl)⟩
 | insert =>
  obtain⟨n0,rfl,w⟩:=ff w
  obtain⟨i0,z,rfl,w⟩:=dB w
  obtain⟨i,rfl,w⟩:=nN w
  obtain⟨xs,h1,h2,i0,i1,w⟩:=w
  obtain⟨a,ys,rfl,e,g,r⟩:=rh.lst h1 hx
  obtain⟨y1,y2,rfl,hy1,hy2⟩:∃y1 y2,vs'=[y1,y2]/\R X.K m H (.int i) y1/\R X.K m H z y2:=by
   rw[aQ] at hv
   obtain⟨y1,t,rfl,q1,hv⟩:=hv
   obtain⟨y2,rfl,h2⟩:=hv.one'
   exact⟨y1,y2,rfl,q1,h2⟩
  rw[R_int] at hy1
  subst hy1
  exact yR pins s σ H _ _ v us Q I rx rv ⟨a,ys,i,y2,rfl,rfl,g,i0,by rw[<-r.len];assumption,by rw[<-r.len];assumption,w.setL rh e (nfL g) ((r.take _).app (Rs_cons'.mpr ⟨hy2,r.drop _⟩)) (R_non.mpr rfl)⟩
noncomputable def Jm (K:W.Frag):V->V->V->Hp->(Hp->Prop)->Prop:=fun o' i' v' H Q=>∃m st o i v,RH K m H st/\R K m H o o'/\R K m H i i'/\R K m H v v'/\uK o i v st fun st'=>∀H',Ext K m H m H'->RH K m H' st'->Q H'
theorem FG (hu:X.A.units+64<cLine):EX X (Jm X.K):=by
 intro pins s σ H o' i' v' ov iv u Q I ro ri rv h
 obtain⟨m,st,o,i,v,rh,ho,hi,hv,w⟩:=h
 unfold uK at w
 split at w
 ·obtain⟨xs,h1,q,h2,w⟩:=w
  obtain⟨a,ys,rfl,e,g,r⟩:=rh.lst h1 ho
  rw[R_int] at hi;subst hi
  exact Bg pins s σ H _ _ _ ov iv u Q I ro ri rv ⟨a,ys,_,q,rfl,rfl,g,by rw[<-r.len];exact h2,w _ (Ext.set (ys:=ys) rh e (nfL g)) (rh.setL e (nfL g) (r.set hv q))⟩
 ·exact w.elim
noncomputable def Kd (K:W.Frag):V->Hp->(Bool->Hp->Prop)->Prop:=fun x' H Q=>∃m st x,RH K m H st/\R K m H x x'/\fE x st (postB K m H Q)
theorem vi:∀ {x':V}{H:Hp}{Q:Bool->Hp->Prop},Kd X.K x' H Q->∃k,Fq X.K x' H k/\Q k H:=by
 intro x' H Q h
 obtain⟨m,st,x,rh,hx,w⟩:=h
 unfold fE at w
 split at w
 ·rw[R_bl] at hx;subst hx;exact⟨_,rfl,w m H (Ext.refl _ _ _) rh⟩
 ·rw[R_non] at hx;subst hx;exact⟨_,rfl,w m H (Ext.refl _ _ _) rh⟩
 ·rw[R_int] at hx;subst hx;exact⟨_,rfl,w m H (Ext.refl _ _ _) rh⟩
 ·exact w.elim
 ·obtain⟨xs,h1,w⟩:=w
  obtain⟨a,ys,rfl,g,r⟩:=kO rh hx h1
  have e:(!xs.isEmpty)=!ys.isEmpty:=by
   have:=r.len
   cases xs <;> cases ys <;> first|rfl|(simp at this)
  refine⟨_,?_,w m H (Ext.refl _ _ _) rh⟩
  rw[e]
  rcases g with g|g
  ·exact .inl ⟨ys,g,rfl⟩
  ·exact .inr (.inl ⟨ys,g,rfl⟩)
theorem Fl (op:Operator):PIp X op (D7 X.K (qb op)):=by
 intro pins s σ H x' y' v u Q I rx ry h
 obtain⟨m,st,x,y,rh,hx,hy,w⟩:=h
 unfold qb at w
 split at w
 ·rw[R_int] at hx hy;subst hx hy
  exact EV pins s σ H _ _ v u Q I rx ry ⟨_,_,rfl,rfl,w.here rh (R_int.mpr rfl)⟩
 ·rw[R_int] at hx hy;subst hx hy
  exact Fk pins s σ H _ _ v u Q I rx ry ⟨_,_,rfl,rfl,w.here rh (R_int.mpr rfl)⟩
 ·obtain⟨xs,zs,h1,h2,h3,w⟩:=w
  obtain⟨a,ys,rfl,e,g,r⟩:=rh.lst h1 hx
  obtain⟨b,ys2,rfl,e2,g2,r2⟩:=rh.lst h2 hy
  exact Fv pins s σ H _ _ v u Q I rx ry ⟨a,b,ys,ys2,rfl,rfl,g,g2,by rw[<-r.len,<-r2.len];exact eO h3,w.setL rh e (nfL g) (r.app r2) hx⟩
 ·exact w.elim
end
end FW
namespace FW
open L2 HX
mutual
noncomputable def PV.same:PV->PV->Bool
 | .non,y=>match y with | .non=>true|_=>false
 | .bl a,y=>match y with | .bl b=>a == b|_=>false
 | .int a,y=>match y with | .int b=>a == b|_=>false
 | .str a,y=>match y with | .str b=>a == b|_=>false
 | .tup xs,y=>match y with | .tup ys=>PV.sames xs ys|_=>false
 | .ref a,y=>match y with | .ref b=>a == b|_=>false
 | .rdl xs,y=>match y with | .rdl ys=>PV.sames xs ys|_=>false
 | .fn a,y=>match y with | .fn b=>a == b|_=>false
noncomputable def PV.sames:List PV->List PV->Bool
 | [],y=>y.isEmpty
 | x::xs,y=>match y with|y::ys=>x.same y && PV.sames xs ys | []=>false
end
mutual
theorem PV.same_eq:∀ {x y:PV},x.same y=true->x=y
 | .non,y,h=>by cases y with|non=>rfl|_=>exact Bool.noConfusion (show false=true from h)
 | .bl a,y,h=>by cases y with|bl b=>rw[eq_of_beq (show (a == b)=true from h)] | _=>exact Bool.noConfusion (show false=true from h)
 | .int a,y,h=>by cases y with|int b=>rw[eq_of_beq (show (a == b)=true from h)] | _=>exact Bool.noConfusion (show false=true from h)
 | .str a,y,h=>by cases y with|str b=>rw[eq_of_beq (show (a == b)=true from h)] | _=>exact Bool.noConfusion (show false=true from h)
 | .ref a,y,h=>by cases y with|ref b=>rw[eq_of_beq (show (a == b)=true from h)] | _=>exact Bool.noConfusion (show false=true from h)
 | .tup xs,y,h=>by cases y with|tup ys=>rw[PV.sames_eq (show PV.sames xs ys=true from h)] | _=>exact Bool.noConfusion (show false=true from h)
 | .rdl xs,y,h=>by cases y with|rdl ys=>rw[PV.sames_eq (show PV.sames xs ys=true from h)] | _=>exact Bool.noConfusion (show false=true from h)
 | .fn a,y,h=>by cases y with|fn b=>rw[eq_of_beq (show (a == b)=true from h)] | _=>exact Bool.noConfusion (show false=true from h)
theorem PV.sames_eq:∀ {x y:List PV},PV.sames x y=true->x=y
 | [],y,h=>by cases y with|nil=>rfl|cons a b=>exact Bool.noConfusion (show false=true from h)
 | x::xs,y,h=>by
  cases y with
  | nil=>exact Bool.noConfusion (show false=true from h)
  | cons y ys =>
   have h:=(M3 _ _).mp (show (x.same y && PV.sames xs ys)=true from h)
   rw[PV.same_eq h.1,PV.sames_eq h.2]
end
structure Cfg where
 N:List Str
 names:List (Str × NameKind)
 fns:List Str
 lim:Nat
 blts:List Str
 gl:List (Str × PV)
 pc:Bool:=false
 hm:Option Nat:=none
noncomputable def Cfg.vis (c:Cfg)(x:Str):Bool:=(c.names.lookup x == some .local || c.names.lookup x == some .cell || c.names.lookup x == some .free) && !(x == ("__debug__":Str)) && !(x == ("__classdict__":Str))
noncomputable def Cfg.loc (c:Cfg)(x:Str):Bool:=c.names.lookup x == some .local || c.names.lookup x == some .cell
noncomputable def Cfg.glb (c:Cfg)(x:Str):Bool:=c.names.lookup x == some .globalImplicit && !(x == ("__debug__":Str)) && !(x == ("__name__":Str))
noncomputable def Cfg.blt (c:Cfg)(x:Str):Bool:=c.glb x && c.blts.contains x
noncomputable def Cfg.fn (c:Cfg)(f:Nat)(x:Str):Bool:=c.fns[f]? == some x && decide (f<c.lim) && c.glb x
noncomputable def nG:B->Str
 | .len=>"len"
 | .max2=>"max"
 | .min2=>"min"
 | .divmod=>"divmod"
 | .int1=>"int"
 | .str1=>"str"
 | .tuple1=>"tuple"
 | .list1=>"list"
 | .all1=>"all"
 | .any1=>"any"
 | .abs1=>"abs"
 | .sorted1=>"sorted"
 | .repr1=>"repr"
 | .sortS=>"sorted"
 | .max1=>"max"
 | .sortD=>"sorted"
noncomputable def rM:M->Str
 | .append=>"append"
 | .pop0=>"pop"
 | .extend=>"extend"
 | .insert=>"insert"
 | .count=>"count"
 | .index=>"index"
noncomputable def kinds:List String:=["int","bool","str","tuple","list","dict"]
noncomputable def n9:Expr->Bool
 | .ListComp ..=>false
 | .SetComp ..=>false
 | .DictComp ..=>false
 | _=>true
noncomputable def wo:Expr->Bool
 | .Name ..=>true
 | .Call ..=>true
 | .Subscript ..=>true
 | _=>false
mutual
noncomputable def Tg.low (n:Nat):Tg->Bool
 | .name i=>decide (i<n)
 | .tup ts=>Tgs.low n ts
 | .ltup ts=>Tgs.low n ts
 | .sub _ _=>false
noncomputable def Tgs.low (n:Nat):Tgs->Bool
 | .nil=>true
 | .cons t ts=>Tg.low n t && Tgs.low n ts
end
noncomputable def iJ:Expr->Bool
 | .Set ..=>false
 | _=>true
noncomputable def Cfg.inner (c:Cfg)(nt:List Str)(caps:List Nat)(sc:Scope):Cfg:={ c with N:=nt++caps.filterMap (c.N[·]?),names:=sc.names,pc:=false,hm:=none }
noncomputable def yS (k:Option NameKind):Bool:=k == some .cell || k == some .free
noncomputable def Cfg.block (c:Cfg)(nt:List Str)(caps:List Nat)(sc:Scope):Bool :=
 sc.kind == .function && sc.names.all (fun y=>!(y.2 == .cell)) && sc.names.all (fun y=>!(y.2 == .local) || sc.names.lookup y.1 == some .local) && sc.names.all (fun y=>!(y.2 == .free) || yS (c.names.lookup y.1))
  && caps.all (fun i=>decide (i<c.N.length)) && (caps.filterMap (c.N[·]?)).all (fun x=>sc.names.lookup x == some .free && yS (c.names.lookup x)) && decide (nt++caps.filterMap (c.N[·]?)).Nodup
noncomputable def B':It->Expr->Bool
 | .zip _ _,.Tuple ..=>true
 | .zip _ _,_=>false
 | .zip3 _ _ _,.Tuple ..=>true
 | .zip3 _ _ _,_=>false
 | .enum _,.Tuple ..=>true
 | .enum _,_=>false
 | .seq _,_ | .range1 _,_ | .range2 _ _,_ | .chars _,_ | .range3 _ _ _,_=>true
noncomputable def jM:Expr->Bool
 | .Name ..=>true
 | .List ..=>true
 | .Subscript ..=>true
 | .ListComp ..=>true
 | _=>false
noncomputable def aC (x:Expr)(f:Str->Pos->Bool):Bool:=match x with | .Name y p=>f y p|_=>false
theorem aj {x:Expr}{f:Str->Pos->Bool}(h:aC x f=true):∃y p,x=.Name y p/\f y p=true:=by
 cases x with|Name y p=>exact⟨y,p,rfl,h⟩|_=>exact Bool.noConfusion h
noncomputable def xv (x:Expr)(f:Int->Bool):Bool:=match x with | .Constant (.int j) _ _=>f j|_=>false
theorem xZ {x:Expr}{f:Int->Bool}(h:xv x f=true):∃j k p,x=.Constant (.int j) k p/\f j=true:=by
 cases x with
 | Constant v k p=>cases v with|int j=>exact⟨j,k,p,rfl,h⟩|_=>exact Bool.noConfusion h
 | _=>exact Bool.noConfusion h
noncomputable def GV (x:Expr)(f:Bool->Bool):Bool:=match x with | .Constant (.bool j) _ _=>f j|_=>false
theorem Cd {x:Expr}{f:Bool->Bool}(h:GV x f=true):∃j k p,x=.Constant (.bool j) k p/\f j=true:=by
 cases x with
 | Constant v k p=>cases v with|bool j=>exact⟨j,k,p,rfl,h⟩|_=>exact Bool.noConfusion h
 | _=>exact Bool.noConfusion h
noncomputable def vf (x:Expr)(f:Str->Bool):Bool:=match x with | .Constant (.str j) _ _=>f j|_=>false
theorem yW {x:Expr}{f:Str->Bool}(h:vf x f=true):∃j k p,x=.Constant (.str j) k p/\f j=true:=by
 cases x with
 | Constant v k p=>cases v with|str j=>exact⟨j,k,p,rfl,h⟩|_=>exact Bool.noConfusion h
 | _=>exact Bool.noConfusion h
noncomputable def Eh (x:Expr):Bool:=match x with | .Constant .none _ _=>true|_=>false
theorem yu {x:Expr}(h:Eh x=true):∃k p,x=.Constant .none k p:=by
 cases x with
 | Constant v k p=>cases v with|none=>exact⟨k,p,rfl⟩|_=>exact Bool.noConfusion h
 | _=>exact Bool.noConfusion h
noncomputable def fw (x:Expr)(f:List Expr->Bool):Bool:=match x with | .Tuple xs _ _=>f xs|_=>false
theorem br {x:Expr}{f:List Expr->Bool}(h:fw x f=true):∃xs k p,x=.Tuple xs k p/\f xs=true:=by
 cases x with|Tuple xs k p=>exact⟨xs,k,p,rfl,h⟩|_=>exact Bool.noConfusion h
noncomputable def Bv (x:Expr)(f:List Expr->Bool):Bool:=match x with | .List xs _=>f xs|_=>false
theorem vV {x:Expr}{f:List Expr->Bool}(h:Bv x f=true):∃xs p,x=.List xs p/\f xs=true:=by
 cases x with|List xs p=>exact⟨xs,p,rfl,h⟩|_=>exact Bool.noConfusion h
noncomputable def on1 {α:Type}(xs:List α)(f:α->Bool):Bool:=match xs with | [a]=>f a|_=>false
theorem dY {α:Type}{xs:List α}{f:α->Bool}(h:on1 xs f=true):∃a,xs=[a]/\f a=true:=by
 cases xs with
 | nil=>exact Bool.noConfusion h
 | cons a t=>cases t with|nil=>exact⟨a,rfl,h⟩|cons _ _=>exact Bool.noConfusion h
noncomputable def on2 {α:Type}(xs:List α)(f:α->α->Bool):Bool:=match xs with | [a,b]=>f a b|_=>false
theorem iY {α:Type}{xs:List α}{f:α->α->Bool}(h:on2 xs f=true):∃a b,xs=[a,b]/\f a b=true:=by
 cases xs with
 | nil=>exact Bool.noConfusion h
 | cons a t=>cases t with
  | nil=>exact Bool.noConfusion h
  | cons b t=>cases t with|nil=>exact⟨a,b,rfl,h⟩|cons _ _=>exact Bool.noConfusion h
noncomputable def on3 {α:Type}(xs:List α)(f:α->α->α->Bool):Bool:=match xs with | [a,b,c]=>f a b c|_=>false
theorem Dv {α:Type}{xs:List α}{f:α->α->α->Bool}(h:on3 xs f=true):∃a b c,xs=[a,b,c]/\f a b c=true:=by
 cases xs with
 | nil=>exact Bool.noConfusion h
 | cons a t=>cases t with
  | nil=>exact Bool.noConfusion h
  | cons b t=>cases t with
   | nil=>exact Bool.noConfusion h
   | cons c t=>cases t with|nil=>exact⟨a,b,c,rfl,h⟩|cons _ _=>exact Bool.noConfusion h
noncomputable def pB {α:Type}(xs:List α)(f:α->List α->Bool):Bool:=match xs with|a::t=>f a t | []=>false
theorem aI {α:Type}{xs:List α}{f:α->List α->Bool}(h:pB xs f=true):∃a t,xs=a::t/\f a t=true:=by
 cases xs with
 | nil=>exact Bool.noConfusion h
 | cons a t=>exact⟨a,t,rfl,h⟩
noncomputable def jF {α:Type}(x:Option α)(f:α->Bool):Bool:=match x with|some a=>f a|none=>false
theorem jN {α:Type}{x:Option α}{f:α->Bool}(h:jF x f=true):∃a,x=some a/\f a=true:=by
 cases x with
 | none=>exact Bool.noConfusion h
 | some a=>exact⟨a,rfl,h⟩
noncomputable def wa (x:Expr)(f:List (Option Expr)->List Expr->Bool):Bool:=match x with | .Dict ks vs _=>f ks vs|_=>false
noncomputable def Ef (x:Expr)(f:Expr->Operator->Expr->Bool):Bool:=match x with | .BinOp l o r _=>f l o r|_=>false
theorem yN {x:Expr}{f:Expr->Operator->Expr->Bool}(h:Ef x f=true):∃l o r p,x=.BinOp l o r p/\f l o r=true:=by
 cases x with|BinOp l o r p=>exact⟨l,o,r,p,rfl,h⟩|_=>exact Bool.noConfusion h
noncomputable def AD (x:Expr)(f:Expr->Bool):Bool:=match x with | .UnaryOp .USub y _=>f y|_=>false
theorem yn {x:Expr}{f:Expr->Bool}(h:AD x f=true):∃y p,x=.UnaryOp .USub y p/\f y=true:=by
 cases x with
 | UnaryOp o y p=>cases o with|USub=>exact⟨y,p,rfl,h⟩|_=>exact Bool.noConfusion h
 | _=>exact Bool.noConfusion h
noncomputable def Ay (x:Expr)(f:Expr->Bool):Bool:=match x with | .UnaryOp .Not y _=>f y|_=>false
theorem qv {x:Expr}{f:Expr->Bool}(h:Ay x f=true):∃y p,x=.UnaryOp .Not y p/\f y=true:=by
 cases x with
 | UnaryOp o y p=>cases o with|Not=>exact⟨y,p,rfl,h⟩|_=>exact Bool.noConfusion h
 | _=>exact Bool.noConfusion h
noncomputable def t4 (x:Expr)(f:Expr->CmpOp->Expr->Bool):Bool:=match x with | .Compare l os rs _=>on1 os fun o=>on1 rs fun r=>f l o r|_=>false
theorem qX {x:Expr}{f:Expr->CmpOp->Expr->Bool}(h:t4 x f=true):∃l o r p,x=.Compare l [o] [r] p/\f l o r=true:=by
 cases x with
 | Compare l os rs p =>
  obtain⟨o,rfl,h⟩:=dY h
  obtain⟨r,rfl,h⟩:=dY h
  exact⟨l,o,r,p,rfl,h⟩
 | _=>exact Bool.noConfusion h
noncomputable def BV (x:Expr)(f:PySem.BoolOp->List Expr->Bool):Bool:=match x with | .BoolOp o xs _=>f o xs|_=>false
theorem jg {x:Expr}{f:PySem.BoolOp->List Expr->Bool}(h:BV x f=true):∃o xs p,x=.BoolOp o xs p/\f o xs=true:=by
 cases x with|BoolOp o xs p=>exact⟨o,xs,p,rfl,h⟩|_=>exact Bool.noConfusion h
noncomputable def Et (x:Expr)(f:Expr->Expr->Expr->Bool):Bool:=match x with | .IfExp y l r _=>f y l r|_=>false
theorem zH {x:Expr}{f:Expr->Expr->Expr->Bool}(h:Et x f=true):∃y l r p,x=.IfExp y l r p/\f y l r=true:=by
 cases x with|IfExp y l r p=>exact⟨y,l,r,p,rfl,h⟩|_=>exact Bool.noConfusion h
noncomputable def qV (x:Expr)(f:Expr->Expr->Bool):Bool:=match x with | .Subscript l r _=>f l r|_=>false
theorem gi {x:Expr}{f:Expr->Expr->Bool}(h:qV x f=true):∃l r p,x=.Subscript l r p/\f l r=true:=by
 cases x with|Subscript l r p=>exact⟨l,r,p,rfl,h⟩|_=>exact Bool.noConfusion h
noncomputable def xo (x:Expr)(f:Option Expr->Option Expr->Bool):Bool:=match x with | .Slice u v none _=>f u v|_=>false
theorem tq {x:Expr}{f:Option Expr->Option Expr->Bool}(h:xo x f=true):∃u v p,x=.Slice u v none p/\f u v=true:=by
 cases x with
 | Slice u v w p=>cases w with|none=>exact⟨u,v,p,rfl,h⟩|some _=>exact Bool.noConfusion h
 | _=>exact Bool.noConfusion h
noncomputable def FO (x:Expr)(f:Expr->Bool):Bool:=match x with | .Slice none none (some z) _=>f z|_=>false
noncomputable def aR (x:Expr)(f:Expr->List Expr->Pos->Bool):Bool:=match x with | .Call g xs [] p=>f g xs p|_=>false
theorem aM {x:Expr}{f:Expr->List Expr->Pos->Bool}(h:aR x f=true):∃g xs p,x=.Call g xs [] p/\f g xs p=true:=by
 cases x with
 | Call g xs ks p=>cases ks with|nil=>exact⟨g,xs,p,rfl,h⟩|cons _ _=>exact Bool.noConfusion h
 | _=>exact Bool.noConfusion h
noncomputable def jH (x:Expr)(f:Expr->Str->Pos->Bool):Bool:=match x with | .Attribute y n p=>f y n p|_=>false
theorem v_ {x:Expr}{f:Expr->Str->Pos->Bool}(h:jH x f=true):∃y n p,x=.Attribute y n p/\f y n p=true:=by
 cases x with|Attribute y n p=>exact⟨y,n,p,rfl,h⟩|_=>exact Bool.noConfusion h
noncomputable def Aq (x:Expr)(f:Expr->List Comprehension->Scope->Pos->Bool):Bool:=match x with | .ListComp e gs sc p=>f e gs sc p|_=>false
theorem kE {x:Expr}{f:Expr->List Comprehension->Scope->Pos->Bool}(h:Aq x f=true):∃e gs sc p,x=.ListComp e gs sc p/\f e gs sc p=true:=by
 cases x with|ListComp e gs sc p=>exact⟨e,gs,sc,p,rfl,h⟩|_=>exact Bool.noConfusion h
noncomputable def FT (x:Expr)(f:Expr->Expr->List Comprehension->Scope->Pos->Bool):Bool:=match x with | .DictComp k v gs sc p=>f k v gs sc p|_=>false
theorem B8 {x:Expr}{f:Expr->Expr->List Comprehension->Scope->Pos->Bool}(h:FT x f=true):∃k v gs sc p,x=.DictComp k v gs sc p/\f k v gs sc p=true:=by
 cases x with|DictComp k v gs sc p=>exact⟨k,v,gs,sc,p,rfl,h⟩|_=>exact Bool.noConfusion h
noncomputable def Ft (wk:DW)(x:Expr)(f:Expr->Bool):Bool:=match wk with
 | .keys=>iJ x && f x
 | .items=>aR x fun g xs cp=>jH g fun y n ap=>n == ("items":Str) && ap.endLine == cp.line && xs.isEmpty && jM y && f y
noncomputable def FM:DW->Expr->Bool
 | .items,.Tuple ..=>true
 | .items,_=>false
 | .keys,_=>true
theorem yK {α:Type}{x:Option α}(h:x.isNone=true):x=none:=by
 cases x with|none=>rfl|some _=>exact Bool.noConfusion h
noncomputable def GR (x:Expr)(f:Arguments->Expr->Scope->Bool):Bool:=match x with | .Lambda a b sc _=>f a b sc|_=>false
noncomputable def Ii (x:Arguments)(f:Str->Bool):Bool:=x.posonlyargs.isEmpty && x.vararg.isNone && x.kwonlyargs.isEmpty && x.kw_defaults.isEmpty && x.kwarg.isNone && x.defaults.isEmpty && on1 x.args fun a=>f a.arg
noncomputable def Cfg.lam (c:Cfg)(k:Nat)(y:Str)(caps:List Nat)(sc:Scope):Cfg:={ c with N:=y::caps.filterMap (c.N[·]?),names:=sc.names,lim:=k,pc:=false,hm:=none }
noncomputable def Cfg.lamOk (c:Cfg)(k:Nat)(y:Str)(caps:List Nat)(sc:Scope):Bool :=
 sc.kind == .function && !sc.isCoroutine && !sc.isGenerator && sc.names.all (fun y=>!(y.2 == .cell)) && sc.names.lookup y == some .local && sc.names.all (fun y=>!(y.2 == .local) || sc.names.lookup y.1 == some .local) && sc.names.all (fun y=>!(y.2 == .free) || yS (c.names.lookup y.1))
  && decide (k+1<c.lim) && caps.all (fun i=>decide (i<c.N.length)) && (caps.filterMap (c.N[·]?)).all (fun x=>sc.names.lookup x == some .free && yS (c.names.lookup x)) && decide (y::caps.filterMap (c.N[·]?)).Nodup
mutual
noncomputable def aB (c:Cfg):E->Expr->Bool
 | .var i,x=>aC x fun y _=>c.N[i]? == some y && c.vis y
 | .int i,x=>xv x fun j=>i == j
 | .bl i,x=>GV x fun j=>i == j
 | .non,x=>Eh x
 | .str i,x=>vf x fun j=>i == j
 | .gv y v,x=>aC x fun z _=>z == y && c.glb y && jF (c.gl.lookup y) fun w=>w.same v
 | .tup es,x=>fw x fun xs=>fb c es xs
 | .lst es,x=>Bv x fun xs=>fb c es xs
 | .dct1 k i,x=>wa x fun ks vs=>on1 ks fun ok=>jF ok fun kx=>vf kx fun k'=>on1 vs fun vx=>xv vx fun i'=>k == k' && i == i'
 | .dct0,x=>wa x fun ks vs=>ks.isEmpty && vs.isEmpty
 | .bin op a b,x=>Ef x fun l o r=>o == op && aB c a l && aB c b r
 | .neg a,x=>AD x fun y=>aB c a y
 | .not a,x=>Ay x fun y=>aB c a y
 | .cmp op a b,x=>t4 x fun l o r=>o == op && !behindInMarks o r && aB c a l && aB c b r
 | .bop k es,x=>BV x fun o xs=>(o == if k then .And else .Or) && fb c es xs && !xs.isEmpty
 | .ite t a b,x=>Et x fun y l r=>zL c t y && aB c a l && aB c b r
 | .ix a b,x=>qV x fun l r=>kR r && aB c a l && aB c b r
 | .sl a lo hi,x=>qV x fun l r=>xo r fun u v=>aB c a l && GA c lo u && GA c hi v
 | .call f es,x=>aR x fun g xs _=>aC g fun y _=>c.fn f y && xs.all ak && fb c es xs
 | .blt b es,x=>aR x fun g xs _=>aC g fun y _=>y == nG b && c.blt y && xs.all ak && !xs.isEmpty && fb c es xs
 | .inst a t,x=>aR x fun g xs _=>aC g fun y _=>on2 xs fun l r=>aC r fun z _=>y == ("isinstance":Str) && c.blt y && ak l && z == (t:Str) && c.blt z && kinds.contains t && aB c a l
 | .met m o es,x=>aR x fun g xs cp=>jH g fun y n ap=>n == rM m && ap.endLine == cp.line && xs.all ak && decide (xs.length<=2) && jM y && aB c o y && fb c es xs
 | .comp elt tg it ifs nt caps,x=>Aq x fun ex gs sc _=>on1 gs fun g=>g.is_async == 0 && B' it g.target && iJ g.iter && tg.low nt.length && c.block nt caps sc && Af c it g.iter && jD (c.inner nt caps sc) tg g.target && mF (c.inner nt caps sc) ifs g.ifs && aB (c.inner nt caps sc) elt ex
 | .tmp a,x=>aB c a x
 | .compK elt tg wk e ifs nt caps,x=>Aq x fun ex gs sc _=>on1 gs fun g=>g.is_async == 0 && FM wk g.target && iJ g.iter && tg.low nt.length && c.block nt caps sc && Ft wk g.iter (fun y=>aB c e y) && jD (c.inner nt caps sc) tg g.target && mF (c.inner nt caps sc) ifs g.ifs && aB (c.inner nt caps sc) elt ex
 | .compD kx vx tg wk e ifs nt caps,x=>FT x fun ek ev gs sc _=>on1 gs fun g=>g.is_async == 0 && FM wk g.target && iJ g.iter && tg.low nt.length && c.block nt caps sc && Ft wk g.iter (fun y=>aB c e y) && jD (c.inner nt caps sc) tg g.target && mF (c.inner nt caps sc) ifs g.ifs && aB (c.inner nt caps sc) kx ek && aB (c.inner nt caps sc) vx ev
 | .dct2 k v,x=>wa x fun ks vs=>on1 ks fun ok=>jF ok fun kx=>on1 vs fun vx=>aB c k kx && aB c v vx
 | .dcl a,x=>aR x fun g xs _=>aC g fun y _=>on1 xs fun u=>y == ("dict":Str) && c.blt y && ak u && aB c a u
 | .eqd ne a b,x=>t4 x fun l o r=>(o == if ne then .NotEq else .Eq) && !behindInMarks o r && aB c a l && aB c b r
 | .bad,_=>true
 | .dget a b,x=>aR x fun g xs cp=>jH g fun y n ap=>on1 xs fun u=>n == ("get":Str) && ap.endLine == cp.line && ak u && jM y && aB c a y && aB c b u
 | .dcp a,x=>aR x fun g xs _=>aC g fun y _=>on1 xs fun u=>y == ("dict":Str) && c.blt y && ak u && aB c a u
 | .clr a,x=>aR x fun g xs cp=>jH g fun y n ap=>n == ("clear":Str) && ap.endLine == cp.line && xs.isEmpty && jM y && aB c a y
 | .sset a,x=>aR x fun g xs _=>aC g fun y _=>on1 xs fun l=>aR l fun g2 ys _=>aC g2 fun z _=>on1 ys fun u=>y == ("sorted":Str) && c.blt y && z == ("set":Str) && c.blt z && ak l && ak u && aB c a u
 | .jrev a,x=>aR x fun g xs cp=>jH g fun y n ap=>vf y fun j=>on1 xs fun l=>qV l fun u r=>FO r fun z=>AD z fun z1=>xv z1 fun i=>n == ("join":Str) && ap.endLine == cp.line && j == ("":Str) && i == 1 && aB c a u
 | .part a s,x=>aR x fun g xs cp=>jH g fun y n ap=>on1 xs fun l=>vf l fun j=>n == ("partition":Str) && ap.endLine == cp.line && j == s && !(s.length == 0) && jM y && aB c a y
 | .pcall i e,x=>c.pc && aR x fun g xs _=>aC g fun y _=>on1 xs fun l=>c.N[i]? == some y && c.vis y && ak l && aB c e l
 | .hm e be caps,x=>jF c.hm fun k=>aR x fun g xs _=>aC g fun y _=>on2 xs fun l r=>GR r fun as b sc=>Ii as fun z=>y == ("how_many":Str) && c.glb y && ak l && c.lamOk k z caps sc && aB c e l && aB (c.lam k z caps sc) be b
termination_by structural e=>e
noncomputable def fb (c:Cfg):Es->List Expr->Bool
 | .nil,xs=>xs.isEmpty
 | .cons e es,xs=>pB xs fun y ys=>ak y && aB c e y && fb c es ys
termination_by structural e=>e
noncomputable def GA (c:Cfg):O->Option Expr->Bool
 | .no,x=>x.isNone
 | .yes e,x=>jF x fun y=>aB c e y
termination_by structural e=>e
noncomputable def zL (c:Cfg):E->Expr->Bool
 | .not a,x=>Ay x fun y=>zL c a y
 | .bop k es,x=>BV x fun o xs=>(o == if k then .And else .Or) && !xs.isEmpty && mF c es xs
 | .cmp op a b,x=>t4 x fun l o r=>o == op && !behindInMarks o r && aB c a l && aB c b r
 | .var i,x=>aC x fun y _=>c.N[i]? == some y && c.vis y
 | .call f es,x=>aR x fun g xs _=>aC g fun y _=>c.fn f y && xs.all ak && fb c es xs
 | .blt b es,x=>aR x fun g xs _=>aC g fun y _=>y == nG b && c.blt y && xs.all ak && !xs.isEmpty && fb c es xs
 | .inst a t,x=>aR x fun g xs _=>aC g fun y _=>on2 xs fun l r=>aC r fun z _=>y == ("isinstance":Str) && c.blt y && ak l && z == (t:Str) && c.blt z && kinds.contains t && aB c a l
 | .tmp a,x=>wo x && aB c a x
 | .ix a b,x=>qV x fun l r=>kR r && aB c a l && aB c b r
 | .pcall i e,x=>c.pc && aR x fun g xs _=>aC g fun y _=>on1 xs fun l=>c.N[i]? == some y && c.vis y && ak l && aB c e l
 | .eqd ne a b,x=>t4 x fun l o r=>(o == if ne then .NotEq else .Eq) && !behindInMarks o r && aB c a l && aB c b r
 | .compK _ _ _ _ _ _ _,_ | .compD _ _ _ _ _ _ _ _,_ | .dcl _,_ | .dct2 _ _,_ | .hm _ _ _,_ | .bl _,_ | .int _,_ | .non,_ | .str _,_ | .gv _ _,_ | .tup _,_ | .lst _,_ | .dct0,_ | .dct1 _ _,_ | .bin _ _ _,_ | .neg _,_ | .ite _ _ _,_ | .sl _ _ _,_ | .met _ _ _,_ | .comp _ _ _ _ _ _,_ | .bad,_ | .jrev _,_ | .sset _,_ | .clr _,_ | .dcp _,_ | .dget _ _,_ | .part _ _,_=>true
termination_by structural e=>e
noncomputable def mF (c:Cfg):Es->List Expr->Bool
 | .nil,xs=>xs.isEmpty
 | .cons e es,xs=>pB xs fun y ys=>zL c e y && mF c es ys
termination_by structural e=>e
noncomputable def Af (c:Cfg):It->Expr->Bool
 | .seq e,x=>iJ x && aB c e x
 | .range1 a,x=>aR x fun g xs _=>aC g fun y _=>on1 xs fun l=>y == ("range":Str) && c.blt y && ak l && aB c a l
 | .range2 a b,x=>aR x fun g xs _=>aC g fun y _=>on2 xs fun l r=>y == ("range":Str) && c.blt y && ak l && ak r && aB c a l && aB c b r
 | .zip a b,x=>aR x fun g xs _=>aC g fun y _=>on2 xs fun l r=>y == ("zip":Str) && c.blt y && ak l && ak r && aB c a l && aB c b r
 | .zip3 a b d,x=>aR x fun g xs _=>aC g fun y _=>on3 xs fun l r u=>y == ("zip":Str) && c.blt y && ak l && ak r && ak u && aB c a l && aB c b r && aB c d u
 | .enum a,x=>aR x fun g xs _=>aC g fun y _=>on1 xs fun l=>y == ("enumerate":Str) && c.blt y && ak l && aB c a l
 | .chars e,x=>iJ x && aB c e x
 | .range3 a b d,x=>aR x fun g xs _=>aC g fun y _=>on3 xs fun l r u=>y == ("range":Str) && c.blt y && ak l && ak r && ak u && aB c a l && aB c b r && aB c d u
termination_by structural e=>e
noncomputable def jD (c:Cfg):Tg->Expr->Bool
 | .name i,x=>aC x fun y _=>c.N[i]? == some y && c.loc y
 | .tup ts,x=>fw x fun xs=>oW c ts xs
 | .ltup ts,x=>fw x fun xs=>oW c ts xs
 | .sub o i,x=>qV x fun l r=>kR r && aB c o l && aB c i r
termination_by structural e=>e
noncomputable def oW (c:Cfg):Tgs->List Expr->Bool
 | .nil,xs=>xs.isEmpty
 | .cons t ts,xs=>pB xs fun y ys=>ak y && jD c t y && oW c ts ys
termination_by structural e=>e
end
end FW
namespace FW
open L2 HX
noncomputable def eN (K:W.Frag)(sp:FSp):Sp:=fun vs H Q _=>∃m st as,Rs K m H as vs/\RH K m H st/\sp as st (post K m H Q)
def Gi (P:Program)(w:World)(K:W.Frag)(mg:Str->Option Value)(base:Heap)(k:Nat)(outer:List Env)(s:Shared)(H:Hp)(a:Addr)(L:FSp):Prop :=
 ∀(A':Around) (outer':List Env) (s':Shared) (H':Hp) (u:Value) (v:V) (Q':VK),Room k A'->zS P w K mg base A' outer' s' H'->Un (frs outer) [] H H' s.heap s'.heap->RelV v u->eN K L [v] H' Q' E0 ->
  W.FnAt a s'.heap/\codeAny (model P w) A' (.call (.ref a) ⟨[u],[]⟩) (CR CX0 outer' P w H' s' Q' E0) s'
def Hj (L:FSp):Prop:=∀as st Q Q',(∀v st,Q v st->Q' v st)->L as st Q->L as st Q'
def IS (a:Nat)(L:FSp):FSp:=fun as st Q=>∃(xs:List PV) (g:PV->Bool),as=[.tup xs,.fn a]/\xs.length<=100000/\(∀y∈xs,∀Q':EK,Q' (.bl (g y)) st->L [y] st Q')/\Q (.int (bsr g xs)) st
structure IP (P:Program)(w:World)(K:W.Frag)(mg:Str->Option Value)(base:Heap)(k:Nat):Prop where
 ex:∃f fd,mg "how_many"=some (.ref f)/\W.keepIn K (.ref f)=true/\Binds K fd ["stair","holds"] [] /\
  ∀(a:Addr) (L:FSp),Hj L->∀(A:Around) (outer:List Env) (s:Shared) (H:Hp) (args:Args) (us:List Value) (vs:List V) (Q:VK),Room (k+1) A->zS P w K mg base A outer s H->BindsTo s fd args ((["stair","holds"]:List Str).zip us)->Vals vs us ->
   Gi P w K mg base k outer s H a L->eN K (IS a L) vs H Q E0->codeAny (model P w) A (.call (.ref f) args) (CR CX0 outer P w H s Q E0) s
structure HmX (X:Cx)(k:Nat):Prop where
 ok:IP X.prog X.w X.K X.mg X.base (k+1)
 cd:∃x c0 T,x∈aZ/\W.tabIn X.K x=some (c0,T)/\X.env.code=.ref c0/\X.env.qual=x++".<locals>."/\W.CodeHd X.base c0 T
 bm:∃bm ob,X.mg "__builtins__"=some (.ref bm)/\bm≠builtinsNs/\X.base.get? bm=some ob/\ob.cls=.type "module"/\ob.dict=some builtinsNs/\ob.data=.plain
structure COk (X:Cx)(c:Cfg)(Γ:Nat->FSp):Prop where
 calm:X.calm=true
 pass:PassesOwn (model X.prog X.w) X.A X.env X.xe
 N:X.N=c.N
 nd:c.N.Nodup
 vis:∀x,c.names.lookup x=some .local\/c.names.lookup x=some .cell\/c.names.lookup x=some .free->Vis X.env.scope x
 loc:∀x,c.names.lookup x=some .local\/c.names.lookup x=some .cell->Loc X.env.scope x/\(X.fn x=true\/X.env.scope.names.lookup x=some .local)
 lcl:∀x,c.names.lookup x=some .local->X.env.scope.names.lookup x=some .local
 glb:∀x,c.names.lookup x=some .globalImplicit->Gl X x
 bk:X.env.blockKind=.function
 cel:∀x,c.names.lookup x=some .cell\/c.names.lookup x=some .free->X.env.kindOf x=some .cell\/X.env.kindOf x=some .free
 room:Room c.lim X.A
 fn:∀f x,f<c.lim->c.fns[f]?=some x->∃ps,Has X.prog X.w X.K X.mg X.base (f+1) x ps (eN X.K (Γ f))
 blt:∀x∈c.blts,X.mg x=none
 gl:∀x v,c.gl.lookup x=some v->∃u y,X.mg x=some u/\RelV y u/\∀m H,R X.K m H v y
 mono:bu Γ
 lam:c.pc=true->∀ {pins:List (Addr × Obj)}{σ:L2.St}{H:Hp}{s:Shared}{b:Addr}{u:Value}{v:V}{Q:VK},L2.Inv X pins σ H s->RelV v u->eN X.K (Γ 1000) [.ref b,v] H Q E0 ->
  W.FnAt b s.heap/\wpAny (model X.prog X.w) X.A (call (.ref b) [u]) (EP X pins σ Q) X.xe s
 hmo:∀k,c.hm=some k->HmX X k
section
variable {X:Cx}{c:Cfg}{Γ:Nat->FSp}
theorem COk.visx (C:COk X c Γ){x:Str}(h:c.vis x=true):Vis X.env.scope x/\(x == ("__debug__":Str))=false/\(x == ("__classdict__":Str))=false:=by
 unfold Cfg.vis at h
 simp only[Bool.and_eq_true,Bool.or_eq_true,beq_iff_eq,Bool.not_eq_true'] at h
 exact⟨C.vis x (by rcases h.1.1 with (h|h)|h <;> simp[h]),h.1.2,h.2⟩
theorem COk.glbx (C:COk X c Γ){x:Str}(h:c.glb x=true):Gl X x/\(x == ("__debug__":Str))=false/\x≠"__name__":=by
 unfold Cfg.glb at h
 simp only[Bool.and_eq_true,beq_iff_eq,Bool.not_eq_true'] at h
 exact⟨C.glb x h.1.1,h.1.2,fun z=>by rw[z] at h;exact absurd h.2 (by decide)⟩
theorem COk.bltx (C:COk X c Γ){x:Str}(h:c.blt x=true):Gl X x/\(x == ("__debug__":Str))=false/\x≠"__name__"/\X.mg x=none:=by
 unfold Cfg.blt at h
 rw[M3] at h
 obtain⟨h1,h2,h3⟩:=C.glbx h.1
 exact⟨h1,h2,h3,C.blt x (List.contains_iff_mem.mp h.2)⟩
theorem COk.fnx (C:COk X c Γ){f:Nat}{x:Str}(h:c.fn f x=true):Gl X x/\(x == ("__debug__":Str))=false/\Room (f+1) X.A/\∃ps,Has X.prog X.w X.K X.mg X.base (f+1) x ps (eN X.K (Γ f)):=by
 unfold Cfg.fn at h
 simp only[Bool.and_eq_true,beq_iff_eq,decide_eq_true_eq] at h
 obtain⟨h1,h2,h3⟩:=C.glbx h.2
 exact⟨h1,h2,C.room.mono h.1.2,C.fn f x h.1.2 h.1.1⟩
theorem Ip:∀b:B,bootBuiltins (nG b)=some (HP b):=by
 intro b
 cases b <;> decide +kernel
theorem wK:∀t∈kinds,bootBuiltins (t:Str)=some (.type t):=by decide +kernel
theorem ui:bootBuiltins ("isinstance":Str)=some (.builtin "isinstance"):=by decide +kernel
theorem wx {x:Expr}(h:wo x=true)(env:Env):∀whole,isTrue x env whole=(do let v <-whole;standAt x.pos;holding [v] (truthy v)):=by
 cases x <;> first|(intro _;rfl)|cases h
theorem wW {K:W.Frag}{m:List Addr}{H:Hp}{as:List PV}{vs:List V}(h:Rs K m H as vs):Rs K m H as (vs++[]):=by rw[O4];exact h
theorem uJ (C:COk X c Γ){f:Nat}{y:Str}{xs:List Expr}{p pos:Pos}{es:Es}(hf:c.fn f y=true)(hn:xs.all ak=true)(hc:fb c es xs=true)(ha:PA X xs (TAx X.K (cF Γ es))) :
  PE X (.Call (.Name y p) xs [] pos) (TEx X.K fun ρ st Q=>cF Γ es ρ st fun vs st1=>Γ f vs st1 Q):=by
 obtain⟨h1,h2,hr,ps,F⟩:=C.fnx hf
 have key:∀ {σ:L2.St}{H:Hp}{Q:VK},TEx X.K (fun ρ st Q=>cF Γ es ρ st fun vs st1=>Γ f vs st1 Q) σ H Q->q8 (eN X.K (Γ f)) [] E0 (TAx X.K (cF Γ es)) σ H Q:=by
  rintro σ H Q ⟨m,ρ,st,rf,rh,w⟩
  exact⟨m,ρ,st,rf,rh,aF C.mono es (fun vs st1 k m1 H1 xs1 e1 r1 r2=>⟨m1,st1,vs,wW r2,r1,C.mono _ _ _ _ _ (fun _ _ q=>q.ext e1) k⟩) w⟩
 intro pins s σ H Q I h
 cases xs with
 | nil =>
  refine Dx F hr h1 h2 pins s σ H Q I ?_
  obtain⟨m,ρ,st,rf,rh,w⟩:=h
  cases es with
  | nil=>exact⟨m,st,[],Rs_nil.mpr rfl,rh,w⟩
  | cons e es=>exact Bool.noConfusion (show false=true from hc)
 | cons x xs =>
  rw[O6,M3] at hn
  exact Dd F hr ha h1 h2 hn.1 hn.2 pins s σ H Q I (key h)
theorem u8 (C:COk X c Γ){b:B}{y:Str}{xs:List Expr}{p pos:Pos}{es:Es}(hy:y=nG b)(hb:c.blt y=true)(hn:xs.all ak=true)(hne:xs.isEmpty=false)(ha:PA X xs (TAx X.K (cF Γ es))) :
  PE X (.Call (.Name y p) xs [] pos) (TEx X.K fun ρ st Q=>cF Γ es ρ st fun vs st1=>e6 b vs st1 Q):=by
 obtain⟨h1,h2,h3,h4⟩:=C.bltx hb
 have hv:=Ip b
 rw[<-hy] at hv
 have key:∀ {σ:L2.St}{H:Hp}{Q:VK},TEx X.K (fun ρ st Q=>cF Γ es ρ st fun vs st1=>e6 b vs st1 Q) σ H Q->tCB (GP X.K (e6 b)) (TAx X.K (cF Γ es)) σ H Q:=by
  rintro σ H Q ⟨m,ρ,st,rf,rh,w⟩
  exact⟨m,ρ,st,rf,rh,aF C.mono es (fun vs st1 k m1 H1 xs1 e1 r1 r2=>⟨m1,st1,vs,r1,r2,iW (fun _ _ q=>q.ext e1) k⟩) w⟩
 have hc:=E9 C.calm C.room.gd C.room.units b
 cases xs with
 | nil=>cases hne
 | cons x xs =>
  rw[O6,M3] at hn
  intro pins s σ H Q I h
  cases b <;> first
   | exact mx hc h1 h4 hv ha h3 h2 hn.1 hn.2 pins s σ H Q I (key h)
   | exact nY hc h1 h4 hv ha h3 h2 hn.1 hn.2 pins s σ H Q I (key h)
theorem yk (m:M):PlainAttrs "list"/\Slot "list" (rM m) (xr m)/\typeOf (.builtin (xr m))=pure (.type "method_descriptor"):=by
 cases m
 ·exact⟨N8,PySem.F.slot_list_append,PySem.F.type_list_append⟩
 ·exact⟨N8,PySem.F.slot_list_pop,PySem.F.type_list_pop⟩
 ·exact⟨N8,PySem.F.slot_list_extend,PySem.F.type_list_extend⟩
 ·exact⟨N8,PySem.F.slot_list_insert,PySem.F.type_list_insert⟩
 ·exact⟨N8,PySem.F.slot_list_count,PySem.F.type_list_count⟩
 ·exact⟨N8,PySem.F.slot_list_index,PySem.F.type_list_index⟩
theorem lv {y:Expr}(h:jM y=true){n:Str}{env:Env}{w:Sem Value}:attributeBase y n env w=w:=by
 cases y <;> first|rfl|cases h
theorem BD (C:COk X c Γ){m:M}{n:Str}{y:Expr}{ap cp:Pos}{xs:List Expr}{o:E}{es:Es}(hn:n=rM m)(hl:(ap.endLine == cp.line)=true)(hs:xs.all ak=true)(h2:xs.length<=2)(hy:jM y=true)(ho:PE X y (TEx X.K (wpE Γ o)))(ha:PA X xs (TAx X.K (cF Γ es)))(hc:fb c es xs=true) :
  PE X (.Call (.Attribute y n ap) xs [] cp) (TEx X.K (wpE Γ (.met m o es))):=by
 obtain⟨pa,slot,ty⟩:=yk m
 rw[<-hn] at slot
 have hm:MtR X (xr m) (HZ X.K (sx m)):=Fs m
 intro pins s σ H Q I h
 obtain⟨mm,ρ,st,rf,rh,w⟩:=h
 skip
 have tyv:∀ {m1:List Addr} {H1:Hp} {st1:AH} {v:PV} {x:V},RH X.K m1 H1 st1->R X.K m1 H1 v x->(∃xs,bq st1 v=some xs)->tyV X.K "list" x H1:=by
  rintro m1 H1 st1 v x r1 r2 ⟨xs,e⟩
  obtain⟨a,ys,rfl,g,_⟩:=ei r1 r2 e
  exact .inl ⟨rfl,ys,g⟩
 match xs,hs,h2,ha,hc with
 | [],hs,h2,ha,hc =>
  refine E_ pa slot ty hm ho (lv hy) hl pins s σ H Q I ?_
  refine⟨mm,ρ,st,rf,rh,aa C.mono o (fun v st1 k m1 H1 x1 e1 r1 r2=>⟨tyv r1 r2 k.1,?_⟩) w⟩
  cases es with
  | nil =>
   have k2:=k.2
   skip
   exact⟨m1,st1,v,[],r1,r2,Rs_nil.mpr rfl,jh (fun _ _ q=>q.ext e1) k2⟩
  | cons e es=>exact Bool.noConfusion (show false=true from hc)
 | [a],hs,h2,ha,hc =>
  simp only[List.all_cons,List.all_nil,Bool.and_true] at hs
  have st1:starEach [a] X.env=[(false,eval a X.env)]:=a7 hs
  refine El pa slot ty hm ho ha (lv hy) (by rw[st1];rfl) hl st1 rfl pins s σ H Q I ?_
  refine⟨mm,ρ,st,rf,rh,aa C.mono o (fun v st1 k m1 H1 x1 e1 r1 r2=>⟨tyv r1 r2 k.1,?_⟩) w⟩
  exact⟨m1,ρ,st1,rf.mono e1,r1,aF C.mono es (fun vs st2 k m2 H2 xs2 e2 r3 r4=>⟨m2,st2,v,vs,r3,r2.mono e2,r4,jh (fun _ _ q=>q.ext (e1.trans e2)) k⟩) k.2⟩
 | [a,b],hs,h2,ha,hc =>
  simp only[List.all_cons,List.all_nil,Bool.and_true,Bool.and_eq_true] at hs
  have stb:starEach [b] X.env=[(false,eval b X.env)]:=a7 hs.2
  have st1:starEach [a,b] X.env=(false,eval a X.env)::starEach [b] X.env:=a7 hs.1
  refine El pa slot ty hm ho ha (lv hy) (by rw[st1,stb];rfl) hl st1 (by rw[stb];rfl) pins s σ H Q I ?_
  refine⟨mm,ρ,st,rf,rh,aa C.mono o (fun v st1 k m1 H1 x1 e1 r1 r2=>⟨tyv r1 r2 k.1,?_⟩) w⟩
  exact⟨m1,ρ,st1,rf.mono e1,r1,aF C.mono es (fun vs st2 k m2 H2 xs2 e2 r3 r4=>⟨m2,st2,v,vs,r3,r2.mono e2,r4,jh (fun _ _ q=>q.ext (e1.trans e2)) k⟩) k.2⟩
 | _::_::_::_,hs,h2,ha,hc=>simp at h2
mutual
theorem PV.bel_le {i j:Nat}(h:i<=j):∀ {v:PV},v.bel i=true->v.bel j=true
 | .non,_=>by rw[PV.bel]
 | .bl _,_=>by rw[PV.bel]
 | .int _,_=>by rw[PV.bel]
 | .str _,_=>by rw[PV.bel]
 | .ref n,z=>by rw[PV.bel] at z |-;have:=O8 z;exact NW (by omega)
 | .tup xs,z=>by rw[PV.bel] at z |-;exact PV.bels_le h z
 | .rdl xs,z=>by rw[PV.bel] at z |-;exact PV.bels_le h z
 | .fn _,z=>by rw[PV.bel] at z;cases z
theorem PV.bels_le {i j:Nat}(h:i<=j):∀ {vs:List PV},PV.bels i vs=true->PV.bels j vs=true
 | [],_=>by rw[PV.bels]
 | v::vs,z=>by rw[PV.bels,M3] at z |-;exact⟨PV.bel_le h z.1,PV.bels_le h z.2⟩
end
theorem xS (C:COk X c Γ){a:E}{t:String}{l:Expr}{y z:Str}{p q pos:Pos}(h:(y == ("isinstance":Str) && c.blt y && ak l && z == (t:Str) && c.blt z && kinds.contains t)=true)(ha:PE X l (TEx X.K (wpE Γ a))) :
  PE X (.Call (.Name y p) [l,.Name z q] [] pos) (TEx X.K (wpE Γ (.inst a t))):=by
 simp only[Bool.and_eq_true,beq_iff_eq] at h
 obtain⟨⟨⟨⟨⟨h1,h2⟩,h3⟩,h4⟩,h5⟩,h6⟩:=h
 subst h1 h4
 have ht:t∈kinds:=List.contains_iff_mem.mp h6
 obtain⟨g1,g2,g3,g4⟩:=C.bltx h2
 obtain⟨k1,k2,k3,k4⟩:=C.bltx h5
 rintro pins s σ H Q I ⟨m,ρ,st,rf,rh,w⟩
 skip
 have pt:PE X (.Name (t:Str) q) (tC (.ty t)):=CY k1 k4 (wK t ht) rfl k3 k2
 have hA:PA X [l,.Name (t:Str) q] (iu (TEx X.K (wpE Γ a)) (iu (tC (.ty t)) uw)):=pac ha (pac pt gW) h3
 have hC:eW X (.builtin "isinstance") (fun xs H Q=>∃m st x y n,RH X.K m H st/\R X.K m H x y/\xs=[y,.ty t]/\bS st x=some n/\Q (.bl (cK t n)) H):=by
  rintro pins s σ H xs us Q I r ⟨m,st,x,y,n,r1,r2,rfl,e,q⟩
  obtain⟨u,v,rfl,ru,rv⟩:=rm r
  cases (show v=Value.type t from rv)
  exact C7 (K:=X.K) I r1 r2 ru e ht fun tk=>⟨.bl _,H,I.tok tk,rfl,q⟩
 refine mx hC g1 g4 ui hA g3 g2 h3 rfl pins s σ H Q I ?_
 refine⟨m,ρ,st,rf,rh,aa C.mono a (fun v st1 k m1 H1 x1 e1 r1 r2=>?_) w⟩
 obtain⟨n,e,k⟩:=k
 exact⟨m1,st1,v,x1,n,r1,r2,rfl,e,(k.ext e1).here r1 (R_bl.mpr rfl)⟩
theorem B7 (C:COk X c Γ){i:Nat}{y:Str}{p:Pos}(h:(c.N[i]? == some y && c.vis y)=true):PE X (.Name y p) (TEx X.K (wpE Γ (.var i))):=by
 simp only[Bool.and_eq_true,beq_iff_eq] at h
 obtain⟨h1,h2,h3⟩:=C.visx h.2
 rintro pins s σ H Q I ⟨m,ρ,st,rf,rh,w⟩
 obtain⟨v,e,w⟩:=kg w
 obtain⟨y,e2,r⟩:=rf.at_ i v e
 exact FI (by rw[C.N];exact h.1) h1 h2 h3 pins s σ H Q I ⟨y,e2,w.here rh r⟩
theorem rV {K:W.Frag}{m m':List Addr}{H H':Hp}{st st':AH}{Q:EK}{v:PV}{x:V}(rh:RH K m H st)(e:Ext K m H m' H')(rh':RH K m' H' st')(r:R K m' H' v x)(q:Tmp st Q v st') :
  ∃st1,Q v st1/\Ext K m H m H'/\RH K m H' st1/\R K m H' v x:=by
 obtain⟨st1,g,rfl,hl,hs,hb,q⟩:=q
 have hm:m'.take m.length=m:=by
  obtain⟨t,ht⟩:=e.pre
  rw[<-ht,List.take_left]
 have hlen:m.length=st.length:=rh.len
 refine⟨st1,q,⟨P9 _,fun _ z=>.inl z,e.fr,e.tup,e.rdf,e.tbs,e.tb,e.frz⟩,⟨by rw[hl,hlen],rh.nd,fun n c a h1 h2=>?_,e.tb rh.tb⟩,?_⟩
 ·have hn:n<st1.length:=(MC.mp h1).1
  have c1:CellR K m' H' c a:=rh'.at_ n c a (by rw[M1 hn];exact h1) (ku e.pre h2)
  have hc:c.bec m.length=true:=by
   rcases hs n (by omega) with z|⟨c',z,zb⟩
   ·rw[h1] at z
    exact(rh.at_ n c a z.symm h2).bel
   ·rw[h1] at z
    cases z
    have zb':∀ {c:Cell},c.bel 0=true->c.bec m.length=true:=by
     have b0:∀(xs:List PV),PV.bels 0 xs=true->PV.becs m.length xs=true:=fun xs h=>PV.bels_becs (N5 _) h
     intro c h
     cases c with
     | lst xs=>exact b0 _ h
     | dk kvs=>exact b0 _ h
     | fz kvs=>cases h
    exact zb' zb
  have:=c1.cut hc
  rw[hm] at this
  exact this
 ·have:=r.cut (k:=m.length) (by rw[hlen];exact PV.bel_bec (MM _) hb)
  rw[hm] at this
  exact this
noncomputable def postF (K:W.Frag)(m:List Addr)(H:Hp)(Q:L2.St->Hp->Prop):Fr->AH->Prop:=fun ρ' st'=>∀m' H' σ',Ext K m H m' H'->RH K m' H' st'->RF K m' H' ρ' σ'->Q σ' H'
theorem postF.ext {K:W.Frag}{m m1:List Addr}{H H1:Hp}{Q:L2.St->Hp->Prop}(x:Ext K m H m1 H1){ρ:Fr}{st:AH}(q:postF K m H Q ρ st):postF K m1 H1 Q ρ st:=fun m' H' σ' e r s=>q m' H' σ' (x.trans e) r s
theorem postF.here {K:W.Frag}{m:List Addr}{H:Hp}{Q:L2.St->Hp->Prop}{ρ:Fr}{σ:L2.St}{st:AH}(q:postF K m H Q ρ st)(h:RH K m H st)(r:RF K m H ρ σ):Q σ H:=q m H σ (Ext.refl _ _ _) h r
noncomputable def TGx (K:W.Frag)(w:PV->Fr->AH->(Fr->AH->Prop)->Prop):TG:=fun v' σ H Q=>∃m ρ st v,RF K m H ρ σ/\RH K m H st/\R K m H v v'/\w v ρ st (postF K m H Q)
noncomputable def IU (K:W.Frag)(w:List PV->Fr->AH->(Fr->AH->Prop)->Prop):TGs:=fun v' σ H Q=>∃m ρ st v,RF K m H ρ σ/\RH K m H st/\Rs K m H v v'/\w v ρ st (postF K m H Q)
theorem COk.locx (C:COk X c Γ){x:Str}(h:c.loc x=true):Loc X.env.scope x/\(X.fn x=true\/X.env.scope.names.lookup x=some .local):=by
 unfold Cfg.loc at h
 simp only[Bool.or_eq_true,beq_iff_eq] at h
 exact C.loc x h
theorem COk.ndX (C:COk X c Γ):X.N.Nodup:=by rw[C.N];exact C.nd
theorem jA {e:Expr}{es:List Expr}{env:Env}(h:ak e=true):assignEach (e::es) env=(false,assign e env)::assignEach es env:=by
 cases e <;> first|rfl|cases h
theorem pi {c:Cfg}:∀ {ts:Tgs}{xs:List Expr}{env:Env},oW c ts xs=true->(assignEach xs env).length=ts.size/\(assignEach xs env).findIdx? (·.1)=none
 | .nil,xs,env,h=>by
  have h:xs.isEmpty=true:=h
  cases xs with
  | nil=>exact⟨rfl,rfl⟩
  | cons _ _=>cases h
 | .cons t ts,xs,env,h=>by
  replace h:=aI h
  obtain⟨y,ys,rfl,h⟩:=h
  ·simp only[Bool.and_eq_true] at h
   obtain⟨⟨h1,h2⟩,h3⟩:=h
   obtain⟨g1,g2⟩:=pi (env:=env) h3
   rw[jA h1]
   exact⟨by simp[g1,Tgs.size],by simp[List.findIdx?_cons,g2]⟩
structure rD (K:W.Frag)(J:L2.It)(xs:List PV)(chk:AH->Prop)(m0:List Addr)(H0:Hp):Prop where
 stop:∀m H st,Ext K m0 H0 m H->RH K m H st->chk st->J.stop xs.length H
 item:∀(i:Nat) v m H st,Ext K m0 H0 m H->RH K m H st->chk st->xs[i]?=some v->J.go i H/\∀x H',J.yld i H x H'->Ext K m H m H'/\RH K m H' st/\R K m H' v x
noncomputable def TIx (K:W.Frag)(w:Fr->AH->(List PV->(AH->Prop)->AH->Prop)->Prop):TI:=fun σ H Rr=>∃m ρ st,RF K m H ρ σ/\RH K m H st /\
 w ρ st fun xs chk st1=>∀m1 H1 J,Ext K m H m1 H1->RH K m1 H1 st1->rD K J xs chk m1 H1->Rr J H1
theorem t8 {x:Expr}{env:Env}(h:iJ x=true):∀v,foldedSetIterable x env v=pure v:=by
 cases x <;> first|(intro _;rfl)|cases h
theorem FA {tg l:Expr}{tl:TE}(hl:PE X l tl):PI X tg l (fun σ H Rr=>tl σ H fun x H1=>∃a,x=.ref a/\((∃xs,SqL X.K H1 a xs)/\Rr (Itl X.K a) H1\/(∃xs,SqT X.K H1 a xs)/\Rr (Itt X.K a) H1)):=by
 intro pins s σ H Rr I h
 refine thn (hl pins s σ H _ I h) fun v s1 ⟨x,H1,I1,r1,q1⟩=>?_
 obtain⟨a,e,q1⟩:=q1
 subst e
 cases r1
 rcases q1 with⟨⟨xs,hq⟩,q⟩|⟨⟨xs,hq⟩,q⟩
 ·obtain⟨its,rv,p,hz⟩:=I1.list hq
  refine wpAny_pyIter_list p.isList ?_
  refine⟨s1.heap.objs.size,[s1.heap.objs.size],_,_,H1,rfl,I1.kept (t':=s1.toks) fun b o e=>MD _ e,x_ a _,⟨_,MX _ rfl,rfl,rfl⟩,fun b hb=>?_,q⟩
  have e:b=s1.heap.objs.size:=by simpa using hb
  subst e
  exact I1.fpOk (MM _) (I1.hok.fresh (MM _))
 ·obtain⟨its,rv,p,hz⟩:=I1.tuple hq
  refine wpAny_pyIter_tuple (show s1.heap.IsTuple a its.toArray from p) ?_
  refine⟨s1.heap.objs.size,[s1.heap.objs.size],_,_,H1,rfl,I1.kept (t':=s1.toks) fun b o e=>MD _ e,vH a _,⟨_,MX _ rfl,rfl,rfl⟩,fun b hb=>?_,q⟩
  have e:b=s1.heap.objs.size:=by simpa using hb
  subst e
  exact I1.fpOk (MM _) (I1.hok.fresh (MM _))
theorem zm {K:W.Frag}{m0:List Addr}{H0:Hp}{st0:AH}{n:Nat}{a:Addr}{xs:List PV}(rh:RH K m0 H0 st0)(e:st0[n]?=some (.lst xs))(ea:m0[n]?=some a):rD K (Itl K a) xs (fun st'=>st'[n]?=st0[n]?) m0 H0:=by
 have get:∀m H st,Ext K m0 H0 m H->RH K m H st->st[n]?=st0[n]?->∃ys,H a=some (.lst ys)/\Rs K m H xs ys:=fun m H st x r q=>by
  rw[e] at q
  exact r.at_ n _ a q (ku x.pre ea)
 refine⟨fun m H st x r q=>?_,fun i v m H st x r q ev=>?_⟩
 ·obtain⟨ys,h1,h2⟩:=get m H st x r q
  exact⟨ys,SqL.of h1,by rw[h2.len];exact MM _⟩
 ·obtain⟨ys,h1,h2⟩:=get m H st x r q
  obtain⟨y,e1,r1⟩:=h2.get ev
  refine⟨⟨ys,y,SqL.of h1,e1⟩,fun z H' ⟨e2,e3⟩=>?_⟩
  subst e2
  have:=e3 ys (SqL.of h1)
  rw[e1] at this
  cases this
  exact⟨Ext.refl _ _ _,r,r1⟩
theorem BR {K:W.Frag}{m0:List Addr}{H0:Hp}{a:Addr}{xs:List PV}{ys:List V}(h:RdF K H0 a ys)(r0:Rs K m0 H0 xs ys):rD K (Itl K a) xs (fun _=>True) m0 H0:=by
 refine⟨fun m H st x r q=>⟨ys,(x.rdf _ _ h).sq,by rw[r0.len];exact MM _⟩,fun i v m H st x r q ev=>?_⟩
 obtain⟨y,e1,r1⟩:=(r0.mono x).get ev
 refine⟨⟨ys,y,(x.rdf _ _ h).sq,e1⟩,fun z H' ⟨e2,e3⟩=>?_⟩
 subst e2
 have:=e3 ys (x.rdf _ _ h).sq
 rw[e1] at this
 cases this
 exact⟨Ext.refl _ _ _,r,r1⟩
theorem Aa {K:W.Frag}{m0:List Addr}{H0:Hp}{a:Addr}{xs:List PV}{ys:List V}(h:SqT K H0 a ys)(r0:Rs K m0 H0 xs ys):rD K (Itt K a) xs (fun _=>True) m0 H0:=by
 refine⟨fun m H st x r q=>⟨ys,x.tup _ _ h,by rw[r0.len];exact MM _⟩,fun i v m H st x r q ev=>?_⟩
 obtain⟨y,e1,r1⟩:=(r0.mono x).get ev
 refine⟨⟨ys,y,x.tup _ _ h,e1⟩,fun z H' ⟨e2,e3⟩=>?_⟩
 subst e2
 have:=e3 ys (x.tup _ _ h)
 rw[e1] at this
 cases this
 exact⟨Ext.refl _ _ _,r,r1⟩
theorem wB {K:W.Frag}{m0:List Addr}{H0:Hp}{lo:Int}{n:Nat}:rD K (Itr lo n) (eK lo n) (fun _=>True) m0 H0:=by
 refine⟨fun m H st x r q=>by show n<=_;simp[eK],fun i v m H st x r q ev=>?_⟩
 unfold eK at ev
 rw[MN] at ev
 have hi:i<n:=by
  by_cases hi:i<n
  ·exact hi
  ·rw[OU (by simp;exact Nat.not_lt.mp ‹_›)] at ev;cases ev
 rw[List.getElem?_range hi] at ev
 cases ev
 refine⟨hi,fun z H' ⟨e2,e3⟩=>?_⟩
 subst e2 e3
 exact⟨Ext.refl _ _ _,r,R_int.mpr rfl⟩
end
end FW
namespace FW
open L2 HX
section
variable {X:Cx}{c:Cfg}{Γ:Nat->FSp}
theorem qu:∀ {us:List Value}{ns:List Int},Vals (ns.map V.int) us->IntsAre us ns
 | _,[],h=>by cases h;exact .nil
 | _,n::ns,h=>by
  cases h with
  | cons r1 r2 =>
   obtain⟨t,rfl⟩:=r1
   exact .cons n t (qu r2)
theorem yX {pins:List (Addr × Obj)}{σ:L2.St}{H:Hp}{s:Shared}(I:L2.Inv X pins σ H s)(d:Drawn):L2.Inv X pins σ H { s with drawn:=d } :=
 ⟨I.ok,I.os,I.bare,I.base,I.loc,I.cell,I.free,I.freeC,I.pin,I.hok,I.len⟩
noncomputable def Db (prog:Program)(w:World)(a:Addr)(ns:List Int):HO:=.ext fun h=>SetZ prog w (!(byT w)) h a ns
theorem yE (hcalm:X.calm=true):eW X (.type "set") (fun xs H Q=>∃p ns,xs=[V.ref p]/\H p=some (.lst (ns.map V.int))/\ns.length<60/\∀a,H a=none->Q (.ref a) (upd H a (Db X.prog X.w a ns))):=by
 rintro pins s σ H xs us Q I r ⟨p,ns,rfl,hp,hn,q⟩
 obtain⟨u,rfl,ru⟩:=j9 r
 cases ru
 obtain⟨its,ri,pl,_⟩:=I.list (.inl (.inl hp))
 have hi:=qu ri
 have ln:its.length=ns.length:=IntsAre.length hi
 refine yI (I.ok.hd hcalm) pl.isList (by simpa using hi) (by rw[MY];omega) fun h' tk hZ k=>?_
 refine⟨.ref s.heap.objs.size,_,I.laid (t':=tk) (fun b u e=>k b u (MU e) e) (MM _) (show ObjOk X.prog X.w _ _ _ (Db X.prog X.w s.heap.objs.size ns) from ⟨hZ,?_,fun h1 h2 z e=>z.at e⟩),rfl,q _ (I.hok.fresh (MM _))⟩
 obtain⟨es,ep,t,ho,_⟩:=hZ
 exact⟨_,ho⟩
theorem wZ (hcalm:X.calm=true):eW X (.builtin "sorted") (fun xs H Q=>∃p ns,xs=[V.ref p]/\H p=some (Db X.prog X.w p ns)/\ns.length<60/\∀ns':List Int,ns'.Pairwise (·< ·)->(∀i,i∈ns'↔i∈ns)->ns'.length<=ns.length->∀l,H l=none->Q (.ref l) (upd H l (.lst (ns'.map V.int)))):=by
 rintro pins s σ H xs us Q I r ⟨p,ns,rfl,hp,hn,q⟩
 obtain⟨u,rfl,ru⟩:=j9 r
 cases ru
 have hZ:SetZ X.prog X.w (!(byT X.w)) s.heap p ns:=(I.hok p _ hp).1
 refine wY (I.ok.hd hcalm) hZ (by omega) fun h' tk d l out e ns' k zl he a1 a2 a3 a4=>?_
 refine⟨.ref l,_,(yX I d).laid (t':=tk) (fun b u e=>k b u (MU e) e) zl (show ObjOk X.prog X.w _ _ _ (.lst (ns'.map V.int)) from ⟨?_,out.toList,e,rB a1,he⟩),rfl,q ns' a2 a3 a4 _ (I.hok.fresh zl)⟩
 rw[MS]
 exact OA (nE (by omega))
theorem Ds (C:COk X c Γ){y z:Str}{u:Expr}{p p2 p3 p4:Pos}{a:E}(h1:y="sorted")(h2:c.blt y=true)(h3:z="set")(h4:c.blt z=true)(h5:ak (.Call (.Name z p4) [u] [] p3)=true)(h6:ak u=true)(ha:PE X u (TEx X.K (wpE Γ a))) :
  PE X (.Call (.Name y p2) [.Call (.Name z p4) [u] [] p3] [] p) (TEx X.K (wpE Γ (.sset a))):=by
 obtain⟨a1,a2,a3,a4⟩:=C.bltx h2
 obtain⟨b1,b2,b3,b4⟩:=C.bltx h4
 have v1:bootBuiltins y=some (.builtin "sorted"):=by rw [h1];decide +kernel
 have v2:bootBuiltins z=some (.type "set"):=by rw [h3];decide +kernel
 have inner:=nY (pos:=p3) (p:=p4) (yE C.calm) b1 b4 v2 (pac ha gW h6) b3 b2 h6 rfl
 intro pins s σ H Q I h
 refine mx (pos:=p) (p:=p2) (wZ C.calm) a1 a4 v1 (pac inner gW h5) a3 a2 h5 rfl pins s σ H Q I ?_
 obtain⟨m,ρ,st,rf,rh,w⟩:=h
 refine⟨m,ρ,st,rf,rh,aa C.mono a (fun v st1 k m1 H1 x1 e1 r1 r2=>?_) w⟩
 obtain⟨n,rfl,ns,h1,h2,k⟩:=k
 obtain⟨b,ys,rfl,eb,gg,ry⟩:=r1.lst h1 r2
 obtain rfl:=nK ry
 refine⟨b,ns,rfl,gg,h2,fun q hq=>⟨q,ns,rfl,bH,h2,fun ns' p1 p2 p3 l hl=>?_⟩⟩
 have rr:=r1.newT (o:=Db X.prog X.w q ns) hq
 exact k ns' p1 p2 p3 _ _ _ ((e1.trans (Ext.newT r1 hq)).trans (Ext.new1 rr hl)) (rr.newL hl zV) (R.last rr.len)
end
end FW
namespace FW
open L2 HX
section
variable {X:Cx}{pins:List (Addr × Obj)}{σ:L2.St}{H:Hp}{s:Shared}{h':Heap}
theorem xU {t':Nat}{wr:List Addr}(I:L2.Inv X pins σ H s)(k:∀b o,b ∉ wr->s.heap.get? b=some o->h'.get? b=some o)(hf:∀b∈wr,mX X pins H b):L2.Inv X pins σ H { s with heap:=h',toks:=t' }:=by
 have nit:∀b u,H b=some u->b ∉ wr:=fun b u e z=>by rw[(hf b z).1] at e;cases e
 refine I.step (g':=s.gens) (d':=s.drawn) (ch:=wr) (fun b hb=>⟨(hf b hb).2.2.2.1,(hf b hb).2.1,(hf b hb).2.2.2.2.1,(hf b hb).2.2.2.2.2⟩) (fun b o _ _ hc e _=>k b o hc e) (fun b o _ _ hc e _=>⟨o.slots,k b o hc e⟩) (fun _ _ _ _ n=>n)
  (fun b o hc e=>⟨o,k b o hc e⟩) (fun _ _ e=>e) (fun _ _ _ e=>e) (fun b ps e=>⟨#[],by rw[e];simp⟩) (fun m hm=>?_) (fun b u e=>?_) I.bare
 ·obtain⟨o,es,ep,ho,r⟩:=hm
  exact⟨o,es,ep,k _ o (fun z=>(hf _ z).2.1 rfl) ho,r⟩
 ·refine(I.hok b u e).stay (fun c v hc q=>k c v ?_ q) (fun _ q=>q) fun _ _ q=>q
  rcases hc with z|z
  ·rw[z];exact nit b u e
  ·exact nit c _ z
theorem xb {t':Nat}{wr:List Addr}{T:Addr}{xs:List V}{its:List Value}(I:L2.Inv X pins σ H s)(k:∀b o,b ∉ wr->s.heap.get? b=some o->h'.get? b=some o)(hf:∀b∈wr,mX X pins H b)
  (hT:s.heap.objs.size<=T) (hx:Vals xs its) (hz:xs.length<=sizeLine) (ht:h'.IsTuple T its.toArray):L2.Inv X pins σ (upd H T (.tup xs)) { s with heap:=h',toks:=t' }:=by
 have nit:∀b u,H b=some u->b ∉ wr:=fun b u e z=>by rw[(hf b z).1] at e;cases e
 have hn:H T=none:=I.hok.fresh hT
 have up:∀b u,H b=some u->upd H T (.tup xs) b=some u:=fun b u e=>by rw[am (aD e hn)];exact e
 refine I.step (g':=s.gens) (d':=s.drawn) (ch:=wr) (fun b hb=>⟨(hf b hb).2.2.2.1,(hf b hb).2.1,(hf b hb).2.2.2.2.1,(hf b hb).2.2.2.2.2⟩) (fun b o _ _ hc e _=>k b o hc e) (fun b o _ _ hc e _=>⟨o.slots,k b o hc e⟩)
  (fun b o _ e n=>by rw[am (M2 (MG (MU e) hT))];exact n)
  (fun b o hc e=>⟨o,k b o hc e⟩) (fun b _ e=>up b _ e) (fun b _ _ e=>up b _ e) (fun b ps e=>⟨#[],by rw[up b _ e];simp⟩) (fun m hm=>?_) (fun b u e=>?_) I.bare
 ·obtain⟨o,es,ep,ho,r⟩:=hm
  exact⟨o,es,ep,k _ o (fun z=>(hf _ z).2.1 rfl) ho,r⟩
 ·by_cases hb:b=T
  ·subst hb
   rw[bH] at e
   cases e
   exact⟨hz,its,hx,ht⟩
  ·rw[am hb] at e
   refine(I.hok b u e).stay (fun c v hc q=>k c v ?_ q) (fun c q=>up c _ q) fun c _ q=>up c _ q
   rcases hc with z|z
   ·rw[z];exact nit b u e
   ·exact nit c _ z
end
theorem fO:∀ {xs ys:List PV},(jo xs ys).length=min xs.length ys.length
 | [],ys=>by simp[jo]
 | x::xs,[]=>by simp[jo]
 | x::xs,y::ys=>by simp only[jo,List.length_cons,fO (xs:=xs) (ys:=ys)];omega
theorem iB:∀ {xs ys:List PV}{i:Nat}{v:PV},(jo xs ys)[i]?=some v->∃x y,xs[i]?=some x/\ys[i]?=some y/\v=.tup [x,y]
 | [],ys,i,v,h=>by simp[jo] at h
 | x::xs,[],i,v,h=>by simp[jo] at h
 | x::xs,y::ys,0,v,h=>by simp[jo] at h;exact⟨x,y,rfl,rfl,h.symm⟩
 | x::xs,y::ys,i+1,v,h=>by
  simp only[jo,List.getElem?_cons_succ] at h |-
  exact iB h
end FW
namespace FW
open L2 HX
theorem Dk {h:Heap}{it t:Addr}{i:Nat}{x:Value}{o:Obj}{k:Nat}(e:h.get? it=some o)(hc:o.cls=.type "tuple_iterator")(hd:o.data=.fields #[.ref t,.int (i:Int) 0]) :
  (h.update it (Obj.mapFields fun z=>z.setIfInBounds k x)).get? it=some (Obj.mapFields (fun z=>z.setIfInBounds k x) o):=by
 refine NL _ e ?_
 obtain⟨c,d,da,sl⟩:=o
 simp only at hc hd
 subst hc hd
 rfl
theorem tS (it t:Addr)(i:Nat)(items:Array Value)(x:Value):Meets (Builtin.«tuple_iterator.__next__» { pos:=[.ref it] }) fun _ R s =>
  s.heap.IsTupleIter it t i/\s.heap.IsTuple t items/\items[i]?=some x/\∀h',h'.IsTupleIter it t (i+1)->Heap.SameBut it s.heap h'->R (.ok (.ret x)) { s with heap:=h' }:=by
 intro prog w A R s ⟨⟨o,e,hc,hd⟩,⟨o2,e2,hc2,n,hd2⟩,hx,h⟩
 refine MB (ME ?_)
 refine MB (wpAny_field (i:=0) e hd rfl ?_)
 refine MB (wpAny_field (i:=1) e hd rfl ?_)
 refine MB (wpAny_seqItems e2 hd2 ?_)
 show wpAny _ _ (match items[((i:Nat):Int).toNat]? with|some x=>_|none=>_) _ _ _
 rw[NR,hx]
 refine MB (wpAny_setField e hd (PF 1) ?_)
 refine ME ?_
 refine h _ ⟨_,Dk e hc hd,?_,?_⟩ (NZ _ _ _)
 ·obtain⟨c,d,da,sl⟩:=o
  simp only at hc hd
  subst hc hd
  rfl
 ·obtain⟨c,d,da,sl⟩:=o
  simp only at hc hd
  subst hc hd
  show Data.fields #[.ref t,rawInt ((i:Int)+1)]=Data.fields #[.ref t,.int ((i+1:Nat):Int) 0]
  rw[Q1]
  rfl
theorem D2 {α:Type}{M:Model}{A:Around}{E:Value->Shared->Prop}{s:Shared}{Q:α->Shared->Prop}(hh:A.handled=none)(h:∀h' e,(∀b o,s.heap.get? b=some o->h'.get? b=some o)->(∃o,h'.get? e=some o/\o.cls=.type "StopIteration")->E (.ref e) { s with heap:=h' }) :
  wpAny M A (Builtin.SmallTypes.stopIteration:Sem α) Q E s:=by
 refine MB ?_
 refine MB (wpAny_newTuple ?_)
 refine MB (ME ?_)
 refine wpAny_newObj_type (wpAny_raiseNew_none hh ?_)
 refine h _ _ (fun b o e=>MD _ (MD _ e)) ⟨_,MX _ rfl,rfl⟩
theorem wv (it t:Addr)(i:Nat)(items:Array Value):Meets (Builtin.«tuple_iterator.__next__» { pos:=[.ref it] }) fun A R s =>
  A.handled=none/\s.heap.IsTupleIter it t i/\s.heap.IsTuple t items/\items[i]?=none/\∀h' e,Heap.ExtBut it s.heap h'->(∃o,h'.get? e=some o/\o.cls=.type "StopIteration")->R (.error (.ref e)) { s with heap:=h' }:=by
 intro prog w A R s ⟨hh,⟨o,e,hc,hd⟩,⟨o2,e2,hc2,n,hd2⟩,hx,h⟩
 refine MB (ME ?_)
 refine MB (wpAny_field (i:=0) e hd rfl ?_)
 refine MB (wpAny_field (i:=1) e hd rfl ?_)
 refine MB (wpAny_seqItems e2 hd2 ?_)
 show wpAny _ _ (match items[((i:Nat):Int).toNat]? with|some x=>_|none=>_) _ _ _
 rw[NR,hx]
 refine MB (wpAny_rule ?_)
 refine MB (wpAny_setField e hd (PH 1) ?_)
 refine D2 hh fun h' x k1 k2=>h h' x (fun b o' hb eb=>k1 b o' ?_) k2
 show (s.heap.update it _).get? b=some o'
 rw[Heap.get?_update_ne _ _ _ _ hb]
 exact eb
section
variable {prog:Program}{w:World}{A:Around}{E:Value->Shared->Prop}{s:Shared}{it t:Addr}{i:Nat}{items:Array Value}
theorem kI {x:Value}{Q:Value->Shared->Prop}(hi:s.heap.IsTupleIter it t i)(ht:s.heap.IsTuple t items)(hx:items[i]?=some x)(h:∀h',h'.IsTupleIter it t (i+1)->Heap.SameBut it s.heap h'->Q x { s with heap:=h' }) :
  wpAny (model prog w) A (Builtin.SmallTypes.nextOf (.ref it)) Q E s:=by
 refine MB (wpAny_callSpecial?_slot hi.typeIs OT ?_)
 refine call_meets OT hi.typeIs F.entry_tuple_iterator_next (F.args_tuple_iterator_next_1 _) (tS it t i items x) ⟨hi,ht,hx,fun h' k1 k2=>ME (h h' k1 k2)⟩
theorem mC {Q:Value->Shared->Prop}(hh:A.handled=none)(hi:s.heap.IsTupleIter it t i)(ht:s.heap.IsTuple t items)(hx:items[i]?=none)(h:∀h' e,Heap.ExtBut it s.heap h'->(∃o,h'.get? e=some o/\o.cls=.type "StopIteration")->E (.ref e) { s with heap:=h' }) :
  wpAny (model prog w) A (Builtin.SmallTypes.nextOf (.ref it)) Q E s:=by
 refine MB (wpAny_callSpecial?_slot hi.typeIs OT ?_)
 exact call_meets OT hi.typeIs F.entry_tuple_iterator_next (F.args_tuple_iterator_next_1 _) (wv it t i items) ⟨hh,hi,ht,hx,h⟩
end
theorem n_ {h h':Heap}{it t:Addr}{i:Nat}(k:∀o,h.get? it=some o->h'.get? it=some o)(z:h.IsTupleIter it t i):h'.IsTupleIter it t i:=by
 obtain⟨o,e,r⟩:=z
 exact⟨o,k o e,r⟩
theorem oO {h h':Heap}{t:Addr}{items:Array Value}(k:∀o,h.get? t=some o->h'.get? t=some o)(z:h.IsTuple t items):h'.IsTuple t items:=by
 obtain⟨o,e,r⟩:=z
 exact⟨o,k o e,r⟩
theorem mM {prog:Program}{w:World}{A:Around}(hh:A.handled=none)(it t:Addr)(hne:t≠it)(items:Array Value) :
  Draws prog w A it [it,t] items.size (fun i v=>items[i]?=some v) fun i h=>h.IsTupleIter it t i/\h.IsTuple t items where
 live:=fun i h z=>let ⟨o,e,_⟩:=z.1;⟨o,e⟩
 frame:=fun i h h' z k=>⟨n_ (fun o e=>k it (by simp) o e) z.1,oO (fun o e=>k t (by simp) o e) z.2⟩
 item:=fun i s Q E hi z h=>kI z.1 z.2 (ND hi) fun h' k1 k2=>h _ h' s.toks (ND hi) ⟨k1,oO (fun o e=>by rw[k2.2 t hne];exact e) z.2⟩ k2
 done:=fun s Q E z h=>mC hh z.1 z.2 (OM (MM _)) h
theorem tH (t:Addr)(items:Array Value):Meets (Builtin.«enumerate.__new__» { pos:=[.type "enumerate",.ref t] }) fun _ R s =>
  s.heap.IsTuple t items/\∀h',IsEnum h' (s.heap.objs.size+1) s.heap.objs.size 0 .none->h'.IsTupleIter s.heap.objs.size t 0->(∀b o,s.heap.get? b=some o->h'.get? b=some o)->R (.ok (.ret (.ref (s.heap.objs.size+1)))) { s with heap:=h' }:=by
 intro prog w A R s ⟨ht,h⟩
 refine MB ?_
 refine MB (ME ?_)
 rw[sub_enumerate]
 refine MB (ME ?_)
 refine ME ?_
 refine MB (MB (wpAny_stack fun st _ _ _=>ME ?_))
 have fin:wpAny (model prog w) A.in1 (do
   let i <-pyIter (.ref t)
   let r <-Builtin.SmallTypes.newRecord (.type "enumerate") (Builtin.SmallTypes.ownedTupleFields++[i,rawInt 0,.none,.none])
   ret r) (fun fin s'=>match fin with
   | Fin.done f=>R (Except.ok f) s'
   | Fin.again c'=>c'.quiet=true/\codeAny (model prog w) A c' R s') (fun e s'=>R (Except.error e) s') s:=by
  refine MB (wpAny_pyIter_tuple ht ?_)
  refine MB (wpAny_newObj_type (T:="enumerate") (data:=.fields #[.none,.bool false,.ref s.heap.objs.size,rawInt 0,.none,.none]) ?_)
  refine ME ?_
  have hl:(s.heap.push { cls:=.type "tuple_iterator",data:=.fields #[.ref t,.int 0 0] }).objs.size=s.heap.objs.size+1:=OI ..
  have:=h ((s.heap.push { cls:=.type "tuple_iterator",data:=.fields #[.ref t,.int 0 0] }).push { cls:=.type "enumerate",data:=.fields #[.none,.bool false,.ref s.heap.objs.size,rawInt 0,.none,.none] }) (by
   have e:=MX (s.heap.push { cls:=.type "tuple_iterator",data:=.fields #[.ref t,.int 0 0] }) (o:={ cls:=.type "enumerate",data:=.fields #[.none,.bool false,.ref s.heap.objs.size,rawInt 0,.none,.none] }) rfl
   rw[hl] at e
   exact e) ⟨_,MD _ (MX _ rfl),rfl,rfl⟩ (fun b o e=>MD _ (MD _ e))
  rw[<-hl] at this
  exact this
 split
 ·rename_i c _ _ _ _ _
  generalize (c == Value.type "enumerate")=b
  cases b with
  | true=>exact MB (m:=pure (Value.ref t,none)) (ME fin)
  | false=>exact MB (m:=pure (Value.ref t,none)) (ME fin)
 ·exact MB (m:=pure (Value.ref t,none)) (ME fin)
theorem vU {prog:Program}{w:World}{A:Around}{E:Value->Shared->Prop}{s:Shared}{t:Addr}{items:Array Value}{Q:Value->Shared->Prop}(ht:s.heap.IsTuple t items)
  (h:∀h',IsEnum h' (s.heap.objs.size+1) s.heap.objs.size 0 .none->h'.IsTupleIter s.heap.objs.size t 0->(∀b o,s.heap.get? b=some o->h'.get? b=some o)->Q (.ref (s.heap.objs.size+1)) { s with heap:=h' }) :
  wpAny (model prog w) A (call (.type "enumerate") [.ref t]) Q E s:=by
 refine callType_new F.called_enumerate rfl (F.typeCall_enumerate_1 _) (F.newCall_enumerate_1 _) (fun obj=>?_) F.entry_enumerate_new (tH t items) ⟨ht,fun h' k1 k2 k3=>⟨⟨_,k1,rfl⟩,h h' k1 k2 k3⟩⟩
 exact F.args_object_init_2 _ _
noncomputable def Ite (K:W.Frag)(a:Addr):L2.It :=
 ⟨fun i H=>∃xs x,SqT K H a xs/\xs[i]?=some x,
  fun i H v H'=>∃T,v=.ref T/\H T=none/\∀xs x,SqT K H a xs->xs[i]?=some x->H'=upd H T (.tup [.int i,x]),
  fun i H=>∃xs,SqT K H a xs/\i=xs.length⟩
def Gm (a e it:Addr)(i:Nat)(h:Heap):Prop:=(∃old,IsEnum h e it (i:Int) old)/\h.IsTupleIter it a i
theorem zO {P:Program}{w:World}{K:W.Frag}{elts:List Expr}{kt:Nat}{pt:Pos}{a e it:Addr}(h1:e≠it)(h2:a≠e)(h3:a≠it) :
  zQ P w K (.Tuple elts kt pt) (Ite K a) [e,it] e (Gm a e it) where
 mem:=by simp
 obj:=fun i h st c hc=>by
  obtain⟨⟨old,q1⟩,⟨o4,e4,c4,d4⟩⟩:=st
  simp only[List.mem_cons,List.not_mem_nil,or_false] at hc
  rcases hc with rfl|rfl
  ·exact⟨_,q1,fun v z=>nomatch z⟩
  ·exact⟨o4,e4,fun v z=>by rw[d4] at z;cases z⟩
 keep:=fun i h h' st k=>by
  obtain⟨⟨old,q1⟩,q2⟩:=st
  exact⟨⟨old,k e (by simp) _ q1⟩,n_ (fun o z=>k it (by simp) o z) q2⟩
 item:=by
  intro X hP hw hK hc i pins s σ H E I hf st hg
  subst hP hw hK
  obtain⟨xs,x,hq1,hx⟩:=hg
  obtain⟨its1,rv1,p1,hz1⟩:=I.tuple hq1
  obtain⟨u1,hu1,ru1⟩:=rv1.get hx
  have W:=WalksT.enumerateD (A:=X.A) (mM (prog:=X.prog) (w:=X.w) (A:=X.A.in1) (I.ok.hd hc) it a h3 its1.toArray) e h1 (by simp[h1,Ne.symm h2]) (by simp)
  obtain⟨q1,q2⟩:=st
  have l1:=(MC.mp hu1).1
  have tp:s.heap.IsTuple a its1.toArray:=p1
  refine W.item i s _ _ (by rw[MY];exact l1) ⟨q1,q2,tp⟩ fun T vals h' tk hv hT isT mid kk=>?_
  obtain⟨tt,v1,e1,rfl⟩:=hv
  have z1:v1=u1:=by
   (have:its1[i]?=some v1:=by simpa using e1);rw[hu1] at this;cases this;rfl
  subst z1
  refine⟨_,rfl,W.go elts kt pt i T { s with heap:=h',toks:=tk } _ _ mid fun h'' st'' kk2=>?_⟩
  have ap:=W.apart i T h' mid
  obtain⟨o,eo,c,d⟩:=isT
  have I2:L2.Inv X pins σ (upd H T (.tup [.int i,x])) { s with heap:=h'',toks:=tk }:=xb (its:=[.int i tt,v1]) I (fun b o hb z=>kk2 b o hb (kk b o hb z)) (fun b hb=>hf b (by simpa using hb)) hT (.cons ⟨tt,rfl⟩ (.cons ru1 .nil)) (by simp[sizeLine]) ⟨o,kk2 T o ap eo,c,d⟩
  refine⟨.ref T,_,I2,rfl,⟨T,rfl,I.hok.fresh hT,fun xs' x' k1 k2=>?_⟩,⟨st''.1,st''.2.1⟩,fun b hb=>?_⟩
  ·rw[I.tuple_inj k1 hq1,hx] at k2
   cases k2;rfl
  ·have hlt:b<s.heap.objs.size:=by
    simp only[List.mem_cons,List.not_mem_nil,or_false] at hb
    obtain⟨old,q1⟩:=q1
    obtain⟨o5,e5,_⟩:=q2
    rcases hb with rfl|rfl
    ·exact MU q1
    ·exact MU e5
   rw[am (M2 (MG hlt hT))]
   exact(hf b hb).1
 done:=by
  intro X hP hw hK hc i pins s σ H E I hf st hg
  subst hP hw hK
  obtain⟨xs,hq1,rfl⟩:=hg
  obtain⟨its1,rv1,p1,hz1⟩:=I.tuple hq1
  have W:=WalksT.enumerateD (A:=X.A) (mM (prog:=X.prog) (w:=X.w) (A:=X.A.in1) (I.ok.hd hc) it a h3 its1.toArray) e h1 (by simp[h1,Ne.symm h2]) (by simp)
  obtain⟨q1,q2⟩:=st
  rw[rv1.length] at q1 q2
  exact W.done s _ _ ⟨by simpa using q1,by simpa using q2,p1⟩ fun h' tk kk=>⟨rfl,xU I kk fun b hb=>hf b (by simpa using hb)⟩
 self:=fun _ _ _ _ _ st h=>by
  obtain⟨⟨old,q1⟩,_⟩:=st
  exact wpAny_pyIter_enum q1 h
section
variable {X:Cx}
noncomputable def Hi (K:W.Frag)(ta:TA):TI:=fun σ H R=>ta σ H fun vs H1=>∃a,vs=[.ref a]/\(∃xs,SqT K H1 a xs)/\R (Ite K a) H1
theorem C8 {elts:List Expr}{kt:Nat}{pt:Pos}{a:Expr}{ta:TA}{p pos:Pos}(hg:Gl X "enumerate")(hm:X.mg "enumerate"=none)(ha:PA X [a] ta)(hs:starEach [a] X.env=[(false,eval a X.env)]) :
  PI X (.Tuple elts kt pt) (.Call (.Name "enumerate" p) [a] [] pos) (Hi X.K ta):=by
 intro pins s σ H R I h
 refine Call_ (jZ I hg hm boot_enumerate (N_ (thn (ha pos pins s σ H _ I h) fun us s1 ⟨vs,H1,I1,r1,q1⟩=>?_) (by rw[hs];rfl) rfl))
 obtain⟨l1,e,⟨xs,hq1⟩,q⟩:=q1
 subst e
 cases r1 with
 | cons r rr =>
  cases rr
  cases r
  obtain⟨its1,rv1,p1,hz1⟩:=I1.tuple hq1
  have tp:s1.heap.IsTuple l1 its1.toArray:=p1
  have lt1:l1<s1.heap.objs.size:=by obtain⟨_,e,_⟩:=tp;exact MU e
  refine vU tp fun h' k1 k2 kk=>?_
  refine wpAny_pyIter_enum k1 ?_
  refine⟨_,_,_,_,H1,rfl,I1.kept (t':=s1.toks) kk,zO (Nat.succ_ne_self _) (M2 (OE lt1)) (M2 lt1),⟨⟨_,k1⟩,k2⟩,fun b hb=>?_,q⟩
  have hb':s1.heap.objs.size<=b:=by
   simp only[List.mem_cons,List.not_mem_nil,or_false] at hb
   rcases hb with rfl|rfl <;> first|exact MM _|exact QQ _ _
  exact I1.fpOk hb' (I1.hok.fresh hb')
end
theorem ma:∀ {xs:List PV}{i:Int},(iL i xs).length=xs.length
 | [],i=>by simp[iL]
 | x::xs,i=>by simp only[iL,List.length_cons,ma (xs:=xs)]
theorem mv:∀ {xs:List PV}{k:Int}{i:Nat}{v:PV},(iL k xs)[i]?=some v->∃x,xs[i]?=some x/\v=.tup [.int (k+i),x]
 | [],k,i,v,h=>by simp[iL] at h
 | x::xs,k,0,v,h=>by simp[iL] at h;exact⟨x,rfl,by rw[<-h];simp⟩
 | x::xs,k,i+1,v,h=>by
  simp only[iL,List.getElem?_cons_succ] at h |-
  obtain⟨y,e,rfl⟩:=mv h
  refine⟨y,e,?_⟩
  rw[show k+1+(i:Int)=k+((i+1:Nat):Int) by omega]
theorem zI {K:W.Frag}{m0:List Addr}{H0:Hp}{a:Addr}{xs:List PV}{ys:List V}(h:SqT K H0 a ys)(r0:Rs K m0 H0 xs ys):rD K (Ite K a) (iL 0 xs) (fun _=>True) m0 H0:=by
 refine⟨fun m H st x r q=>⟨ys,x.tup _ _ h,by rw[ma,r0.len]⟩,fun i v m H st x r q ev=>?_⟩
 obtain⟨u,e1,rfl⟩:=mv ev
 obtain⟨y1,f1,q1⟩:=r0.get e1
 refine⟨⟨ys,y1,x.tup _ _ h,f1⟩,?_⟩
 rintro z H' ⟨T,rfl,hT,hh⟩
 have:=hh ys y1 (x.tup _ _ h) f1
 subst this
 refine⟨Ext.newT r hT,r.newT hT,R_tup.mpr ⟨T,[.int i,y1],rfl,SqT.of bH,?_⟩⟩
 rw[Rs_cons',Rs_cons',Rs_nil,R_int]
 exact⟨by simp,(q1.mono x).mono (Ext.newT r hT),rfl⟩
end FW
namespace FW
open L2 HX
structure Zs where
 it:Addr
 c:Bool × Addr
 xs:Array Value
noncomputable abbrev Zs.a (q:Zs):Addr:=q.c.2
def ItB (h:Heap)(it:Addr)(c:Bool × Addr)(i:Nat):Prop:=if c.1=true then h.IsListIter it c.2 i else h.IsTupleIter it c.2 i
def SeqB (h:Heap)(c:Bool × Addr)(xs:Array Value):Prop:=if c.1=true then h.IsList c.2 xs else h.IsTuple c.2 xs
theorem ItB.keep {h h':Heap}{it:Addr}{c:Bool × Addr}{i:Nat}(z:ItB h it c i)(k:∀o,h.get? it=some o->h'.get? it=some o):ItB h' it c i:=by
 obtain⟨b,a⟩:=c
 cases b with
 | true=>exact(show h.IsListIter it a i from z).at k
 | false=>exact n_ k (show h.IsTupleIter it a i from z)
theorem ItB.obj {h:Heap}{it:Addr}{c:Bool × Addr}{i:Nat}(z:ItB h it c i):∃o vs,h.get? it=some o/\o.data=.fields vs:=by
 obtain⟨b,a⟩:=c
 cases b with
 | true=>obtain⟨o,e,_,d⟩:=(show h.IsListIter it a i from z);exact⟨o,_,e,d⟩
 | false=>obtain⟨o,e,_,d⟩:=(show h.IsTupleIter it a i from z);exact⟨o,_,e,d⟩
theorem SeqB.keep {h h':Heap}{c:Bool × Addr}{xs:Array Value}(z:SeqB h c xs)(k:∀o,h.get? c.2=some o->h'.get? c.2=some o):SeqB h' c xs:=by
 obtain⟨b,a⟩:=c
 cases b with
 | true=>exact(show h.IsList a xs from z).at k
 | false=>exact oO k (show h.IsTuple a xs from z)
def SrcAt (h:Heap)(q:Zs)(i:Nat):Prop:=ItB h q.it q.c i/\SeqB h q.c q.xs
theorem SrcAt.keep {h h':Heap}{q:Zs}{i:Nat}(z:SrcAt h q i)(k1:∀o,h.get? q.it=some o->h'.get? q.it=some o)(k2:∀o,h.get? q.a=some o->h'.get? q.a=some o):SrcAt h' q i:=⟨z.1.keep k1,z.2.keep k2⟩
theorem SrcAt.obj {h:Heap}{q:Zs}{i:Nat}(z:SrcAt h q i):∃o vs,h.get? q.it=some o/\o.data=.fields vs:=z.1.obj
section
variable {prog:Program}{w:World}{A:Around}{E:Value->Shared->Prop}{s:Shared}{q:Zs}{i:Nat}
theorem u9 {x:Value}{Q:Value->Shared->Prop}(hne:q.a≠q.it)(h:SrcAt s.heap q i)(hx:q.xs[i]?=some x)(hQ:∀h',SrcAt h' q (i+1)->Heap.SameBut q.it s.heap h'->Q x { s with heap:=h' }):wpAny (model prog w) A (Builtin.SmallTypes.nextOf (.ref q.it)) Q E s:=by
 obtain⟨it,⟨b,a⟩,xs⟩:=q
 obtain⟨z1,z2⟩:=h
 cases b with
 | true=>exact wpAny_nextOf_list_item (show s.heap.IsListIter it a i from z1) (show s.heap.IsList a xs from z2) hx fun h' k1 k2=>hQ h' ⟨k1,z2.keep fun o e=>by rw[k2.2 _ hne];exact e⟩ k2
 | false=>exact kI (show s.heap.IsTupleIter it a i from z1) (show s.heap.IsTuple a xs from z2) hx fun h' k1 k2=>hQ h' ⟨k1,z2.keep fun o e=>by rw[k2.2 _ hne];exact e⟩ k2
theorem CU {Q:Value->Shared->Prop}(hh:A.handled=none)(h:SrcAt s.heap q i)(hx:q.xs[i]?=none)(hE:∀h' e,Heap.ExtBut q.it s.heap h'->(∃o,h'.get? e=some o/\o.cls=.type "StopIteration")->E (.ref e) { s with heap:=h' }):wpAny (model prog w) A (Builtin.SmallTypes.nextOf (.ref q.it)) Q E s:=by
 obtain⟨it,⟨b,a⟩,xs⟩:=q
 obtain⟨z1,z2⟩:=h
 cases b with
 | true=>exact wpAny_nextOf_list_end hh (show s.heap.IsListIter it a i from z1) (show s.heap.IsList a xs from z2) hx hE
 | false=>exact mC hh (show s.heap.IsTupleIter it a i from z1) (show s.heap.IsTuple a xs from z2) hx hE
theorem C0 {c:Bool × Addr}{xs:Array Value}{Q:Value->Shared->Prop}(h:SeqB s.heap c xs)(hQ:∀o,ItB (s.heap.push o) s.heap.objs.size c 0->Q (.ref s.heap.objs.size) { s with heap:=s.heap.push o }):wpAny (model prog w) A (pyIter (.ref c.2)) Q E s:=by
 obtain⟨b,a⟩:=c
 cases b with
 | true=>exact wpAny_pyIter_list (show s.heap.IsList a xs from h) (hQ _ ⟨_,MX _ rfl,rfl,rfl⟩)
 | false=>exact wpAny_pyIter_tuple (show s.heap.IsTuple a xs from h) (hQ _ ⟨_,MX _ rfl,rfl,rfl⟩)
end
noncomputable abbrev dg (xs:List Value):Obj:={ cls:=.type "tuple",data:=.seq xs.toArray }
structure ZA (z TI TO:Addr)(ss:List Zs):Prop where
 nd:(z::TI::TO::ss.map Zs.it).Nodup
 ap:∀q∈ss,q.a ∉ z::TI::TO::ss.map Zs.it
section
variable {prog:Program}{w:World}{A:Around}{E:Value->Shared->Prop}{z TI TO:Addr}{i:Nat}
def AU (prog:Program)(w:World)(A:Around)(z TI TO:Addr)(f:Value × Nat->Option Fin × Unit->Sem (ForInStep (Option Fin × Unit))):Prop :=
 ∀(it:Addr) (k:Nat) (s:Shared) (R:ForInStep (Option Fin × Unit)->Shared->Prop) (E:Value->Shared->Prop),
  wpAny (model prog w) A (Builtin.SmallTypes.nextOf (.ref it)) (fun x s1=>∃arr,s1.heap.get? TO=some (dg arr)/\arr.length<=sizeLine/\∀h',h'.get? TO=some (dg (arr.set k x))->Heap.SameBut TO s1.heap h'->R (.yield (none,())) { s1 with heap:=h' })
   (fun e s1=>IsZip s1.heap z TI TO .ellipsis/\∀h',IsZip h' z TI TO .none->Heap.SameBut z s1.heap h'->E e { s1 with heap:=h' }) s ->
  wpAny (model prog w) A (f (.ref it,k) (none,())) R E s
theorem DR {f:Value × Nat->Option Fin × Unit->Sem (ForInStep (Option Fin × Unit))}(hf:AU prog w A z TI TO f):∀ {ss dn:List Zs}{dx xs arr:List Value}{s:Shared}{R:Option Fin × Unit->Shared->Prop},ZA z TI TO (dn++ss)->(dn++ss).length<=sizeLine ->
  Paired (fun (q:Zs) (x:Value)=>q.xs[i]?=some x) ss xs->dx.length=dn.length->arr.length=ss.length->IsZip s.heap z TI TO .ellipsis->s.heap.get? TO=some (dg (dx++arr))->(∀q∈dn,SrcAt s.heap q (i+1))->(∀q∈ss,SrcAt s.heap q i) ->
  (∀h',IsZip h' z TI TO .ellipsis->h'.get? TO=some (dg (dx++xs))->(∀q∈dn++ss,SrcAt h' q (i+1))->h'.objs.size=s.heap.objs.size->(∀c o,c ∉ TO::(dn++ss).map Zs.it->s.heap.get? c=some o->h'.get? c=some o)->R (none,()) { s with heap:=h' }) ->
  wpAny (model prog w) A (forIn ((ss.map fun q=>Value.ref q.it).zipIdx dn.length) (none,()) f) R E s:=by
 intro ss
 induction ss with
 | nil =>
  intro dn dx xs arr s R ap hsz hp hl ha hz hTO h1 h2 hR
  cases hp
  have:arr=[]:=N1.mp ha
  subst this
  exact ME (hR s.heap hz hTO (by simpa using h1) rfl fun c o _ e=>e)
 | cons q ss ih =>
  intro dn dx xs arr s R ap hsz hp hl ha hz hTO h1 h2 hR
  cases hp with
  | @cons _ x _ xs hx hp =>
  cases arr with
  | nil=>simp at ha
  | cons b arr =>
  rw[M7,List.zipIdx_cons,O5]
  have nd:=ap.nd
  have qm:q∈dn++q::ss:=by simp
  have im:q.it∈(dn++q::ss).map Zs.it:=MZ.mpr ⟨q,qm,rfl⟩
  have zi:z≠q.it:=fun e=>by
   have:=(MP.mp nd).1
   exact this (by simp[e])
  have ti:TO≠q.it:=fun e=>by
   have:=(MP.mp (MP.mp (MP.mp nd).2).2).1
   exact this (by rw[e];exact im)
  have zt:z≠TO:=fun e=>by
   have:=(MP.mp nd).1
   exact this (by simp[e])
  have ni:=(MP.mp (MP.mp (MP.mp nd).2).2).2
  have oth:∀p,p∈dn\/p∈ss->p.it≠q.it:=fun p hp e=>by
   rw[M8,M7] at ni
   rcases hp with hp|hp
   ·have:=(OY.mp ni).2.2 p.it (MZ.mpr ⟨p,hp,rfl⟩) q.it (by simp)
    exact this e
   ·have:=(MP.mp (OY.mp ni).2.1).1
    exact this (by rw[<-e];exact MZ.mpr ⟨p,hp,rfl⟩)
  have apa:∀p∈dn++q::ss,p.a≠q.it/\p.a≠TO:=fun p hp=>⟨fun e=>ap.ap p hp (by rw[e];simp),fun e=>ap.ap p hp (by rw[e];simp)⟩
  have tot:∀p∈dn++q::ss,p.it≠TO:=fun p hp e=>by
   have:=(MP.mp (MP.mp (MP.mp nd).2).2).1
   exact this (by rw[<-e];exact MZ.mpr ⟨p,hp,rfl⟩)
  refine MB (hf q.it dn.length s _ _ ?_)
  refine u9 (apa q qm).1 (h2 q (by simp)) hx fun h' k1 k2=>⟨dx++b::arr,by show h'.get? TO=_;rw[k2.2 TO ti];exact hTO,by rw[NF,hl,ha,<-NF];exact hsz,fun h'' k3 k4=>?_⟩
  have both:∀c o,c≠q.it->c≠TO->s.heap.get? c=some o->h''.get? c=some o:=fun c o c1 c2 e=>by
   rw[k4.2 c c2]
   show h'.get? c=some o
   rw[k2.2 c c1]
   exact e
  have e3:(dx++b::arr).set dn.length x=(dx++[x])++arr:=by
   rw[<-hl,O7 _ _ (MM _),QS]
   simp
  rw[e3] at k3
  have ea:dn++q::ss=(dn++[q])++ss:=by simp
  have el:dn.length+1=(dn++[q]).length:=by simp
  show wpAny _ _ (forIn ((ss.map fun q=>Value.ref q.it).zipIdx (dn.length+1)) (none,()) f) R E _
  rw[el]
  refine ih (dn:=dn++[q]) (dx:=dx++[x]) (xs:=xs) (arr:=arr) (by rw[<-ea];exact ap) (by rw[<-ea];exact hsz) hp (by simp[hl]) (by simpa using ha) (both z _ zi zt hz) k3 (fun p hp=>?_) (fun p hp=>?_) fun h3 j1 j2 j3 j4 j5=>?_
  ·rcases MW.mp hp with hp|hp
   ·exact(h1 p hp).keep (fun o e=>both _ o (oth p (.inl hp)) (tot p (by simp[hp])) e) fun o e=>both _ o (apa p (by simp[hp])).1 (apa p (by simp[hp])).2 e
   ·rw[MI] at hp
    subst hp
    exact k1.keep (fun o e=>by rw[k4.2 _ (Ne.symm ti)];exact e) fun o e=>by rw[k4.2 _ (apa p qm).2];exact e
  ·exact(h2 p (by simp[hp])).keep (fun o e=>both _ o (oth p (.inr hp)) (tot p (by simp[hp])) e) fun o e=>both _ o (apa p (by simp[hp])).1 (apa p (by simp[hp])).2 e
  ·refine hR h3 j1 (by rw[j2];simp) (by rw[ea];exact j3) (by rw[j4,k4.1];exact k2.1) fun c o hc e=>?_
   rw[ea] at hc
   refine j5 c o hc (both c o (fun z=>hc ?_) (fun z=>hc ?_) e)
   ·rw[z];simp
   ·rw[z];simp
theorem Bx {f:Value × Nat->Option Fin × Unit->Sem (ForInStep (Option Fin × Unit))}(hf:AU prog w A z TI TO f)(hh:A.handled=none):∀ {ss dn:List Zs}{dx arr:List Value}{s:Shared}{R:Option Fin × Unit->Shared->Prop},ZA z TI TO (dn++ss)->(dn++ss).length<=sizeLine ->
  (∃q∈ss,q.xs[i]?=none)->dx.length=dn.length->arr.length=ss.length->IsZip s.heap z TI TO .ellipsis->s.heap.get? TO=some (dg (dx++arr))->(∀q∈ss,SrcAt s.heap q i) ->
  (∀h' e,(∀c o,c ∉ z::TO::(dn++ss).map Zs.it->s.heap.get? c=some o->h'.get? c=some o)->(∃o,h'.get? e=some o/\o.cls=.type "StopIteration")->E (.ref e) { s with heap:=h' }) ->
  wpAny (model prog w) A (forIn ((ss.map fun q=>Value.ref q.it).zipIdx dn.length) (none,()) f) R E s:=by
 intro ss
 induction ss with
 | nil =>
  intro dn dx arr s R ap hsz hq
  obtain⟨q,hq,_⟩:=hq
  cases hq
 | cons q ss ih =>
  intro dn dx arr s R ap hsz hq hl ha hz hTO h2 hE
  cases arr with
  | nil=>simp at ha
  | cons b arr =>
  rw[M7,List.zipIdx_cons,O5]
  have nd:=ap.nd
  have qm:q∈dn++q::ss:=by simp
  have im:q.it∈(dn++q::ss).map Zs.it:=MZ.mpr ⟨q,qm,rfl⟩
  have zi:z≠q.it:=fun e=>(MP.mp nd).1 (by simp[e])
  have ti:TO≠q.it:=fun e=>(MP.mp (MP.mp (MP.mp nd).2).2).1 (by rw[e];exact im)
  have zt:z≠TO:=fun e=>(MP.mp nd).1 (by simp[e])
  have ni:=(MP.mp (MP.mp (MP.mp nd).2).2).2
  have oth:∀p,p∈ss->p.it≠q.it:=fun p hp e=>by
   rw[M8,M7] at ni
   exact(MP.mp (OY.mp ni).2.1).1 (by rw[<-e];exact MZ.mpr ⟨p,hp,rfl⟩)
  have apa:∀p∈dn++q::ss,p.a≠q.it/\p.a≠TO:=fun p hp=>⟨fun e=>ap.ap p hp (by rw[e];simp),fun e=>ap.ap p hp (by rw[e];simp)⟩
  have tot:∀p∈dn++q::ss,p.it≠TO:=fun p hp e=>(MP.mp (MP.mp (MP.mp nd).2).2).1 (by rw[<-e];exact MZ.mpr ⟨p,hp,rfl⟩)
  refine MB (hf q.it dn.length s _ _ ?_)
  cases hx:q.xs[i]? with
  | none =>
   refine CU hh (h2 q (by simp)) hx fun h' e k1 k2=>?_
   have hz2:IsZip h' z TI TO .ellipsis:=k1 _ _ zi hz
   obtain⟨oe,he,hc⟩:=k2
   have ez:e≠z:=fun z=>by subst z;rw[hz2] at he;cases he;simp at hc
   refine⟨hz2,fun h'' _ k4=>hE h'' e (fun c o hc e=>?_) ⟨oe,by rw[k4.2 e ez];exact he,hc⟩⟩
   rw[k4.2 c (fun z=>hc (by rw[z];simp))]
   exact k1 c o (fun z=>hc (by rw[z];simp)) e
  | some x =>
   refine u9 (apa q qm).1 (h2 q (by simp)) hx fun h' k1 k2=>⟨dx++b::arr,by show h'.get? TO=_;rw[k2.2 TO ti];exact hTO,by rw[NF,hl,ha,<-NF];exact hsz,fun h'' k3 k4=>?_⟩
   have both:∀c o,c≠q.it->c≠TO->s.heap.get? c=some o->h''.get? c=some o:=fun c o c1 c2 e=>by
    rw[k4.2 c c2]
    show h'.get? c=some o
    rw[k2.2 c c1]
    exact e
   have e3:(dx++b::arr).set dn.length x=(dx++[x])++arr:=by
    rw[<-hl,O7 _ _ (MM _),QS]
    simp
   rw[e3] at k3
   have ea:dn++q::ss=(dn++[q])++ss:=by simp
   have el:dn.length+1=(dn++[q]).length:=by simp
   show wpAny _ _ (forIn ((ss.map fun q=>Value.ref q.it).zipIdx (dn.length+1)) (none,()) f) R E _
   rw[el]
   obtain⟨p,hp,hn⟩:=hq
   have hp':p∈ss:=by
    rcases NA.mp hp with rfl|h
    ·rw[hx] at hn;cases hn
    ·exact h
   refine ih (dn:=dn++[q]) (dx:=dx++[x]) (arr:=arr) (by rw[<-ea];exact ap) (by rw[<-ea];exact hsz) ⟨p,hp',hn⟩ (by simp[hl]) (by simpa using ha) (both z _ zi zt hz) k3 (fun p hp=>?_) fun h3 e j1 j2=>hE h3 e (fun c o hc e=>?_) j2
   ·exact(h2 p (by simp[hp])).keep (fun o e=>both _ o (oth p hp) (tot p (by simp[hp])) e) fun o e=>both _ o (apa p (by simp[hp])).1 (apa p (by simp[hp])).2 e
   ·rw[ea] at hc
    refine j1 c o hc (both c o (fun z=>hc ?_) (fun z=>hc ?_) e)
    ·rw[z];simp
    ·rw[z];simp
theorem FJ {s:Shared}{xs:List Value}{k:Nat}{x:Value}{Q:Unit->Shared->Prop}(hT:s.heap.get? TO=some (dg xs))(hs:xs.length<=sizeLine)(h:∀h',h'.get? TO=some (dg (xs.set k x))->Heap.SameBut TO s.heap h'->Q () { s with heap:=h' }) :
  wpAny (model prog w) A (updateSeq TO fun v=>v.setIfInBounds k x) Q E s:=by
 refine wpAny_updateSeq hT rfl (h _ ?_ (NZ _ _ _)) (by simpa using hs) (by simp;exact Nat.le_succ_of_le ‹_›)
 rw[NL _ hT rfl]
 simp[Obj.mapSeq]
theorem Cn {s:Shared}{T:Addr}{Q:Unit->Shared->Prop}(hz:IsZip s.heap z TI TO .ellipsis)(h:∀h',IsZip h' z TI TO (rawInt T)->Heap.SameBut z s.heap h'->Q () { s with heap:=h' }):wpAny (model prog w) A (Builtin.SmallTypes.ownedTupleHandOut (.ref z) (.ref T)) Q E s:=by
 refine MB (wpAny_setField_rec hz (PH _) fun h1 k1 k2=>?_)
 have k1:IsZip h1 z TI TO (rawInt T):=k1
 refine wpAny_setField_rec k1 (Nat.succ_lt_succ (PH _)) fun h2 k3 k4=>?_
 exact h h2 k3 ⟨k4.1.trans k2.1,fun c hc=>(k4.2 c hc).trans (k2.2 c hc)⟩
theorem um {s:Shared}{ss:List Zs}{arr:List Value}{Q:Fin->Shared->Prop}(hz:IsZip s.heap z TI TO .none)(hTI:s.heap.get? TI=some (dg (ss.map fun q=>Value.ref q.it)))(hTO:s.heap.get? TO=some (dg arr))(hne:ss≠[])
  (h:∀f h',AU prog w A z TI TO f->IsZip h' z TI TO .ellipsis->Heap.SameBut z s.heap h'->wpAny (model prog w) A (forIn ((ss.map fun q=>Value.ref q.it).zipIdx 0) (none,()) f) (fun r s1=>r.1=none/\IsZip s1.heap z TI TO .ellipsis/\∃xs,s1.heap.get? TO=some (dg xs)/\xs.length<=sizeLine /\
   ∀h2,IsZip h2 z TI TO (rawInt s1.heap.objs.size)->h2.get? s1.heap.objs.size=some (dg xs)->h2.objs.size=s1.heap.objs.size+1->(∀c o,c≠z->s1.heap.get? c=some o->h2.get? c=some o)->Q (.done (.ret (.ref s1.heap.objs.size))) { s1 with heap:=h2 }) E { s with heap:=h' }) :
  wpAny (model prog w) A (Builtin.«zip.__next__» ⟨[.ref z],[]⟩) Q E s:=by
 have hemp:(ss.map fun q=>Value.ref q.it).toArray.isEmpty=false:=by
  cases ss with
  | nil=>exact absurd rfl hne
  | cons a b=>rfl
 refine MB (ME ?_)
 refine MB (wpAny_field (i:=2) hz rfl rfl ?_)
 refine MB (wpAny_field (i:=3) hz rfl rfl ?_)
 refine MB (wpAny_seqItems hTI rfl ?_)
 dsimp only
 rw[hemp]
 simp only[Bool.false_eq_true,if_false]
 refine MB (MB (wpAny_field (i:=0) hz rfl rfl (ME ?_)))
 rw[ML rfl]
 refine MB (wpAny_rule ?_)
 refine MB (wpAny_field (i:=4) hz rfl rfl ?_)
 refine MB (wpAny_setField_rec hz (PH _) fun h1 k1 k2=>?_)
 refine MB (wpAny_mono (h _ h1 ?_ k1 k2) (fun r s1 hr=>?_) fun _ _ e=>e)
 ·intro it k s2 R E2 hw
  refine MB (wpAny_onRaise ?_)
  refine MB (m:=Builtin.SmallTypes.nextOf (.ref it)) (wpAny_mono hw (fun x s3 hx=>?_) fun e s3 he=>?_)
  ·obtain⟨arr,e1,e0,e2⟩:=hx
   refine ME ?_
   refine MB (wpAny_seqItems e1 rfl ?_)
   refine MB (FJ e1 e0 fun h' q1 q2=>?_)
   exact MB (wpAny_letGo (ME (e2 h' q1 q2)))
  ·exact wpAny_setField_rec he.1 (PH _) fun h' q1 q2=>he.2 h' q1 q2
 ·obtain⟨hn,z1,xs,t1,lx,q⟩:=hr
  rw[hn]
  refine MB (wpAny_seqItems t1 rfl ?_)
  refine MB (wpAny_newTuple ?_ lx)
  have z2:IsZip (s1.heap.push (dg xs)) z TI TO .ellipsis:=MD _ z1
  refine MB (Cn (s:={ s1 with heap:=s1.heap.push (dg xs) }) z2 fun h' q1 q2=>ME ?_)
  have nz:s1.heap.objs.size≠z:=fun e=>absurd (MU z1) (by rw[<-e];exact OO _)
  refine q h' q1 (by rw[q2.2 _ nz];exact MX _ rfl) (q2.1.trans (OI _ _)) fun c o hc e=>?_
  rw[q2.2 c hc]
  exact MD _ e
def ZSt (z TI TO:Addr)(its:List Addr)(h:Heap):Prop:=IsZip h z TI TO .none/\h.get? TI=some (dg (its.map Value.ref))/\∃arr,arr.length=its.length/\h.get? TO=some (dg arr)
theorem Ai {ss:List Zs}:(ss.map fun q=>Value.ref q.it)=(ss.map Zs.it).map Value.ref:=by rw[NQ];rfl
theorem Bf {s:Shared}{ss:List Zs}{xs:List Value}{Q:Option Value->Shared->Prop}(ap:ZA z TI TO ss)(hne:ss≠[])(hs:ss.length<=sizeLine)(hz:ZSt z TI TO (ss.map Zs.it) s.heap)(h1:∀q∈ss,SrcAt s.heap q i)(hp:Paired (fun (q:Zs) (x:Value)=>q.xs[i]?=some x) ss xs)
  (hQ:∀h' T,s.heap.objs.size<=T->IsZip h' z TI TO (rawInt T)->h'.get? TI=some (dg ((ss.map Zs.it).map Value.ref))->h'.get? TO=some (dg xs)->(∀q∈ss,SrcAt h' q (i+1))->h'.get? T=some (dg xs)->T ∉ z::TI::TO::ss.map Zs.it->(∀c o,c ∉ z::TI::TO::ss.map Zs.it->s.heap.get? c=some o->h'.get? c=some o)->Q (some (.ref T)) { s with heap:=h' }) :
  wpAny (model prog w) A (pyNext (.ref z)) Q E s:=by
 obtain⟨z1,t1,arr,la,t2⟩:=hz
 have hT:s.TypeIs (.ref z) "zip":=⟨_,z1,rfl⟩
 have nd:=ap.nd
 have TIz:TI≠z:=fun e=>(MP.mp nd).1 (by simp[e])
 have TOz:TO≠z:=fun e=>(MP.mp nd).1 (by simp[e])
 have itz:∀q∈ss,q.it≠z:=fun q hq e=>(MP.mp nd).1 (by rw[<-e];simp;exact .inr (.inr ⟨q,hq,rfl⟩))
 have az:∀q∈ss,q.a≠z:=fun q hq e=>ap.ap q hq (by rw[e];simp)
 have TIn:=(MP.mp (MP.mp nd).2).1
 refine MB (wpAny_attempt (wpAny_callSpecial?_slot hT QF (wpAny_call_entry QF hT F.entry_zip_next ?_ (F.args_zip_next_1 _))))
 refine um (arr:=arr) z1 (by rw[Ai];exact t1) t2 hne fun f h1' hf k1 k2=>?_
 have src:∀q∈ss,SrcAt h1' q i:=fun q hq=>(h1 q hq).keep (fun o e=>by rw[k2.2 _ (itz q hq)];exact e) fun o e=>by rw[k2.2 _ (az q hq)];exact e
 have lp:=hp.length
 refine DR (dn:=[]) (dx:=[]) (s:={ s with heap:=h1' }) hf ap hs hp rfl (by rw[la,MS]) k1 (by rw[k2.2 _ TOz];exact t2) (fun q hq=>nomatch hq) src fun h2 j1 j2 j3 j4 j5=>?_
 refine⟨rfl,j1,xs,j2,by rw[<-lp];exact hs,fun h3 m1 m2 m3 m4=>⟨_,rfl,ME ?_⟩⟩
 have big:∀c o,s.heap.get? c=some o->c≠h2.objs.size:=fun c o e z=>by
  have:=MU e
  rw[z,j4,k2.1] at this
  exact absurd this (OO _)
 have all:∀c o,c ∉ z::TI::TO::ss.map Zs.it->s.heap.get? c=some o->h3.get? c=some o:=fun c o hc e=>by
  refine m4 c o (fun z=>hc (by rw[z];simp)) (j5 c o (fun z=>hc ?_) ?_)
  ·rcases NA.mp z with z|z
   ·rw[z];simp
   ·exact MT _ (MT _ (MT _ z))
  ·show h1'.get? c=some o
   rw[k2.2 c (fun z=>hc (by rw[z];simp))]
   exact e
 refine hQ h3 _ (by rw[j4,k2.1];exact MM _) m1 ?_ (m4 _ _ TOz j2) (fun q hq=>(j3 q hq).keep (fun o e=>m4 _ o (itz q hq) e) fun o e=>m4 _ o (az q hq) e) m2 (fun hm=>?_) all
 ·refine m4 _ _ TIz (j5 _ _ (fun z=>TIn ?_) ?_)
  ·exact z
  ·show h1'.get? TI=_
   rw[k2.2 _ TIz]
   exact t1
 ·simp only[List.mem_cons] at hm
  rcases hm with e|e|e|e
  ·exact big z _ z1 e.symm
  ·exact big TI _ t1 e.symm
  ·exact big TO _ t2 e.symm
  ·obtain⟨q,hq,e⟩:=MZ.mp e
   obtain⟨o,_,eo,_⟩:=(h1 q hq).obj
   exact big _ _ eo e
theorem Am {s:Shared}{ss:List Zs}{Q:Option Value->Shared->Prop}(hh:A.handled=none)(ap:ZA z TI TO ss)(hs:ss.length<=sizeLine)(hz:ZSt z TI TO (ss.map Zs.it) s.heap)(h1:∀q∈ss,SrcAt s.heap q i)(hn:∃q∈ss,q.xs[i]?=none)
  (hQ:∀h',(∀c o,c ∉ z::TI::TO::ss.map Zs.it->s.heap.get? c=some o->h'.get? c=some o)->Q none { s with heap:=h' }):wpAny (model prog w) A (pyNext (.ref z)) Q E s:=by
 obtain⟨z1,t1,arr,la,t2⟩:=hz
 have hT:s.TypeIs (.ref z) "zip":=⟨_,z1,rfl⟩
 have nd:=ap.nd
 have TOz:TO≠z:=fun e=>(MP.mp nd).1 (by simp[e])
 have itz:∀q∈ss,q.it≠z:=fun q hq e=>(MP.mp nd).1 (by rw[<-e];simp;exact .inr (.inr ⟨q,hq,rfl⟩))
 have az:∀q∈ss,q.a≠z:=fun q hq e=>ap.ap q hq (by rw[e];simp)
 have hne:ss≠[]:=fun e=>by obtain⟨q,hq,_⟩:=hn;rw[e] at hq;cases hq
 refine MB (wpAny_attempt (wpAny_callSpecial?_slot hT QF (wpAny_call_entry QF hT F.entry_zip_next ?_ (F.args_zip_next_1 _))))
 refine um (arr:=arr) z1 (by rw[Ai];exact t1) t2 hne fun f h1' hf k1 k2=>?_
 have src:∀q∈ss,SrcAt h1' q i:=fun q hq=>(h1 q hq).keep (fun o e=>by rw[k2.2 _ (itz q hq)];exact e) fun o e=>by rw[k2.2 _ (az q hq)];exact e
 refine Bx (A:=A.in1) (dn:=[]) (dx:=[]) (s:={ s with heap:=h1' }) hf hh ap hs hn rfl (by rw[la,MS]) k1 (by rw[k2.2 _ TOz];exact t2) src fun h2 e j1 j2=>?_
 refine MB (wpAny_isInstance (T:="StopIteration") (b:=true) j2 isSubtype_stop (ME (hQ h2 fun c o hc e=>?_)))
 refine j1 c o (fun z=>hc ?_) ?_
 ·rcases NA.mp z with z|z
  ·rw[z];simp
  ·rcases NA.mp z with z|z
   ·rw[z];simp
   ·exact MT _ (MT _ (MT _ z))
 ·show h1'.get? c=some o
  rw[k2.2 c (fun z=>hc (by rw[z];simp))]
  exact e
end
def SqB (K:W.Frag)(H:Hp)(c:Bool × Addr)(xs:List V):Prop:=if c.1=true then SqL K H c.2 xs else SqT K H c.2 xs
noncomputable def Itn (K:W.Frag)(cs:List (Bool × Addr)):L2.It :=
 ⟨fun i H=>∃xss ys,Paired (SqB K H) cs xss/\Paired (fun (xs:List V) (y:V)=>xs[i]?=some y) xss ys,
  fun i H v H'=>∃T,v=.ref T/\H T=none/\∀xss ys,Paired (SqB K H) cs xss->Paired (fun (xs:List V) (y:V)=>xs[i]?=some y) xss ys->H'=upd H T (.tup ys),
  fun i H=>∃xss,Paired (SqB K H) cs xss/\∃xs∈xss,xs.length=i⟩
theorem td {α β:Type}{F:α->β->Prop}:∀ {l:List α}{r:List β}{a:α},Paired F l r->a∈l->∃b∈r,F a b
 | _,_,_,.nil,h=>nomatch h
 | _,_,_,.cons f t,h=>by
  rcases NA.mp h with rfl|h
  ·exact⟨_,by simp,f⟩
  ·obtain⟨b,h1,h2⟩:=td t h
   exact⟨b,by simp[h1],h2⟩
theorem vM {X:Cx}{pins:List (Addr × Obj)}{σ:L2.St}{H:Hp}{s:Shared}{i:Nat}(I:L2.Inv X pins σ H s):∀ {its:List Addr}{cs:List (Bool × Addr)}{xss:List (List V)},Paired (fun it c=>ItB s.heap it c i) its cs->Paired (SqB X.K H) cs xss ->
  ∃ss:List Zs,ss.map Zs.it=its/\ss.map Zs.c=cs/\(∀q∈ss,SrcAt s.heap q i)/\Paired (fun (q:Zs) (xs:List V)=>Vals xs q.xs.toList) ss xss
 | _,_,_,.nil,.nil=>⟨[],rfl,rfl,fun q hq=>(nomatch hq),.nil⟩
 | _,_,_,.cons (a:=it) (b:=c) h1 t1,.cons (b:=xs) h2 t2=>by
  obtain⟨ss,e1,e2,e3,e4⟩:=vM I t1 t2
  obtain⟨b,a⟩:=c
  cases b with
  | true =>
   obtain⟨its1,rv1,p1,hz1⟩:=I.list (show SqL X.K H a xs from h2)
   refine⟨⟨it,(true,a),its1.toArray⟩::ss,by rw[M7,e1],by rw[M7,e2],fun q hq=>?_,.cons (by simpa using rv1) e4⟩
   rcases NA.mp hq with rfl|hq
   ·exact⟨h1,p1.isList⟩
   ·exact e3 q hq
  | false =>
   obtain⟨its1,rv1,p1,hz1⟩:=I.tuple (show SqT X.K H a xs from h2)
   refine⟨⟨it,(false,a),its1.toArray⟩::ss,by rw[M7,e1],by rw[M7,e2],fun q hq=>?_,.cons (by simpa using rv1) e4⟩
   rcases NA.mp hq with rfl|hq
   ·exact⟨h1,p1⟩
   ·exact e3 q hq
theorem uC {i:Nat}:∀ {ss:List Zs}{xss:List (List V)}{ys:List V},Paired (fun (q:Zs) (xs:List V)=>Vals xs q.xs.toList) ss xss->Paired (fun (xs:List V) (y:V)=>xs[i]?=some y) xss ys->∃us,Paired (fun (q:Zs) (x:Value)=>q.xs[i]?=some x) ss us/\Vals ys us
 | _,_,_,.nil,.nil=>⟨[],.nil,.nil⟩
 | _,_,_,.cons h1 t1,.cons h2 t2=>by
  obtain⟨us,e1,e2⟩:=uC t1 t2
  obtain⟨u,e3,e4⟩:=h1.get h2
  exact⟨u::us,.cons (by simpa using e3) e1,.cons e4 e2⟩
theorem SqB.inj {X:Cx}{pins:List (Addr × Obj)}{σ:L2.St}{H:Hp}{s:Shared}(I:L2.Inv X pins σ H s):∀ {cs:List (Bool × Addr)}{xss yss:List (List V)},Paired (SqB X.K H) cs xss->Paired (SqB X.K H) cs yss->xss=yss
 | _,_,_,.nil,.nil=>rfl
 | _,_,_,.cons (a:=c) h1 t1,.cons h2 t2=>by
  rw[SqB.inj I t1 t2]
  obtain⟨b,a⟩:=c
  cases b with
  | true=>rw[I.list_inj (show SqL X.K H a _ from h1) h2]
  | false=>rw[I.tuple_inj (show SqT X.K H a _ from h1) h2]
theorem B2 {i:Nat}:∀ {xss:List (List V)}{ys zs:List V},Paired (fun (xs:List V) (y:V)=>xs[i]?=some y) xss ys->Paired (fun (xs:List V) (y:V)=>xs[i]?=some y) xss zs->ys=zs
 | _,_,_,.nil,.nil=>rfl
 | _,_,_,.cons h1 t1,.cons h2 t2=>by rw[B2 t1 t2];rw[h1] at h2;cases h2;rfl
theorem zG {P:Program}{w:World}{K:W.Frag}{elts:List Expr}{kt:Nat}{pt:Pos}{z TI TO:Addr}{its:List Addr}{cs:List (Bool × Addr)}(nd:(z::TI::TO::its).Nodup)(ap:∀c∈cs,c.2 ∉ z::TI::TO::its)(hne:its≠[])(hs:its.length<=100) :
  zQ P w K (.Tuple elts kt pt) (Itn K cs) (z::TI::TO::its) z (fun i h=>ZSt z TI TO its h/\Paired (fun it c=>ItB h it c i) its cs) where
 mem:=by simp
 obj:=fun i h st c hc=>by
  obtain⟨⟨h1,h2,arr,la,h3⟩,h4⟩:=st
  simp only[List.mem_cons] at hc
  rcases hc with rfl|rfl|rfl|hc
  ·exact⟨_,h1,fun v z=>nomatch z⟩
  ·exact⟨_,h2,fun v z=>nomatch z⟩
  ·exact⟨_,h3,fun v z=>nomatch z⟩
  ·obtain⟨d,_,e⟩:=td h4 hc
   obtain⟨o,vs,e1,e2⟩:=e.obj
   exact⟨o,e1,fun v z=>by rw[e2] at z;cases z⟩
 keep:=fun i h h' st k=>by
  obtain⟨⟨h1,h2,arr,la,h3⟩,h4⟩:=st
  refine⟨⟨k z (by simp) _ h1,k TI (by simp) _ h2,arr,la,k TO (by simp) _ h3⟩,?_⟩
  have:∀ {l:List Addr}{r:List (Bool × Addr)},(∀x∈l,x∈its)->Paired (fun it c=>ItB h it c i) l r->Paired (fun it c=>ItB h' it c i) l r:=by
   intro l r hl hp
   induction hp with
   | nil=>exact .nil
   | cons f t ih=>exact .cons (f.keep fun o e=>k _ (by simp[hl _ List.mem_cons_self]) o e) (ih fun x hx=>hl x (MT _ hx))
  exact this (fun x hx=>hx) h4
 item:=by
  intro X hP hw hK hc i pins s σ H E I hf st hg
  subst hP hw hK
  obtain⟨xss,ys,g1,g2⟩:=hg
  obtain⟨hz,h4⟩:=st
  obtain⟨ss,e1,e2,e3,e4⟩:=vM I h4 g1
  obtain⟨us,f1,f2⟩:=uC e4 g2
  have za:ZA z TI TO ss:=⟨by rw[e1];exact nd,fun q hq=>by
   rw[e1]
   exact ap q.c (by rw[<-e2];exact MZ.mpr ⟨q,hq,rfl⟩)⟩
  have ssl:ss.length=its.length:=by rw[<-e1,MS]
  have line:(100:Nat)<=sizeLine:=by decide
  refine Bf (i:=i) (ss:=ss) (xs:=us) za (fun e=>hne (by rw[<-e1,e];rfl)) (by rw[ssl];exact NI hs line) (by rw[e1];exact hz) e3 f1 fun h' T lT z1 t1 t2 s1 tT nT kk=>?_
  rw[e1] at t1 nT kk
  refine⟨_,rfl,wpAny_letOwnedTupleGo_zip (s:={ s with heap:=h' }) z1 fun h'' z2 sb=>?_⟩
  have nz:∀ {c:Addr},c∈TI::TO::its->c≠z:=fun hc e=>(MP.mp nd).1 (by rw[<-e];exact hc)
  have Tz:T≠z:=fun e=>nT (by rw[e];simp)
  have yl:ys.length<=100:=by rw[<-g2.length,<-g1.length,<-h4.length];exact hs
  have I2:L2.Inv X pins σ (upd H T (.tup ys)) { s with heap:=h'' }:=xb (t':=s.toks) (its:=us) (wr:=z::TI::TO::its) I (fun b o hb e=>by
   rw[sb.2 b (fun q=>hb (by rw[q];simp))]
   exact kk b o hb e) (fun b hb=>hf b hb) lT f2 (NI yl line) ⟨_,by rw[sb.2 T Tz];exact tT,rfl,0,rfl⟩
  refine⟨.ref T,_,I2,rfl,⟨T,rfl,I.hok.fresh lT,fun xss' ys' k1 k2=>?_⟩,⟨⟨z2,by rw[sb.2 TI (nz (by simp))];exact t1,us,?_,by rw[sb.2 TO (nz (by simp))];exact t2⟩,?_⟩,fun b hb=>?_⟩
  ·have:=SqB.inj I k1 g1
   subst this
   rw[B2 k2 g2]
  ·rw[<-f1.length];exact ssl
  ·have go:∀ {l:List Zs},(∀q∈l,SrcAt h' q (i+1))->(∀q∈l,q.it≠z)->Paired (fun it c=>ItB h'' it c (i+1)) (l.map Zs.it) (l.map Zs.c):=by
    intro l
    induction l with
    | nil=>intro _ _;exact .nil
    | cons q l ih =>
     intro k1 k2
     exact .cons ((k1 q NH).1.keep fun o e=>by rw[sb.2 _ (k2 q NH)];exact e) (ih (fun p hp=>k1 p (MT _ hp)) fun p hp=>k2 p (MT _ hp))
   have:=go s1 fun q hq=>nz (MT _ (MT _ (by rw[<-e1];exact MZ.mpr ⟨q,hq,rfl⟩)))
   rw[e1,e2] at this
   exact this
  ·have hlt:b<s.heap.objs.size:=by
    obtain⟨h1,h2,arr,la,h3⟩:=hz
    simp only[List.mem_cons] at hb
    rcases hb with rfl|rfl|rfl|hb
    ·exact MU h1
    ·exact MU h2
    ·exact MU h3
    ·obtain⟨d,_,e⟩:=td h4 hb
     obtain⟨o,_,e,_⟩:=e.obj
     exact MU e
   rw[am (M2 (MG hlt lT))]
   exact(hf b hb).1
 done:=by
  intro X hP hw hK hc i pins s σ H E I hf st hg
  subst hP hw hK
  obtain⟨xss,g1,xs,gx,gl⟩:=hg
  obtain⟨hz,h4⟩:=st
  obtain⟨ss,e1,e2,e3,e4⟩:=vM I h4 g1
  have za:ZA z TI TO ss:=⟨by rw[e1];exact nd,fun q hq=>by
   rw[e1]
   exact ap q.c (by rw[<-e2];exact MZ.mpr ⟨q,hq,rfl⟩)⟩
  have ssl:ss.length=its.length:=by rw[<-e1,MS]
  have line:(100:Nat)<=sizeLine:=by decide
  have hn:∃q∈ss,q.xs[i]?=none:=by
   have:∀ {l:List Zs}{r:List (List V)},Paired (fun (q:Zs) (xs:List V)=>Vals xs q.xs.toList) l r->xs∈r->∃q∈l,q.xs[i]?=none:=by
    intro l r hp hx
    induction hp with
    | nil=>cases hx
    | @cons q ys l r f t ih =>
     rcases NA.mp hx with rfl|hx
     ·refine⟨q,NH,?_⟩
      have:=f.length
      exact OM (by rw[<-gl,this];simp)
     ·obtain⟨p,h1,h2⟩:=ih hx
      exact⟨p,MT _ h1,h2⟩
   exact this e4 gx
  refine Am (i:=i) (ss:=ss) (I.ok.hd hc) za (by rw[ssl];exact NI hs line) (by rw[e1];exact hz) e3 hn fun h' kk=>?_
  rw[e1] at kk
  exact⟨rfl,xU (t':=s.toks) I kk fun b hb=>hf b hb⟩
 self:=fun _ _ _ _ _ st h=>wpAny_pyIter_zip st.1.1 h
section
variable {prog:Program}{w:World}{A:Around}{E:Value->Shared->Prop}
theorem HV {R:Array Value->Shared->Prop}:∀ {cs:List (Bool × Addr)}{acc:Array Value}{s:Shared},(∀c∈cs,∃xs,SeqB s.heap c xs) ->
  (∀h',h'.objs.size=s.heap.objs.size+cs.length->(∀b o,s.heap.get? b=some o->h'.get? b=some o)->Paired (fun it c=>ItB h' it c 0) (List.range' s.heap.objs.size cs.length) cs->R (acc++((List.range' s.heap.objs.size cs.length).map Value.ref).toArray) { s with heap:=h' }) ->
  wpAny (model prog w) A (forIn (cs.map fun c=>Value.ref c.2) acc fun x r=>do
   let v <-holding r.toList (pyIter x)
   pure (ForInStep.yield (r.push v))) R E s:=by
 intro cs
 induction cs with
 | nil =>
  intro acc s _ hR
  exact ME (by simpa using hR s.heap rfl (fun _ _ e=>e) .nil)
 | cons c cs ih =>
  intro acc s hs hR
  rw[M7,O5]
  obtain⟨xs,hx⟩:=hs c NH
  refine MB (MB (N2 (C0 hx fun o ho=>ME ?_)))
  refine ih (acc:=acc.push (.ref s.heap.objs.size)) (s:={ s with heap:=s.heap.push o }) (fun d hd=>?_) fun h' k1 k2 k3=>?_
  ·obtain⟨ys,hy⟩:=hs d (MT _ hd)
   exact⟨ys,hy.keep fun o e=>MD _ e⟩
  ·have sz:(s.heap.push o).objs.size=s.heap.objs.size+1:=OI _ _
   have k1:h'.objs.size=(s.heap.push o).objs.size+cs.length:=k1
   have k3:Paired (fun it c=>ItB h' it c 0) (List.range' (s.heap.push o).objs.size cs.length) cs:=k3
   rw[sz] at k1 k3
   have:=hR h' (by rw[k1,QR];exact Nat.add_right_comm _ _ _) (fun b u e=>k2 b u (MD _ e)) (by
    rw[QR,List.range'_succ]
    exact .cons (ho.keep fun u e=>k2 _ u e) k3)
   rw[QR,List.range'_succ] at this
   show R (acc.push (Value.ref s.heap.objs.size)++((List.range' (s.heap.push o).objs.size cs.length).map Value.ref).toArray) _
   rw[sz]
   simpa using this
theorem oS (cs:List (Bool × Addr))(hl:cs.length<=100):Meets (Builtin.«zip.__new__» ⟨.type "zip"::cs.map (fun c=>Value.ref c.2),[]⟩) fun _ R s=>(∀c∈cs,∃xs,SeqB s.heap c xs) /\
  ∀h',ZSt (s.heap.objs.size+cs.length+2) (s.heap.objs.size+cs.length) (s.heap.objs.size+cs.length+1) (List.range' s.heap.objs.size cs.length) h'->Paired (fun it c=>ItB h' it c 0) (List.range' s.heap.objs.size cs.length) cs->(∀b o,s.heap.get? b=some o->h'.get? b=some o)->R (.ok (.ret (.ref (s.heap.objs.size+cs.length+2)))) { s with heap:=h' }:=by
 intro prog w A R s ⟨h1,h⟩
 have line:(100:Nat)<=sizeLine:=by decide
 refine MB ?_
 refine MB (ME ?_)
 rw[sub_zip]
 refine MB (ME ?_)
 refine ME ?_
 refine MB (m:=Builtin.SmallTypes.iterAll (cs.map fun c=>Value.ref c.2)) ?_
 refine MB (HV h1 fun h' k1 k2 k3=>ME ?_)
 have e0:(#[]++((List.range' s.heap.objs.size cs.length).map Value.ref).toArray:Array Value).toList=(List.range' s.heap.objs.size cs.length).map Value.ref:=by simp
 rw[e0]
 have ln:((List.range' s.heap.objs.size cs.length).map Value.ref).length=cs.length:=by simp
 refine MB (wpAny_newTuple ?_ (by rw[ln];exact NI hl line))
 refine MB (wpAny_newTuple ?_ (by rw[MS,ln];exact NI hl line))
 refine MB (wpAny_newObj_type (T:="zip") (data:=.fields #[.none,.bool false,.bool false,.ref h'.objs.size,.ref (h'.push (dg ((List.range' s.heap.objs.size cs.length).map Value.ref))).objs.size]) ?_)
 have s1:(h'.push (dg ((List.range' s.heap.objs.size cs.length).map Value.ref))).objs.size=s.heap.objs.size+cs.length+1:=(OI _ _).trans (by rw[k1])
 have s2:((h'.push (dg ((List.range' s.heap.objs.size cs.length).map Value.ref))).push (dg (((List.range' s.heap.objs.size cs.length).map Value.ref).map fun _=>Value.none))).objs.size=s.heap.objs.size+cs.length+2:=(OI _ _).trans (by rw[s1])
 refine ME ?_
 show R (.ok (.ret (.ref ((h'.push (dg ((List.range' s.heap.objs.size cs.length).map Value.ref))).push (dg (((List.range' s.heap.objs.size cs.length).map Value.ref).map fun _=>Value.none))).objs.size))) _
 rw[s2]
 refine h _ ⟨?_,?_,((List.range' s.heap.objs.size cs.length).map Value.ref).map fun _=>Value.none,by simp,?_⟩ ?_ fun b o e=>MD _ (MD _ (MD _ (k2 b o e)))
 ·rw[<-s2]
  have g:=MX ((h'.push (dg ((List.range' s.heap.objs.size cs.length).map Value.ref))).push (dg (((List.range' s.heap.objs.size cs.length).map Value.ref).map fun _=>Value.none))) (o:={ cls:=.type "zip",data:=.fields #[.none,.bool false,.bool false,.ref h'.objs.size,.ref (h'.push (dg ((List.range' s.heap.objs.size cs.length).map Value.ref))).objs.size] }) rfl
  rw[k1,s1] at g
  rw[k1,s1]
  exact g
 ·rw[<-k1]
  exact MD _ (MD _ (MX _ rfl))
 ·rw[<-s1]
  exact MD _ (MX _ rfl)
 ·have:∀ {l:List Addr}{r:List (Bool × Addr)},Paired (fun it c=>ItB h' it c 0) l r->∀ {g:Heap},(∀b o,h'.get? b=some o->g.get? b=some o)->Paired (fun it c=>ItB g it c 0) l r:=by
   intro l r hp g hg
   induction hp with
   | nil=>exact .nil
   | cons f t ih=>exact .cons (f.keep fun o e=>hg _ o e) ih
  exact this k3 fun b o e=>MD _ (MD _ (MD _ e))
end
section
variable {prog:Program}{w:World}{A:Around}{E:Value->Shared->Prop}{s:Shared}
def EW (cs:List (Bool × Addr))(Q:Value->Shared->Prop)(s:Shared):Prop:=∀h',ZSt (s.heap.objs.size+cs.length+2) (s.heap.objs.size+cs.length) (s.heap.objs.size+cs.length+1) (List.range' s.heap.objs.size cs.length) h'->Paired (fun it c=>ItB h' it c 0) (List.range' s.heap.objs.size cs.length) cs->(∀b o,s.heap.get? b=some o->h'.get? b=some o) ->
 Q (.ref (s.heap.objs.size+cs.length+2)) { s with heap:=h' }
theorem yV {c1 c2:Bool × Addr}{Q:Value->Shared->Prop}(h1:∀c∈[c1,c2],∃xs,SeqB s.heap c xs)(h:EW [c1,c2] Q s):wpAny (model prog w) A (call (.type "zip") [.ref c1.2,.ref c2.2]) Q E s:=by
 refine callType_new F.called_zip rfl (F.typeCall_zip_2 _ _) (F.newCall_zip_2 _ _) (fun obj=>?_) F.entry_zip_new (oS [c1,c2] (Nat.le_of_ble_eq_true rfl)) ⟨h1,fun h' k1 k2 k3=>⟨⟨_,k1.1,rfl⟩,h h' k1 k2 k3⟩⟩
 exact F.args_object_init_3 _ _ _
theorem ye (a b c:Value):checkTypeCall "zip" ⟨[a,b,c],[]⟩=pure ():=by kernel_rfl
theorem Bb (a b c:Value):checkBuiltinCall "zip.__new__" ⟨[.type "zip",a,b,c],[]⟩=pure ():=by kernel_rfl
theorem yd (a b c d:Value):argsOk "object.__init__" ⟨[a,b,c,d],[]⟩:=by
 unfold argsOk
 rw [signature?_of (id:="object.__init__")
  (n:=['_','_','t','i','n','i','_','_'])
  (o:=['t','c','e','j','b','o'])
  (by kernel_rfl) F.owner_object]
 kernel_rfl
theorem zK {c1 c2 c3:Bool × Addr}{Q:Value->Shared->Prop}(h1:∀c∈[c1,c2,c3],∃xs,SeqB s.heap c xs)(h:EW [c1,c2,c3] Q s):wpAny (model prog w) A (call (.type "zip") [.ref c1.2,.ref c2.2,.ref c3.2]) Q E s:=by
 refine callType_new F.called_zip rfl (ye _ _ _) (Bb _ _ _) (fun obj=>?_) F.entry_zip_new (oS [c1,c2,c3] (Nat.le_of_ble_eq_true rfl)) ⟨h1,fun h' k1 k2 k3=>⟨⟨_,k1.1,rfl⟩,h h' k1 k2 k3⟩⟩
 exact yd _ _ _ _
end
section
variable {X:Cx}{pins:List (Addr × Obj)}{σ:L2.St}{H:Hp}{s:Shared}
theorem SqB.seq {c:Bool × Addr}{xs:List V}(I:L2.Inv X pins σ H s)(h:SqB X.K H c xs):∃ys,SeqB s.heap c ys:=by
 obtain⟨b,a⟩:=c
 cases b with
 | true=>obtain⟨its,_,p,_⟩:=I.list (show SqL X.K H a xs from h);exact⟨_,p.isList⟩
 | false=>obtain⟨its,_,p,_⟩:=I.tuple (show SqT X.K H a xs from h);exact⟨_,p⟩
theorem SeqB.lt {h:Heap}{c:Bool × Addr}{ys:Array Value}(z:SeqB h c ys):c.2<h.objs.size:=by
 obtain⟨b,a⟩:=c
 cases b with
 | true=>obtain⟨_,e,_⟩:=(show h.IsList a ys from z);exact MU e
 | false=>obtain⟨_,e,_⟩:=(show h.IsTuple a ys from z);exact MU e
theorem CT {N n b:Nat}(h:b∈(N+n+2)::(N+n)::(N+n+1)::List.range' N n):N<=b:=by
 simp only[List.mem_cons,List.mem_range'_1] at h
 omega
theorem EG (N n:Nat):((N+n+2)::(N+n)::(N+n+1)::List.range' N n).Nodup:=by
 refine MP.mpr ⟨fun h=>?_,MP.mpr ⟨fun h=>?_,MP.mpr ⟨fun h=>?_,List.nodup_range'⟩⟩⟩ <;> (simp only[List.mem_cons,List.mem_range'_1] at h;omega)
theorem xN {elts:List Expr}{kt:Nat}{pt:Pos}{cs:List (Bool × Addr)}{R:L2.It->Hp->Prop}(I:L2.Inv X pins σ H s)(hs:∀c∈cs,∃xs,SqB X.K H c xs)(hn:cs≠[])(hl:cs.length<=100)(q:R (Itn X.K cs) H) :
  EW cs (fun v s1=>wpAny (model X.prog X.w) X.A (pyIter v) (PIE X pins σ (.Tuple elts kt pt) R) X.xe s1) s:=by
 intro h' k1 k2 kk
 refine wpAny_pyIter_zip k1.1 ?_
 have nd:=EG s.heap.objs.size cs.length
 have big:∀b,b∈(s.heap.objs.size+cs.length+2)::(s.heap.objs.size+cs.length)::(s.heap.objs.size+cs.length+1)::List.range' s.heap.objs.size cs.length->s.heap.objs.size<=b:=fun b hb=>CT hb
 refine⟨_,_,_,_,H,rfl,I.kept (t':=s.toks) kk,zG nd (fun c hc hm=>?_) (fun e=>hn ?_) (by simpa using hl),⟨k1,k2⟩,fun b hb=>I.fpOk (big b hb) (I.hok.fresh (big b hb)),q⟩
 ·obtain⟨xs,hx⟩:=hs c hc
  obtain⟨ys,hy⟩:=hx.seq I
  exact absurd (MG hy.lt (big _ hm)) (OO _)
 ·have:=NV List.length e
  simp at this
  exact this
end
section
variable {X:Cx}
noncomputable def GT (K:W.Frag)(ta:TA):TI:=fun σ H R=>ta σ H fun vs H1=>∃c d,vs=[.ref c.2,.ref d.2]/\(∀e∈[c,d],∃xs,SqB K H1 e xs)/\R (Itn K [c,d]) H1
noncomputable def Ie (K:W.Frag)(ta:TA):TI:=fun σ H R=>ta σ H fun vs H1=>∃c d f,vs=[.ref c.2,.ref d.2,.ref f.2]/\(∀e∈[c,d,f],∃xs,SqB K H1 e xs)/\R (Itn K [c,d,f]) H1
theorem Fc {elts:List Expr}{kt:Nat}{pt:Pos}{a b:Expr}{ta:TA}{p pos:Pos}(hg:Gl X "zip")(hm:X.mg "zip"=none)(ha:PA X [a,b] ta)(hs:starEach [a,b] X.env=[(false,eval a X.env),(false,eval b X.env)])(hs2:starEach [b] X.env=[(false,eval b X.env)]) :
  PI X (.Tuple elts kt pt) (.Call (.Name "zip" p) [a,b] [] pos) (GT X.K ta):=by
 intro pins s σ H R I h
 refine Call_ (jZ I hg hm boot_zip (N_ (thn (ha pos pins s σ H _ I h) fun us s1 ⟨vs,H1,I1,r1,q1⟩=>?_) (by rw[hs,hs2]) (by rw[hs2];rfl)))
 obtain⟨c,d,e,hq,q⟩:=q1
 subst e
 obtain⟨u,v,rfl,ru,rv⟩:=rm r1
 cases ru
 cases rv
 exact yV (fun f hf=>let ⟨xs,hx⟩:=hq f hf;hx.seq I1) (xN I1 hq (by simp) (by simp) q)
theorem Eb {elts:List Expr}{kt:Nat}{pt:Pos}{a b c:Expr}{ta:TA}{p pos:Pos}(hg:Gl X "zip")(hm:X.mg "zip"=none)(ha:PA X [a,b,c] ta)(hs:starEach [a,b,c] X.env=[(false,eval a X.env),(false,eval b X.env),(false,eval c X.env)])(hs2:starEach [b,c] X.env=[(false,eval b X.env),(false,eval c X.env)]) :
  PI X (.Tuple elts kt pt) (.Call (.Name "zip" p) [a,b,c] [] pos) (Ie X.K ta):=by
 intro pins s σ H R I h
 refine Call_ (jZ I hg hm boot_zip (N_ (thn (ha pos pins s σ H _ I h) fun us s1 ⟨vs,H1,I1,r1,q1⟩=>?_) (by rw[hs,hs2]) (by rw[hs2];rfl)))
 obtain⟨c,d,f,e,hq,q⟩:=q1
 subst e
 cases r1 with
 | cons r rr =>
  obtain⟨u,v,rfl,ru,rv⟩:=rm rr
  cases r
  cases ru
  cases rv
  exact zK (fun f hf=>let ⟨xs,hx⟩:=hq f hf;hx.seq I1) (xN I1 hq (by simp) (by simp) q)
end
def LB (K:W.Frag)(c:Bool × Addr)(xs:List PV)(chk:AH->Prop)(m0:List Addr)(H0:Hp):Prop:=∀m H st,Ext K m0 H0 m H->RH K m H st->chk st->∃ys,SqB K H c ys/\Rs K m H xs ys
theorem uU {K:W.Frag}{m:List Addr}{H:Hp}{st:AH}{v:PV}{x:V}{xs:List PV}(rh:RH K m H st)(r:R K m H v x)(e:aW st v=some xs):∃c:Bool × Addr,x=.ref c.2/\LB K c xs (bv st v) m H/\∃ys,SqB K H c ys:=by
 cases v with
 | tup ys =>
  cases e
  rw[R_tup] at r
  obtain⟨a,zs,rfl,g,r3⟩:=r
  exact⟨(false,a),rfl,fun m' H' st' x r q=>⟨zs,x.tup _ _ g,r3.mono x⟩,zs,g⟩
 | rdl ys =>
  cases e
  rw[fj] at r
  obtain⟨a,zs,rfl,g,r3⟩:=r
  exact⟨(true,a),rfl,fun m' H' st' x r q=>⟨zs,(x.rdf _ _ g).sq,r3.mono x⟩,zs,g.sq⟩
 | ref n =>
  unfold aW bq at e
  simp only at e
  split at e
  ·cases e
   rename_i q
   obtain⟨a,zs,rfl,ea,g,r3⟩:=rh.lst q r
   refine⟨(true,a),rfl,fun m' H' st' x r' q'=>?_,zs,SqL.of g⟩
   have q':st'[n]?=st[n]?:=q'
   rw[q] at q'
   obtain⟨ys,h1,h2⟩:=r'.at_ n _ a q' (ku x.pre ea)
   exact⟨ys,SqL.of h1,h2⟩
  ·cases e
 | _=>cases e
theorem AF {K:W.Frag}{m0:List Addr}{H0:Hp}{a b:Bool × Addr}{xs ys:List PV}{c1 c2:AH->Prop}(h1:LB K a xs c1 m0 H0)(h2:LB K b ys c2 m0 H0):rD K (Itn K [a,b]) (jo xs ys) (fun st=>c1 st/\c2 st) m0 H0:=by
 refine⟨fun m H st x r q=>?_,fun i v m H st x r q ev=>?_⟩
 ·obtain⟨as,g1,r1⟩:=h1 m H st x r q.1
  obtain⟨bs,g2,r2⟩:=h2 m H st x r q.2
  refine⟨[as,bs],.cons g1 (.cons g2 .nil),?_⟩
  rw[fO,r1.len,r2.len]
  rcases Nat.le_total as.length bs.length with h|h
  ·exact⟨as,by simp,(Nat.min_eq_left h).symm⟩
  ·exact⟨bs,by simp,(Nat.min_eq_right h).symm⟩
 ·obtain⟨as,g1,r1⟩:=h1 m H st x r q.1
  obtain⟨bs,g2,r2⟩:=h2 m H st x r q.2
  obtain⟨u,v',e1,e2,rfl⟩:=iB ev
  obtain⟨y1,f1,q1⟩:=r1.get e1
  obtain⟨y2,f2,q2⟩:=r2.get e2
  refine⟨⟨[as,bs],[y1,y2],.cons g1 (.cons g2 .nil),.cons f1 (.cons f2 .nil)⟩,?_⟩
  rintro z H' ⟨T,rfl,hT,hh⟩
  have:=hh _ _ (.cons g1 (.cons g2 .nil)) (.cons f1 (.cons f2 .nil))
  subst this
  refine⟨Ext.newT r hT,r.newT hT,R_tup.mpr ⟨T,[y1,y2],rfl,SqT.of bH,?_⟩⟩
  rw[Rs_cons',Rs_cons',Rs_nil]
  exact⟨q1.mono (Ext.newT r hT),q2.mono (Ext.newT r hT),rfl⟩
theorem mj:∀ {xs ys zs:List PV},(dL xs ys zs).length=min xs.length (min ys.length zs.length)
 | [],ys,zs=>by simp[dL]
 | x::xs,[],zs=>by simp[dL]
 | x::xs,y::ys,[]=>by simp[dL]
 | x::xs,y::ys,z::zs=>by simp only[dL,List.length_cons,mj (xs:=xs) (ys:=ys) (zs:=zs)];omega
theorem lu:∀ {xs ys zs:List PV}{i:Nat}{v:PV},(dL xs ys zs)[i]?=some v->∃x y z,xs[i]?=some x/\ys[i]?=some y/\zs[i]?=some z/\v=.tup [x,y,z]
 | [],ys,zs,i,v,h=>by simp[dL] at h
 | x::xs,[],zs,i,v,h=>by simp[dL] at h
 | x::xs,y::ys,[],i,v,h=>by simp[dL] at h
 | x::xs,y::ys,z::zs,0,v,h=>by simp[dL] at h;exact⟨x,y,z,rfl,rfl,rfl,h.symm⟩
 | x::xs,y::ys,z::zs,i+1,v,h=>by
  simp only[dL,List.getElem?_cons_succ] at h |-
  exact lu h
theorem y6 {K:W.Frag}{m0:List Addr}{H0:Hp}{a b c:Bool × Addr}{xs ys zs:List PV}{c1 c2 c3:AH->Prop}(h1:LB K a xs c1 m0 H0)(h2:LB K b ys c2 m0 H0)(h3:LB K c zs c3 m0 H0):rD K (Itn K [a,b,c]) (dL xs ys zs) (fun st=>c1 st/\c2 st/\c3 st) m0 H0:=by
 refine⟨fun m H st x r q=>?_,fun i v m H st x r q ev=>?_⟩
 ·obtain⟨as,g1,r1⟩:=h1 m H st x r q.1
  obtain⟨bs,g2,r2⟩:=h2 m H st x r q.2.1
  obtain⟨cs,g3,r3⟩:=h3 m H st x r q.2.2
  refine⟨[as,bs,cs],.cons g1 (.cons g2 (.cons g3 .nil)),?_⟩
  rw[mj,r1.len,r2.len,r3.len]
  by_cases h:as.length<=bs.length/\as.length<=cs.length
  ·exact⟨as,by simp,by omega⟩
  ·by_cases h':bs.length<=cs.length
   ·exact⟨bs,by simp,by omega⟩
   ·exact⟨cs,by simp,by omega⟩
 ·obtain⟨as,g1,r1⟩:=h1 m H st x r q.1
  obtain⟨bs,g2,r2⟩:=h2 m H st x r q.2.1
  obtain⟨cs,g3,r3⟩:=h3 m H st x r q.2.2
  obtain⟨u,v',w',e1,e2,e3,rfl⟩:=lu ev
  obtain⟨y1,f1,q1⟩:=r1.get e1
  obtain⟨y2,f2,q2⟩:=r2.get e2
  obtain⟨y3,f3,q3⟩:=r3.get e3
  refine⟨⟨[as,bs,cs],[y1,y2,y3],.cons g1 (.cons g2 (.cons g3 .nil)),.cons f1 (.cons f2 (.cons f3 .nil))⟩,?_⟩
  rintro z H' ⟨T,rfl,hT,hh⟩
  have:=hh _ _ (.cons g1 (.cons g2 (.cons g3 .nil))) (.cons f1 (.cons f2 (.cons f3 .nil)))
  subst this
  refine⟨Ext.newT r hT,r.newT hT,R_tup.mpr ⟨T,[y1,y2,y3],rfl,SqT.of bH,?_⟩⟩
  rw[Rs_cons',Rs_cons',Rs_cons',Rs_nil]
  exact⟨q1.mono (Ext.newT r hT),q2.mono (Ext.newT r hT),q3.mono (Ext.newT r hT),rfl⟩
end FW
namespace FW
open L2 HX
section
variable {X:Cx}{tg:Expr}
end
section
variable {X:Cx}
end
end FW
namespace FW
open L2 HX
noncomputable def jS (env:Env):List (Str × NameKind)->List (Str × Addr)->List (Str × Addr)
 | [],cs=>cs
 | (x,k)::r,cs=>jS env r (if k == .free then (x,(env.cells.lookup x).getD 0)::cs else cs)
theorem vO {scope:Scope}{env:Env}(h:∀y∈scope.names,y.2=.free->∃c,env.cells.lookup y.1=some c):closureFor scope env=pure (jS env scope.names []):=by
 have key:∀(names:List (Str × NameKind)) (cs:List (Str × Addr)),(∀y∈names,y.2=.free->∃c,env.cells.lookup y.1=some c) ->
   (forIn names cs fun (x:Str × NameKind) (r:List (Str × Addr))=>(match x with
    | (name,kind)=>if (kind == NameKind.free)=true then (do let a <-cellOf env name;pure (ForInStep.yield ((name,a)::r)):Sem _) else pure (ForInStep.yield r)))=(pure (jS env names cs):Sem _):=by
  intro names
  induction names with
  | nil=>intro cs _;rfl
  | cons y r ih =>
   intro cs hy
   obtain⟨x,k⟩:=y
   rw[O5]
   by_cases hk:k=.free
   ·subst hk
    obtain⟨c,e⟩:=hy _ NH rfl
    have ec:cellOf env x=pure c:=by
     unfold cellOf
     rw[e]
    simp only[beq_self_eq_true,if_true,ec]
    show (forIn r ((x,c)::cs) _:Sem _)=_
    rw[ih _ fun y h=>hy y (MT _ h)]
    simp[jS,e]
   ·have hb:(k == NameKind.free)=false:=by simpa using hk
    simp only[hb,Bool.false_eq_true,if_false]
    show (forIn r cs _:Sem _)=_
    rw[ih _ fun y h=>hy y (MT _ h)]
    simp[jS,hb]
 unfold closureFor
 have:=key scope.names [] h
 exact NV (fun z=>z >>= fun r=>pure r) this
theorem ic {env:Env}:∀ {names:List (Str × NameKind)}{cs:List (Str × Addr)}{x:Str}{c:Addr},(∀y∈names,y.2=.free->∃c,env.cells.lookup y.1=some c)->(∀x c,cs.lookup x=some c->env.cells.lookup x=some c) ->
  (jS env names cs).lookup x=some c->env.cells.lookup x=some c
 | [],cs,x,c,_,h,e=>h x c e
 | (y,k)::r,cs,x,c,hn,h,e=>by
  unfold jS at e
  refine ic (fun z hz=>hn z (MT _ hz)) ?_ e
  intro z d ez
  by_cases hk:k=.free
  ·subst hk
   obtain⟨c',ec⟩:=hn _ NH rfl
   simp only[beq_self_eq_true,if_true,List.lookup_cons] at ez
   by_cases q:z=y
   ·subst q
    simp[ec] at ez
    rw[ec,ez]
   ·have:(z == y)=false:=by simpa using q
    rw[this] at ez
    exact h z d ez
  ·have hb:(k == NameKind.free)=false:=by simpa using hk
   rw[hb] at ez
   exact h z d ez
theorem qG {env:Env}:∀ {names:List (Str × NameKind)}{cs:List (Str × Addr)}{x:Str},(∃c,cs.lookup x=some c)->∃c,(jS env names cs).lookup x=some c
 | [],cs,x,h=>h
 | (y,k)::r,cs,x,h=>by
  unfold jS
  refine qG ?_
  by_cases hk:k=.free
  ·subst hk
   simp only[beq_self_eq_true,if_true,List.lookup_cons]
   by_cases q:x=y
   ·subst q;simp
   ·have:(x == y)=false:=by simpa using q
    rw[this];exact h
  ·have hb:(k == NameKind.free)=false:=by simpa using hk
   rw[hb];exact h
theorem pf {env:Env}:∀ {names:List (Str × NameKind)}{cs:List (Str × Addr)}{x:Str},(x,NameKind.free)∈names->∃c,(jS env names cs).lookup x=some c
 | [],cs,x,h=>nomatch h
 | (y,k)::r,cs,x,h=>by
  unfold jS
  rcases NA.mp h with e|h
  ·cases e
   exact qG (by simp)
  ·exact pf h
def PTs (X:Cx)(xs:List Expr)(t:TT):Prop :=
 ∀(pins:List (Addr × Obj)) (s:Shared) (σ:L2.St) (H:Hp) (Q:Bool->Hp->Prop),L2.Inv X pins σ H s->t σ H Q ->
  wpAny (model X.prog X.w) X.A (forIn xs true fun c r=>if r=true then do let ok <-isTrue c X.env (eval c X.env);pure (ForInStep.yield ok) else pure (ForInStep.yield r)) (TP X pins σ Q) X.xe s
theorem mS {env:Env}:∀xs:List Expr,(forIn xs false fun c r=>if r=true then do let ok <-isTrue c env (eval c env);pure (ForInStep.yield ok) else pure (ForInStep.yield r):Sem Bool)=pure false
 | []=>rfl
 | x::xs=>by
  rw[O5]
  simp only[Bool.false_eq_true,if_false]
  exact mS xs
theorem xO {X:Cx}:PTs X [] (fun σ H Q=>Q true H):=fun pins s σ H Q I h=>ME ⟨H,I,h⟩
theorem t6 {X:Cx}{x:Expr}{xs:List Expr}{t u:TT}(h1:PT X x t)(h2:PTs X xs u):PTs X (x::xs) (HM t u):=by
 intro pins s σ H Q I h
 rw[O5]
 simp only[if_true]
 refine MB (MB (thn (h1 pins s σ H _ I h) fun b s1 ⟨H1,I1,q1⟩=>?_))
 refine ME ?_
 cases b with
 | true =>
  rw[ML rfl] at q1
  exact h2 pins s1 σ H1 Q I1 q1
 | false =>
  rw[MJ MF] at q1
  show wpAny _ _ (forIn xs false _) _ _ _
  rw[mS]
  exact ME ⟨H1,I1,q1⟩
theorem sG {prog:Program}{w:World}{A:Around}{R:Result->Shared->Prop}{s:Shared}{elt target iter:Expr}{ifs:List Expr}{scope:Scope}{pos:Pos}{it acc:Value}{env:Env}(I:Nat->Shared->Prop)
  (turn:∀n s,I n s->wpAny (model prog w) A (pyNext it) (fun r s₁=>match r with
   | none=>R (.ok .next) s₁
   | some v=>wpAny (model prog w) A (letOwnedTupleGo target it v) (fun _ s0=>wpAny (model prog w) A (assign target env v) (fun _ s₂ =>
     wpAny (model prog w) A (forIn ifs true fun c r=>if r=true then do let ok <-isTrue c env (eval c env);pure (ForInStep.yield ok) else pure (ForInStep.yield r)) (fun ok s₃ =>
      if ok=true then wpAny (model prog w) A (eval elt env) (fun x s₄ =>
       wpAny (model prog w) A (call (.builtin "list.append") [acc,x]) (fun _ s₅=>∃m,m<n/\I m s₅) (fun _ _=>False) s₄) (fun _ _=>False) s₃
      else ∃m,m<n/\I m s₃) (fun _ _=>False) s₂) (fun _ _=>False) s0) (fun _ _=>False) s₁) (fun _ _=>False) s)
  (n:Nat) (h:I n s):codeAny (model prog w) A (.compLoop (.ListComp elt [⟨target,iter,ifs,0⟩] scope pos) 0 it acc env) R s:=by
 refine codeAny_loop rfl I (fun n s hI=>?_) n h
 show wpAny _ A ((compTurn (.ListComp elt [⟨target,iter,ifs,0⟩] scope pos) 0 it acc env).onRaise (fun x=>do noteFrame x env;theTreesLotGoes x)) _ _ s
 refine wpAny_noted ?_
 rw[compTurn_list]
 refine MB (wpAny_standAt (MB (wpAny_mono (turn n s hI) (fun r s₁ h₁=>?_) fun _ _ h'=>h'.elim)))
 cases r with
 | none=>exact ME h₁
 | some v =>
  refine MB (wpAny_mono h₁ (fun _ s0 h₁=>?_) fun _ _ h'=>h'.elim)
  refine MB (wpAny_mono h₁ (fun _ s₂ h₂=>MB (wpAny_mono h₂ (fun ok s₃ h₃=>?_) fun _ _ h'=>h'.elim)) fun _ _ h'=>h'.elim)
  cases ok with
  | false=>exact ME ⟨rfl,h₃⟩
  | true =>
   exact MB (MB (wpAny_mono h₃ (fun x s₄ h₄=>MB (wpAny_mono h₄ (fun _ s₅ h₅=>ME (ME ⟨rfl,h₅⟩)) fun _ _ h'=>h'.elim)) fun _ _ h'=>h'.elim))
noncomputable def cxC (X:Cx)(N:List Str)(s2:Shared)(H2:Hp)(fp:List Addr)(scope:Scope)(C:Addr):Cx :=
 { X with N:=N,s₀:=s2,H₀:=H2,env:=compEnvC scope (jS X.env scope.names []) C X.env,outer:=X.stack,stack:=X.stack,ex:=fp,fn:=fun _=>false,pn:=[],xe:=fun _ _=>False }
structure CScope (X:Cx)(scope:Scope):Prop where
 kind:scope.kind=.function
 nocell:∀y∈scope.names,y.2≠.cell
 nms:∀y∈scope.names,y.2=.local->scope.names.lookup y.1=some .local
 free:∀y∈scope.names,y.2=.free->X.env.kindOf y.1=some .cell\/X.env.kindOf y.1=some .free
theorem mO {scope:Scope}{env:Env}{x:Str}{k:NameKind}(h:(relabel scope env).names.lookup x=some k)(hk:k=.cell\/k=.free)(nc:∀y∈scope.names,y.2≠.cell):(x,NameKind.free)∈scope.names:=by
 have hm:=N4 h
 unfold relabel at hm
 obtain⟨⟨n,k0⟩,hy,e⟩:=MZ.mp hm
 simp only at e
 split at e
 ·rename_i hc
  cases e
  simp only[Bool.and_eq_true,beq_iff_eq] at hc
  have:k0=.free:=hc.1.1
  subst this
  exact hy
 ·cases e
  rcases hk with rfl|rfl
  ·exact absurd rfl (nc _ hy)
  ·exact hy
theorem kF {env:Env}:∀ {names:List (Str × NameKind)}{x:Str},names.lookup x=some .globalImplicit ->
  (names.map fun (n,k)=>if (k == NameKind.free && env.scope.kind == .function && env.kindOf n == some .cell) then (n,NameKind.cell) else (n,k)).lookup x=some .globalImplicit
 | [],_,h=>by simp at h
 | (n,k)::r,x,h=>by
  have ih:=@kF env r x
  show List.lookup x ((if (k == NameKind.free && env.scope.kind == .function && env.kindOf n == some .cell)=true then (n,NameKind.cell) else (n,k))::_)=_
  cases hx:x == n with
  | true =>
   simp only[List.lookup_cons,hx] at h
   cases h
   simp[List.lookup_cons,hx]
  | false =>
   simp only[List.lookup_cons,hx] at h
   by_cases hc:(k == NameKind.free && env.scope.kind == .function && env.kindOf n == some .cell)=true
   ·rw[ML hc];simp only[List.lookup_cons,hx];exact ih h
   ·rw[MJ hc];simp only[List.lookup_cons,hx];exact ih h
theorem dX {env:Env}:∀ {names:List (Str × NameKind)}{x:Str},names.lookup x=some .free ->
  (names.map fun (n,k)=>if (k == NameKind.free && env.scope.kind == .function && env.kindOf n == some .cell) then (n,NameKind.cell) else (n,k)).lookup x=some .cell \/
  (names.map fun (n,k)=>if (k == NameKind.free && env.scope.kind == .function && env.kindOf n == some .cell) then (n,NameKind.cell) else (n,k)).lookup x=some .free
 | [],_,h=>by simp at h
 | (n,k)::r,x,h=>by
  have ih:=@dX env r x
  show List.lookup x ((if (k == NameKind.free && env.scope.kind == .function && env.kindOf n == some .cell)=true then (n,NameKind.cell) else (n,k))::_)=_\/List.lookup x ((if (k == NameKind.free && env.scope.kind == .function && env.kindOf n == some .cell)=true then (n,NameKind.cell) else (n,k))::_)=_
  cases hx:x == n with
  | true =>
   simp only[List.lookup_cons,hx] at h
   cases h
   by_cases hc:(NameKind.free == NameKind.free && env.scope.kind == .function && env.kindOf n == some .cell)=true
   ·rw[ML hc];simp[List.lookup_cons,hx]
   ·rw[MJ hc];simp[List.lookup_cons,hx]
  | false =>
   simp only[List.lookup_cons,hx] at h
   by_cases hc:(k == NameKind.free && env.scope.kind == .function && env.kindOf n == some .cell)=true
   ·rw[ML hc];simp only[List.lookup_cons,hx];exact ih h
   ·rw[MJ hc];simp only[List.lookup_cons,hx];exact ih h
section
variable {X:Cx}{pins:List (Addr × Obj)}{σ:L2.St}{H2:Hp}{s2:Shared}{fp:List Addr}{scope:Scope}{C:Addr}{N:List Str}
theorem CScope.cells (S:CScope X scope)(I:L2.Inv X pins σ H2 s2):∀y∈scope.names,y.2=.free->∃c,X.env.cells.lookup y.1=some c:=fun y hy hf=>I.ok.has y.1 (S.free y hy hf)
theorem E4 (S:CScope X scope)(I:L2.Inv X pins σ H2 s2)(f2:∀b∈fp,mX X pins H2 b)(fl:∀b∈fp,b<s2.heap.objs.size)(hC:s2.heap.objs.size<=C):(cxC X N s2 H2 fp scope C).Ok where
 mod:=I.ok.mod
 kind:=S.kind
 glob:=I.ok.glob
 blt:=I.ok.blt
 above:=hC
 inj:=fun x y c h1 h2=>I.ok.inj x y c (ic (S.cells I) (fun _ _ z=>by simp at z) h1) (ic (S.cells I) (fun _ _ z=>by simp at z) h2)
 has:=fun x hx=>by
  refine pf (x:=x) ?_
  rcases hx with h|h
  ·exact mO h (.inl rfl) S.nocell
  ·exact mO h (.inr rfl) S.nocell
 cab:=fun x c h=>by cases h
 hd:=I.ok.hd
 frames:=I.ok.frames
 stk:=.inl rfl
 exf:=fun b hb=>⟨M2 (MG (fl b hb) hC),fun x c h=>(f2 b hb).2.2.2.2.1 x c (ic (S.cells I) (fun _ _ z=>by simp at z) h)⟩
 bs:=I.bs
 bsz:=NI I.ok.bsz I.sz
 noex:=fun b o e hb=>by
  rcases (f2 b hb).2.2.2.1 with z|z
  ·exact I.ok.noex b o e z
  ·have:=MU e
   exact absurd (MG (MG this I.ok.bsz) z) (OO _)
 exfs:=fun b hb hf=>by
  rcases NA.mp (I.stkSub b hf) with z|z
  ·exact(f2 b hb).2.1 z
  ·exact(f2 b hb).2.2.1 z
 funs:=I.stack
 frf:=I.stkFree
theorem Be {H3:Hp}{h1:Heap}{tk:Nat}{nt:List Str}{cn:List Str}{caps:List Nat}(S:CScope X scope)(I:L2.Inv X pins σ H2 s2)(f2:∀b∈fp,mX X pins H2 b)(fl:∀b∈fp,b<s2.heap.objs.size)(hC:s2.heap.objs.size<=C)
  (un:Un (frs X.stack) fp H2 H3 s2.heap h1) (hok:HOk X.prog X.w H3 h1) (ns:h1.Ns C (fun _=>none)) (hn:H3 C=none) (keep:∀b o,s2.heap.get? b=some o->h1.get? b=some o) (free:∀b o,s2.heap.get? b=some o->H2 b=none->H3 b=none)
  (hcn:cn=caps.filterMap (X.N[·]?)) (hcl:∀i∈caps,i<X.N.length) (hcf:∀x∈cn,scope.names.lookup x=some .free) (hce:∀x∈cn,X.env.kindOf x=some .cell\/X.env.kindOf x=some .free) :
  L2.Inv (cxC X (nt++cn) s2 H2 fp scope C) [] (nt.map (fun _=>none)++caps.map fun i=>(σ[i]?).join) H3 { s2 with heap:=h1,toks:=tk }:=by
 have cel:∀x c,(jS X.env scope.names []).lookup x=some c->X.env.cells.lookup x=some c:=fun x c h=>ic (S.cells I) (fun _ _ z=>by simp at z) h
 have lenc:cn.length=caps.length:=by
  rw[hcn]
  clear hcf hce hcn
  induction caps with
  | nil=>rfl
  | cons i r ih =>
   have:X.N[i]?=some (X.N[i]'(hcl i NH)):=MK (hcl i NH)
   rw[NY,this]
   simp only[List.length_cons]
   rw[ih fun j hj=>hcl j (MT _ hj)]
 have getc:∀(j i:Nat),caps[j]?=some i->∃x,cn[j]?=some x/\X.N[i]?=some x:=by
  rw[hcn]
  clear hcf hce hcn lenc
  induction caps with
  | nil=>intro j i h;simp at h
  | cons k r ih =>
   intro j i h
   have hk:X.N[k]?=some (X.N[k]'(hcl k NH)):=MK (hcl k NH)
   rw[NY,hk]
   cases j with
   | zero=>simp at h;subst h;exact⟨_,rfl,hk⟩
   | succ j=>exact ih (fun j hj=>hcl j (MT _ hj)) j i (by simpa using h)
 refine⟨E4 S I f2 fl hC,rfl,I.bare,un,⟨_,ns,fun i x v e1 e2 e3=>?_⟩,fun x c e=>?_,hn,fun x c e=>?_,fun p hp=>absurd (show p∈([]:List (Addr × Obj)) from hp) (by simp),hok,?_⟩
 ·by_cases hi:i<nt.length
  ·rw[M1 (by simpa using hi),MN] at e2
   cases q:nt[i]? with
   | none=>rw[q] at e2;cases e2
   | some z=>rw[q] at e2;cases e2
  ·rw[M6 (by simpa using hi),MS,MN] at e2
   have e1':(nt++cn)[i]?=some x:=e1
   rw[M6 (by exact Nat.not_lt.mp ‹_›)] at e1'
   cases q:caps[i-nt.length]? with
   | none=>rw[q] at e2;cases e2
   | some j =>
    rw[q] at e2
    have e2':(σ[j]?).join=some v:=NE e2
    obtain⟨y,g1,g2⟩:=getc _ _ q
    rw[e1'] at g1
    cases g1
    have e4:σ[j]?=some (some v):=by
     cases z:σ[j]? with
     | none=>rw[z] at e2';cases e2'
     | some w=>rw[z] at e2';rw[show w=some v from e2']
    obtain⟨m,hm,hl⟩:=I.loc
    have kx:=hce x (MQ e1')
    obtain⟨u,ru,lk⟩:=hl j x v g2 e4 (.inr (by rcases kx with k|k;exact .inl k;exact .inr k))
    refine⟨u,ru,.inr ⟨dX (hcf x (MQ e1')),?_⟩⟩
    rcases lk with⟨k,_⟩|⟨_,c,ec,hc⟩
    ·rcases kx with k' | k' <;> rw[k] at k' <;> cases k'
    ·obtain⟨c',ec'⟩:=pf (env:=X.env) (names:=scope.names) (cs:=[]) (x:=x) (N4 (hcf x (MQ e1')))
     have:=cel x c' ec'
     rw[ec] at this
     cases this
     obtain⟨o,ho,hd⟩:=hc
     exact⟨c,ec',o,keep _ _ ho,hd⟩
 ·obtain⟨v,o,ho,hd⟩:=I.cell x c (cel x c e)
  exact⟨v,o,keep _ _ ho,hd⟩
 ·obtain⟨v,o,ho,hd⟩:=I.cell x c (cel x c e)
  exact free c o ho (I.freeC x c (cel x c e))
 ·show (nt.map (fun _=>(none:Option V))++caps.map fun i=>(σ[i]?).join).length=(nt++cn).length
  simp[lenc]
end
end FW
namespace FW
open L2 HX
section
variable {Γ:Nat->FSp}
mutual
theorem rj {n:Nat}(G:bu Γ):∀(t:Tg) {v:PV}{ρ:Fr}{st:AH}{Q:Fr->AH->Prop},t.low n=true->dy Γ t v ρ st Q->dy Γ t v ρ st fun ρ' st'=>Q ρ' st'/\∀i,n<=i->ρ'[i]?=ρ[i]?
 | .name i,v,ρ,st,Q,h,q=>by
  skip
  rw[Tg.low] at h
  have:=O8 h
  exact⟨q,fun j hj=>NK (by omega)⟩
 | .tup ts,v,ρ,st,Q,h,q=>by
  skip
  rw[Tg.low] at h
  obtain⟨xs,e,hl,q⟩:=q
  exact⟨xs,e,hl,oF G ts h q⟩
 | .ltup ts,v,ρ,st,Q,h,q=>False.elim q
 | .sub _ _,v,ρ,st,Q,h,q=>by rw[Tg.low] at h;cases h
theorem oF {n:Nat}(G:bu Γ):∀(t:Tgs) {v:List PV}{ρ:Fr}{st:AH}{Q:Fr->AH->Prop},t.low n=true->iH Γ t v ρ st Q->iH Γ t v ρ st fun ρ' st'=>Q ρ' st'/\∀i,n<=i->ρ'[i]?=ρ[i]?
 | .nil,v,ρ,st,Q,h,q=>by exact⟨q.1,q.2,fun _ _=>rfl⟩
 | .cons t ts,v,ρ,st,Q,h,q=>by
  skip
  rw[Tgs.low,M3] at h
  obtain⟨x,r,e,q⟩:=q
  refine⟨x,r,e,aY G t (fun ρ1 st1 k=>?_) (rj G t h.1 q)⟩
  refine gP G ts (fun ρ2 st2 k2=>⟨k2.1,fun i hi=>(k2.2 i hi).trans (k.2 i hi)⟩) (oF G ts h.2 k.1)
end
end
mutual
theorem R.mono0 {K:W.Frag}{m:List Addr}{H H':Hp}(ht:∀a ys,SqT K H a ys->SqT K H' a ys)(hr:∀a ys,RdF K H a ys->RdF K H' a ys):∀ {p:PV}{v:V},R K m H p v->R K m H' p v
 | .non,v,h=>by rw[R_non] at h |-;exact h
 | .bl b,v,h=>by rw[R_bl] at h |-;exact h
 | .int b,v,h=>by rw[R_int] at h |-;exact h
 | .str b,v,h=>by rw[R_str] at h |-;exact h
 | .ref n,v,h=>by rw[iG] at h |-;exact h
 | .tup xs,v,h=>by rw[R_tup] at h |-;obtain⟨a,ys,e,q,r⟩:=h;exact⟨a,ys,e,ht _ _ q,Rs.mono0 ht hr r⟩
 | .rdl xs,v,h=>by rw[fj] at h |-;obtain⟨a,ys,e,q,r⟩:=h;exact⟨a,ys,e,hr _ _ q,Rs.mono0 ht hr r⟩
 | .fn a,v,h=>by rw[yb] at h |-;exact h
theorem Rs.mono0 {K:W.Frag}{m:List Addr}{H H':Hp}(ht:∀a ys,SqT K H a ys->SqT K H' a ys)(hr:∀a ys,RdF K H a ys->RdF K H' a ys):∀ {ps:List PV}{vs:List V},Rs K m H ps vs->Rs K m H' ps vs
 | [],vs,h=>by rw[Rs_nil] at h |-;exact h
 | p::ps,vs,h=>by
  rw[aQ] at h |-
  obtain⟨y,r,e,h1,h2⟩:=h
  exact⟨y,r,e,R.mono0 ht hr h1,Rs.mono0 ht hr h2⟩
end
theorem jc {K:W.Frag}{H:Hp}{D:Addr}{ys zs:List V}(hD:H D=some (.lst ys)):∀a us,SqT K H a us->SqT K (upd H D (.lst zs)) a us:=fun a us q=>by
 rcases q with (q|⟨w,q⟩)|q
 ·exact .inl (.inl (by rw[am (fun z=>by subst z;rw[hD] at q;cases q)];exact q))
 ·exact .inl (.inr ⟨w,by rw[am (fun z=>by subst z;rw[hD] at q;cases q)];exact q⟩)
 ·exact .inr q
theorem i7 {K:W.Frag}{H:Hp}{D:Addr}{ys zs:List V}(hD:H D=some (.lst ys)):∀a us,RdF K H a us->RdF K (upd H D (.lst zs)) a us:=fun a us q=>by
 rcases q with⟨w,q⟩|q
 ·exact .inl ⟨w,by rw[am (fun z=>by subst z;rw[hD] at q;cases q)];exact q⟩
 ·exact .inr q
theorem TB.away {K:W.Frag}{H:Hp}{D:Addr}{ys zs:List V}(t:TB K H)(hD:H D=some (.lst ys)):TB K (upd H D (.lst zs)) :=
 t.keep (fun a ps q=>by rw[am (fun z=>by subst z;rw[hD] at q;cases q)];exact q) fun a o q=>by rw[am (fun z=>by subst z;rw[hD] at q;cases q)];exact q
theorem Ext.away {K:W.Frag}{m m':List Addr}{H H':Hp}{D:Addr}{ys zs:List V}(x:Ext K m H m' H')(h0:H D=none)(hD:H' D=some (.lst ys)):Ext K m H m' (upd H' D (.lst zs)) :=
 ⟨x.pre,x.new,fun a o ha e n=>by rw[am (aD e h0)];exact x.fr a o ha e n,fun a us q=>jc hD a us (x.tup a us q),fun a us q=>i7 hD a us (x.rdf a us q),fun a ps ha e=>let ⟨p1,e1⟩:=x.tbs a ps ha e;⟨p1,by rw[am (aD e h0)];exact e1⟩,fun t=>(x.tb t).away hD,fun a o u e=>by rw[am (aD e h0)];exact x.frz a o u e⟩
theorem RH.away {K:W.Frag}{m:List Addr}{H:Hp}{st:AH}{D:Addr}{ys zs:List V}(h:RH K m H st)(hm:D ∉ m)(hD:H D=some (.lst ys)):RH K m (upd H D (.lst zs)) st:=by
 refine⟨h.len,h.nd,fun n c a h1 h2=>?_,h.tb.away hD⟩
 have ha:a≠D:=fun z=>hm (z ▸ MQ h2)
 have hc:=h.at_ n c a h1 h2
 cases c with
 | lst xs=>obtain⟨us,g1,g2⟩:=hc;exact⟨us,by rw[am ha];exact g1,g2.mono0 (jc hD) (i7 hD)⟩
 | dk kvs=>obtain⟨us,g1,g2,g3⟩:=hc;exact⟨us,by rw[am ha];exact g1,g2,g3.mono0 (jc hD) (i7 hD)⟩
 | fz kvs=>obtain⟨o,us,g1,g2,g3⟩:=hc;exact⟨o,us,by rw[am ha];exact g1,g2,g3.mono0 (jc hD) (i7 hD)⟩
theorem RF.away {K:W.Frag}{m:List Addr}{H:Hp}{ρ:Fr}{σ:L2.St}{D:Addr}{ys zs:List V}(h:RF K m H ρ σ)(hD:H D=some (.lst ys)):RF K m (upd H D (.lst zs)) ρ σ :=
 ⟨h.len,fun i v e=>let ⟨y,e1,r⟩:=h.at_ i v e;⟨y,e1,r.mono0 (jc hD) (i7 hD)⟩⟩
theorem RF.less {K:W.Frag}{m:List Addr}{H:Hp}{ρ ρ':Fr}{σ:L2.St}{n:Nat}(h:RF K m H ρ' σ)(hl:ρ.length=ρ'.length)(hn:∀i v,ρ[i]?=some (some v)->n<=i)(hp:∀i,n<=i->ρ'[i]?=ρ[i]?):RF K m H ρ σ :=
 ⟨hl.trans h.len,fun i v e=>h.at_ i v (by rw[hp i (hn i v e)];exact e)⟩
theorem rg {nt:List Str}{f:Nat->Option PV}{caps:List Nat}:∀(i:Nat) (v:PV),(nt.map (fun _=>(none:Option PV))++caps.map f)[i]?=some (some v)->nt.length<=i:=fun i v e=>by
 by_cases hi:i<nt.length
 ·rw[M1 (by simpa using hi),MN] at e
  cases q:nt[i]? with
  | none=>rw[q] at e;cases e
  | some z=>rw[q] at e;cases e
 ·exact Nat.not_lt.mp ‹_›
theorem Cz {K:W.Frag}{m:List Addr}{H:Hp}{ρ:Fr}{σ:L2.St}{nt:List Str}{caps:List Nat}(h:RF K m H ρ σ) :
  RF K m H (nt.map (fun _=>none)++caps.map fun i=>(ρ[i]?).join) (nt.map (fun _=>none)++caps.map fun i=>(σ[i]?).join):=by
 refine⟨by simp,fun i v e=>?_⟩
 have hi:=rg i v e
 rw[M6 (by simpa using hi),MS,MN] at e
 rw[M6 (by simpa using hi),MS,MN]
 cases q:caps[i-nt.length]? with
 | none=>rw[q] at e;cases e
 | some j =>
  rw[q] at e
  have e':(ρ[j]?).join=some v:=NE e
  have e4:ρ[j]?=some (some v):=by
   cases z:ρ[j]? with
   | none=>rw[z] at e';cases e'
   | some w=>rw[z] at e';rw[show w=some v from e']
  obtain⟨y,e5,r⟩:=h.at_ j v e4
  exact⟨y,by show some ((σ[j]?).join)=_;rw[e5];rfl,r⟩
section
variable {X:Cx}{Γ:Nat->FSp}{pins:List (Addr × Obj)}{σ:L2.St}{H:Hp}{s:Shared}
noncomputable def dW (K:W.Frag)(m1:List Addr)(H1:Hp)(Fin:Addr->Hp->Prop):LK:=fun vs st2=>∀m2 H2 D ys,Ext K m1 H1 m2 H2->RH K m2 H2 st2->D ∉ m2->H1 D=none->H2 D=some (.lst ys)->Rs K m2 H2 vs ys->Fin D H2
noncomputable def fq (Γ:Nat->FSp)(elt:E)(tg:Tg)(ifs:Es)(ρ:Fr):PV->AH->(Option PV->AH->Prop)->Prop:=fun x st2 k=>dy Γ tg x ρ st2 fun ρ' st3=>ib Γ ifs ρ' st3 fun c st4=>if c=true then wpE Γ elt ρ' st4 fun v st5=>k (some v) st5 else k none st4
theorem rp (G:bu Γ)(hcalm:X.calm=true){elt:E}{tg:Tg}{ifs:Es}{nt:List Str}{caps:List Nat}{cn:List Str}{eltx tgx iterx:Expr}{ifsx:List Expr}{scope:Scope}{pos p0:Pos}{use:Option (Value->Sem Unit)}{Qf:Value->Shared->Prop}{Fin:Addr->Hp->Prop}{wi:TI}
  (S:CScope X scope) (hcn:cn=caps.filterMap (X.N[·]?)) (hcl:∀i∈caps,i<X.N.length) (hcf:∀x∈cn,scope.names.lookup x=some .free) (hce:∀x∈cn,X.env.kindOf x=some .cell\/X.env.kindOf x=some .free)
  (hset:iJ iterx=true) (hlow:tg.low nt.length=true) (hI:PI X tgx iterx wi)
  (hG:∀s2 H2 fp C,PG (cxC X (nt++cn) s2 H2 fp scope C) tgx (TGx X.K (dy Γ tg)))
  (hT:∀s2 H2 fp C,PTs (cxC X (nt++cn) s2 H2 fp scope C) ifsx (TTx X.K (ib Γ ifs)))
  (hE:∀s2 H2 fp C,PE (cxC X (nt++cn) s2 H2 fp scope C) eltx (TEx X.K (wpE Γ elt)))
  (I:L2.Inv X pins σ H s)
  (h:wi σ H fun J H1=>∃m ρ st1 xs chk,RF X.K m H1 ρ σ/\RH X.K m H1 st1/\rD X.K J xs chk m H1/\xs.length<100000/\eI chk (fq Γ elt tg ifs (nt.map (fun _=>none)++caps.map fun i=>(ρ[i]?).join)) xs [] st1 (dW X.K m H1 Fin))
  (fin:∀C D H' s' m',L2.Inv X pins σ H' s'->s'.heap.Ns C m'->mX X pins H' C->Fin D H'->compPost (model X.prog X.w) X.A X.xe use Qf (.ref D) C (.ok .next) s') :
  wpAny (model X.prog X.w) X.A (comprehension (.ListComp eltx [⟨tgx,iterx,ifsx,0⟩] scope pos) scope X.env p0 (newList []) false (eval iterx X.env) use) Qf X.xe s:=by
 refine wpAny_comprehension_free (use:=use) rfl (t8 hset) (vO (S.cells I)) S.kind S.nms ?_
 refine thn (hI pins s σ H _ I h) fun v s1 h1=>thn h1 fun itv s2 h2=>?_
 obtain⟨it,fp,tn,J,H2,e,I2,T,st2,f2,m,ρ,st1,xs,chk,rf,rh,W,hxs,w⟩:=h2
 subst e
 have fl:∀b∈fp,b<s2.heap.objs.size:=fun b hb=>by
  obtain⟨o,e,_⟩:=T.obj 0 _ st2 b hb
  exact MU e
 refine wpAny_newObj_type (wpAny_newFunctionEnv S.nocell (by intro y hy;simp at hy) (fun h₁ hns₁ hsb₁=>?_) S.kind)
 dsimp only at hns₁ hsb₁ |-
 generalize hD:s2.heap.objs.size=D at *
 generalize hH3:s2.heap.push { cls:=.type "list",dict:=none,data:=.seq ([]:List Value).toArray }=P3 at hns₁ hsb₁ |-
 generalize hCC:P3.objs.size=C at *
 have hC1:C=D+1:=by rw[<-hCC,<-hH3,OI,hD]
 have ltDC:D<C:=by rw[hC1];exact PF D
 have neC:∀b,b<D->b≠C:=fun b hb=>M2 (OD hb ltDC)
 have hDn:H2 D=none:=by rw[<-hD];exact I2.hok.fresh (MM _)
 have hCn:H2 C=none:=I2.hok.fresh (by rw[hD];exact OA ltDC)
 have old3:∀b o,s2.heap.get? b=some o->P3.get? b=some o:=fun b o e=>hH3 ▸ MD _ e
 have old:∀b o,s2.heap.get? b=some o->h₁.get? b=some o:=fun b o e=>hsb₁.extBut b o (neC b (hD ▸ MU e)) (MD _ (old3 b o e))
 have newD:h₁.get? D=some { cls:=.type "list",data:=.seq #[] }:=hsb₁.extBut _ _ (M2 ltDC) (MD _ (by rw [<-hH3,<-hD];exact MX _ rfl))
 have un:Un (frs X.stack) fp H2 (upd H2 D (.lst [])) s2.heap h₁:=Un.laid old (by rw[hD];exact MM _) hDn
 have hok:HOk X.prog X.w (upd H2 D (.lst [])) h₁:=I2.hok.laid old (by rw[hD];exact MM _) ⟨N5 _,[],0,.nil,newD⟩
 have I4:=Be (nt:=nt) (tk:=s2.toks+([]:List (Str × Value)).length) S I2 f2 (by rw[hD];exact fl) (C:=C) (by rw[hD];exact OA ltDC) un hok (by simpa using hns₁) (by rw[am (O1 ltDC)];exact hCn) old
  (fun b o e n=>by rw[am (M2 (hD ▸ MU e))];exact n) hcn hcl hcf hce
 generalize hρ0:(nt.map (fun _=>none)++caps.map fun i=>(ρ[i]?).join:Fr)=ρ0 at w
 have hρn:∀i v,ρ0[i]?=some (some v)->nt.length<=i:=by rw[<-hρ0];exact rg
 have rf0:RF X.K m H2 ρ0 (nt.map (fun _=>none)++caps.map fun i=>(σ[i]?).join):=by rw[<-hρ0];exact Cz rf
 generalize (nt.map (fun _=>none)++caps.map fun i=>(σ[i]?).join:L2.St)=σ0 at I4 rf0
 have loop:codeAny (model X.prog X.w) X.A (.compLoop (.ListComp eltx [⟨tgx,iterx,ifsx,0⟩] scope pos) 0 (.ref it) (.ref D) (compEnvC scope (jS X.env scope.names []) C X.env)) (compPost (model X.prog X.w) X.A X.xe use Qf (.ref D) C)
   { s2 with heap:=h₁,toks:=s2.toks+([]:List (Str × Value)).length }:=by
  refine sG (fun n s'=>∃(i:Nat),∃σ' H' m' st' acc ys,n+i=xs.length/\L2.Inv (cxC X (nt++cn) s2 H2 fp scope C) [] σ' H' s'/\tn i s'.heap/\(∀b∈fp,H' b=none)/\Ext X.K m H2 m' H'/\RH X.K m' H' st'/\RF X.K m' H' ρ0 σ'/\D ∉ m'/\H' D=some (.lst ys)/\Rs X.K m' H' acc ys/\ys.length<=i /\
   eI chk (fq Γ elt tg ifs ρ0) (xs.drop i) acc st' (dW X.K m H2 Fin)) ?_ xs.length
   ⟨0,σ0,_,m,st1,[],[],rfl,I4,T.keep 0 _ _ st2 (fun b _ o e=>old b o e),fun b hb=>by rw[am (M2 (fl b hb))];exact(f2 b hb).1,Ext.newT rh hDn,rh.newT hDn,rf0.mono (Ext.newT rh hDn),rh.fresh hDn,bH,Rs_nil.mpr rfl,MM _,by simpa using w⟩
  rintro n s' ⟨i,σ',H',m',st',acc,ys,hn,I',tni,fpn,x',rh',rf',Dm,hDl,rys,hly,k⟩
  have stat:∀ {H'':Hp},(∀b∈fp,H'' b=none)->∀b∈fp,mX (cxC X (nt++cn) s2 H2 fp scope C) [] H'' b:=fun hz b hb=>⟨hz b hb,(I'.ok.exf b hb).1,I'.ok.exfs b hb,.inl hb,(I'.ok.exf b hb).2,fun p hp=>absurd (show p∈([]:List (Addr × Obj)) from hp) (by simp)⟩
  cases q:xs.drop i with
  | nil =>
   rw[q] at k
   have hi:i=xs.length:=by
    have:=NV List.length q
    simp at this
    omega
   subst hi
   refine thn (T.done (cxC X (nt++cn) s2 H2 fp scope C) rfl rfl rfl hcalm _ [] s' σ' H' (fun _ _=>False) I' (stat fpn) tni (W.stop m' H' st' x' rh' k.1)) fun r s1 ⟨hr,I1⟩=>?_
   subst hr
   have IX:L2.Inv X pins σ H' s1:=I2.call' I1.os I1.base I1.hok I1.bare fun b hb=>⟨(f2 b hb).2.2.2.1,(f2 b hb).2.1,(f2 b hb).2.2.2.2.1,(f2 b hb).2.2.2.2.2⟩
   obtain⟨mm,hns,_⟩:=I1.loc
   exact fin C D H' s1 mm IX hns (I2.fpOk (by rw[hD];exact OA ltDC) I1.free) (k.2 m' H' D ys x' rh' Dm hDn hDl rys)
  | cons v rest =>
   rw[q] at k
   have hi:i<xs.length:=by
    have:=NV List.length q
    simp at this
    omega
   have ev:xs[i]?=some v:=by
    have:=NV List.head? q
    rw[List.head?_drop] at this
    exact this
   have er:rest=xs.drop (i+1):=by
    have:=NV List.tail q
    rw[List.tail_drop] at this
    exact this.symm
   subst er
   obtain⟨kc,k⟩:=k
   obtain⟨go,yl⟩:=W.item i v m' H' st' x' rh' kc ev
   refine thn (T.item (cxC X (nt++cn) s2 H2 fp scope C) rfl rfl rfl hcalm i [] s' σ' H' (fun _ _=>False) I' (stat fpn) tni go) fun r s4 ⟨u,hr,h4⟩=>?_
   subst hr
   refine thn h4 fun _ s5 ⟨x,H5,I5,r5,y5,tn5,fr5⟩=>?_
   obtain⟨x5,rh5,rv5⟩:=yl x H5 y5
   have I5':=I5.pinned (stat fr5) (T.obj _ _ tn5)
   have again:∀ {σ7:L2.St}{H7:Hp}{s7:Shared}{m7:List Addr}{st7:AH}{acc7:List PV}{ys7:List V},L2.Inv (cxC X (nt++cn) s2 H2 fp scope C) ([]++nV fp s5.heap) σ7 H7 s7->Ext X.K m H2 m7 H7->RH X.K m7 H7 st7->RF X.K m7 H7 ρ0 σ7->D ∉ m7->H7 D=some (.lst ys7) ->
     Rs X.K m7 H7 acc7 ys7->ys7.length<=i+1->eI chk (fq Γ elt tg ifs ρ0) (xs.drop (i+1)) acc7 st7 (dW X.K m H2 Fin) ->
     ∃n',n'<n/\∃(i:Nat),∃σ' H' m' st' acc ys,n'+i=xs.length/\L2.Inv (cxC X (nt++cn) s2 H2 fp scope C) [] σ' H' s7/\tn i s7.heap/\(∀b∈fp,H' b=none)/\Ext X.K m H2 m' H'/\RH X.K m' H' st'/\RF X.K m' H' ρ0 σ'/\D ∉ m'/\H' D=some (.lst ys)/\Rs X.K m' H' acc ys/\ys.length<=i /\
      eI chk (fq Γ elt tg ifs ρ0) (xs.drop i) acc st' (dW X.K m H2 Fin):=fun {σ7 H7 s7 m7 st7 acc7 ys7} I7 g1 g2 g3 g4 g5 g6 g7 g8=>by
    refine⟨n-1,by omega,i+1,σ7,H7,m7,st7,acc7,ys7,by omega,I7.unpinned,T.keep _ _ _ tn5 fun b hb o e=>(I7.pin (b,o) (NT _ (NT _ (gK hb e)))).1,fun b hb=>?_,g1,g2,g3,g4,g5,g6,g7,g8⟩
    obtain⟨o,e,d⟩:=T.obj _ _ tn5 b hb
    exact(I7.pin (b,o) (NT _ (NT _ (gK hb e)))).2.1
   have k2:=rj (n:=nt.length) G tg hlow k
   refine thn (hG s2 H2 fp C _ s5 σ' H5 x u (fun σ6 H6=>∃m6 ρ1 st6,Ext X.K m' H5 m6 H6/\RH X.K m6 H6 st6/\RF X.K m6 H6 ρ1 σ6/\(∀j,nt.length<=j->ρ1[j]?=ρ0[j]?) /\
    ib Γ ifs ρ1 st6 fun c st4=>if c=true then wpE Γ elt ρ1 st4 fun vv st5=>eI chk (fq Γ elt tg ifs ρ0) (xs.drop (i+1)) (acc++[vv]) st5 (dW X.K m H2 Fin) else eI chk (fq Γ elt tg ifs ρ0) (xs.drop (i+1)) acc st4 (dW X.K m H2 Fin)) I5' r5
    ⟨m',ρ0,st',v,rf'.mono x5,rh5,rv5,aY G tg (fun ρ1 st6 z m6 H6 σ6 x6 rh6 rf6=>⟨m6,ρ1,st6,x6,rh6,rf6,z.2,bX G ifs (fun c st4 zz=>by
     cases c with
     | true=>rw[ML rfl] at zz |-;exact zz
     | false=>rw[MJ MF] at zz |-;simpa using zz) z.1⟩) k2⟩) fun _ s6 ⟨σ6,H6,I6,m6,ρ1,st6,x6,rh6,rf6,pr,w6⟩=>?_
   have hlen:ρ0.length=ρ1.length:=by rw[rf6.len,I6.len,rf'.len,I'.len]
   refine thn (hT s2 H2 fp C _ s6 σ6 H6 (fun b H7=>∃m7 st7,Ext X.K m6 H6 m7 H7/\RH X.K m7 H7 st7/\if b=true then wpE Γ elt ρ1 st7 fun vv st5=>eI chk (fq Γ elt tg ifs ρ0) (xs.drop (i+1)) (acc++[vv]) st5 (dW X.K m H2 Fin) else eI chk (fq Γ elt tg ifs ρ0) (xs.drop (i+1)) acc st7 (dW X.K m H2 Fin)) I6
    ⟨m6,ρ1,st6,rf6,rh6,bX G ifs (fun b st7 z m7 H7 x7 rh7=>⟨m7,st7,x7,rh7,z⟩) w6⟩) fun b s7 ⟨H7,I7,m7,st7,x7,rh7,w7⟩=>?_
   have xx7:Ext X.K m' H' m7 H7:=(x5.trans x6).trans x7
   cases b with
   | false =>
    rw[MJ MF] at w7 |-
    refine again I7 (x'.trans xx7) rh7 ((rf6.mono x7).less hlen hρn pr) (fun z=>?_) (xx7.fr D _ Dm hDl fun _ z=>nomatch z) (rys.mono xx7) (by exact Nat.le_succ_of_le ‹_›) w7
    rcases xx7.new D z with z|z
    ·exact Dm z
    ·rw[hDl] at z;cases z
   | true =>
    rw[ML rfl] at w7 |-
    refine thn (hE s2 H2 fp C _ s7 σ6 H7 (fun y H8=>∃m8 st8 vv,Ext X.K m7 H7 m8 H8/\RH X.K m8 H8 st8/\R X.K m8 H8 vv y/\eI chk (fq Γ elt tg ifs ρ0) (xs.drop (i+1)) (acc++[vv]) st8 (dW X.K m H2 Fin)) I7
     ⟨m7,ρ1,st7,rf6.mono x7,rh7,aa G elt (fun vv st8 z m8 H8 y x8 rh8 r8=>⟨m8,st8,vv,x8,rh8,r8,z⟩) w7⟩) fun uy s8 ⟨y,H8,I8,ry,m8,st8,vv,x8,rh8,r8,w8⟩=>?_
    have xx8:Ext X.K m' H' m8 H8:=xx7.trans x8
    have hD8:H8 D=some (.lst ys):=xx8.fr D _ Dm hDl fun _ z=>nomatch z
    have Dm8:D ∉ m8:=fun z=>by
     rcases xx8.new D z with z|z
     ·exact Dm z
     ·rw[hDl] at z;cases z
    refine thn (qK (X:=cxC X (nt++cn) s2 H2 fp scope C) _ s8 σ6 H8 (.ref D) [y] (.ref D) [uy] (fun _ H9=>H9=upd H8 D (.lst (ys++[y]))) I8 rfl (.cons ry .nil) ⟨D,ys,y,rfl,rfl,hD8,nE (by omega),rfl⟩) fun _ s9 ⟨_,H9,I9,_,e9⟩=>?_
    subst e9
    exact again I9 ((x'.trans xx8).away hDn hD8) (rh8.away Dm8 hD8) ((((rf6.mono x7).mono x8).less hlen hρn pr).away hD8) Dm8 bH (((rys.mono xx8).app (.one r8)).mono0 (jc hD8) (i7 hD8)) (by simp;assumption) w8
 exact codeAny_compStart_list loop (T.self X.A 0 _ _ _ (T.keep 0 _ _ st2 fun b _ o e=>old b o e) loop)
end
end FW
namespace FW
open L2 HX
mutual
theorem R.pre {K:W.Frag}{m m':List Addr}{H:Hp}(hp:m <+: m'):∀ {p:PV}{v:V},R K m H p v->R K m' H p v
 | .non,v,h=>by rw[R_non] at h |-;exact h
 | .bl b,v,h=>by rw[R_bl] at h |-;exact h
 | .int b,v,h=>by rw[R_int] at h |-;exact h
 | .str b,v,h=>by rw[R_str] at h |-;exact h
 | .fn b,v,h=>by rw[yb] at h |-;exact h
 | .ref n,v,h=>by rw[iG] at h |-;obtain⟨a,e,q⟩:=h;exact⟨a,ku hp e,q⟩
 | .tup xs,v,h=>by rw[R_tup] at h |-;obtain⟨a,ys,e,q,r⟩:=h;exact⟨a,ys,e,q,Rs.pre hp r⟩
 | .rdl xs,v,h=>by rw[fj] at h |-;obtain⟨a,ys,e,q,r⟩:=h;exact⟨a,ys,e,q,Rs.pre hp r⟩
theorem Rs.pre {K:W.Frag}{m m':List Addr}{H:Hp}(hp:m <+: m'):∀ {ps:List PV}{vs:List V},Rs K m H ps vs->Rs K m' H ps vs
 | [],vs,h=>by rw[Rs_nil] at h |-;exact h
 | p::ps,vs,h=>by
  rw[aQ] at h |-
  obtain⟨y,r,e,h1,h2⟩:=h
  exact⟨y,r,e,R.pre hp h1,Rs.pre hp h2⟩
end
section
variable {Γ:Nat->FSp}{X:Cx}{c:Cfg}
theorem xC {k:Option NameKind}(h:yS k=true):k=some .cell\/k=some .free:=by
 unfold yS at h
 simpa using h
end
end FW
namespace FW
open L2 HX
end FW
namespace FW
open L2 HX
section
variable {X:Cx}{pins:List (Addr × Obj)}{σ:L2.St}{H:Hp}{s:Shared}{a:Addr}{ys:List (Key × V)}{o:Obj}
end
section
variable {K:W.Frag}{m m2:List Addr}{H H2:Hp}{st:AH}{n:Nat}{a:Addr}{o:Obj}{ys:List (Key × V)}{kvs:List (Key × PV)}
end
section
variable {X:Cx}{c:Cfg}{Γ:Nat->FSp}
end
end FW
namespace FW
open L2 HX
section
variable {X:Cx}{pins:List (Addr × Obj)}{σ:L2.St}{H:Hp}{s:Shared}{a:Addr}{A:Around}{E:Value->Shared->Prop}
end
section
variable {K:W.Frag}{m m':List Addr}{H H':Hp}{st:AH}{D:Addr}{ys zs:List (Key × V)}
end
section
variable {X:Cx}{Γ:Nat->FSp}{pins:List (Addr × Obj)}{σ:L2.St}{H:Hp}{s:Shared}
def DRel (K:W.Frag)(m:List Addr)(H:Hp)(ps:List (Str × PV))(ds:List (Key × V)):Prop:=ds.map (·.1)=(Ed ps).map (·.1)/\Rs K m H ((Ed ps).map (·.2)) (ds.map (·.2))
theorem DRel.mono {K:W.Frag}{m m':List Addr}{H H':Hp}{ps:List (Str × PV)}{ds:List (Key × V)}(h:DRel K m H ps ds)(x:Ext K m H m' H'):DRel K m' H' ps ds:=⟨h.1,h.2.mono x⟩
end
end FW
namespace FW
open L2 HX
section
variable {prog:Program}{w:World}{A:Around}{E:Value->Shared->Prop}{s:Shared}
variable {R:Result->Shared->Prop}
end
end FW
namespace FW
open L2 HX
section
variable {prog:Program}{w:World}{A:Around}{E:Value->Shared->Prop}{s:Shared}
end
section
variable {X:Cx}{c:Cfg}{Γ:Nat->FSp}
end
end FW
namespace FW
open L2 HX
section
variable {prog:Program}{w:World}
variable {A:Around}{E:Value->Shared->Prop}{s:Shared}
end
section
variable {X:Cx}{pins:List (Addr × Obj)}{σ:L2.St}{H:Hp}{s:Shared}{m:List Addr}{st:AH}
end
end FW
namespace FW
open L2 HX
theorem Ext.addD {K:W.Frag}{m m2:List Addr}{H H2:Hp}{D:Addr}(x:Ext K m H m2 H2)(h0:H D=none):Ext K m H (m2++[D]) H2:=by
 refine⟨x.pre.trans (QL _ _),fun a ha=>?_,x.fr,x.tup,x.rdf,x.tbs,x.tb,x.frz⟩
 rcases MW.mp ha with z|z
 ·exact x.new a z
 ·rw[MI] at z
  subst z
  exact .inr h0
section
variable {X:Cx}{c:Cfg}{Γ:Nat->FSp}
end
end FW
namespace FW
open L2 HX
section
variable {Γ:Nat->FSp}
theorem oa (G:bu Γ){elt:E}{tg:Tg}{ifs:Es}{ρ:Fr}{x:PV}{st:AH}{k k':Option PV->AH->Prop}(hk:∀o st,k o st->k' o st)(q:fq Γ elt tg ifs ρ x st k):fq Γ elt tg ifs ρ x st k' :=
 aY G tg (fun ρ' st3 w=>bX G ifs (fun c st4 w=>by
  cases c with
  | true=>rw[ML rfl] at w |-;exact aa G elt (fun v st5 w=>hk _ _ w) w
  | false=>rw[MJ MF] at w |-;exact hk _ _ w) w) q
theorem RH.addD {K:W.Frag}{m:List Addr}{H:Hp}{st:AH}{D:Addr}{vs:List PV}{ys:List V}(h:RH K m H st)(Dm:D ∉ m)(hD:H D=some (.lst ys))(r:Rs K m H vs ys):RH K (m++[D]) H (st++[.lst vs]):=by
 have hp:m <+: m++[D]:=QL _ _
 refine⟨by simp[h.len],OY.mpr ⟨h.nd,MP.mpr ⟨by simp,Q6⟩,fun a ha b hb z=>?_⟩,fun n c' a h1 h2=>?_,h.tb⟩
 ·rw[MI] at hb
  subst hb
  exact Dm (z ▸ ha)
 ·by_cases hn:n<st.length
  ·rw[M1 hn] at h1
   rw[M1 (by rw[h.len];exact hn)] at h2
   have hc:=h.at_ n c' a h1 h2
   cases c' with
   | lst xs=>obtain⟨us,g1,g2⟩:=hc;exact⟨us,g1,g2.pre hp⟩
   | dk kvs=>obtain⟨us,g1,g2,g3⟩:=hc;exact⟨us,g1,g2,g3.pre hp⟩
   | fz kvs=>obtain⟨o,us,g1,g2,g3⟩:=hc;exact⟨o,us,g1,g2,g3.pre hp⟩
  ·rw[M6 (by exact Nat.not_lt.mp ‹_›)] at h1
   rw[M6 (by rw[h.len];exact Nat.not_lt.mp ‹_›)] at h2
   have hl:=h.len
   by_cases hz:n-st.length=0
   ·rw[hz] at h1
    rw[show n-m.length=0 by omega] at h2
    simp at h1 h2
    subst h1 h2
    exact⟨ys,hD,r.pre hp⟩
   ·rw[OU (by simp;exact Nat.pos_of_ne_zero ‹_›)] at h1
    cases h1
theorem nQ {X:Cx}{c:Cfg}(C:COk X c Γ){nt:List Str}{caps:List Nat}{sc:Scope}(h:c.block nt caps sc=true) :
  CScope X sc/\(∀i∈caps,i<X.N.length)/\(∀x∈caps.filterMap (X.N[·]?),sc.names.lookup x=some .free)/\(∀x∈caps.filterMap (X.N[·]?),X.env.kindOf x=some .cell\/X.env.kindOf x=some .free)/\(nt++caps.filterMap (X.N[·]?)).Nodup:=by
 unfold Cfg.block at h
 simp only[Bool.and_eq_true,List.all_eq_true,beq_iff_eq,decide_eq_true_eq,Bool.or_eq_true,Bool.not_eq_true',beq_eq_false_iff_ne] at h
 obtain⟨⟨⟨⟨⟨⟨h1,h2⟩,h3⟩,h4⟩,h5⟩,h6⟩,h7⟩:=h
 rw[C.N]
 refine⟨⟨h1,fun y hy=>h2 y hy,fun y hy e=>?_,fun y hy e=>?_⟩,h5,fun x hx=>(h6 x hx).1,fun x hx=>C.cel x (xC (h6 x hx).2),h7⟩
 ·rcases h3 y hy with z|z
  ·exact absurd e z
  ·exact z
 ·rcases h4 y hy with z|z
  ·exact absurd e z
  ·exact C.cel _ (xC z)
theorem Cj {X:Cx}{c:Cfg}(C:COk X c Γ){nt:List Str}{caps:List Nat}{sc:Scope}(h:c.block nt caps sc=true){s2:Shared}{H2:Hp}{fp:List Addr}{A:Addr} :
  COk (cxC X (nt++caps.filterMap (X.N[·]?)) s2 H2 fp sc A) (c.inner nt caps sc) Γ:=by
 obtain⟨S,k1,k2,k3,k4⟩:=nQ C h
 have nocell:∀x,sc.names.lookup x≠some .cell:=fun x e=>S.nocell _ (N4 e) rfl
 refine⟨C.calm,PassesOwn.never,?_,?_,fun x hx=>?_,fun x hx=>?_,fun x hx=>lookup_relabel_local hx,fun x hx=>kF hx,?_,fun x hx=>?_,C.room,C.fn,C.blt,C.gl,C.mono,fun h=>Bool.noConfusion (show false=true from h),fun k h=>by cases h⟩
 ·show nt++caps.filterMap (X.N[·]?)=nt++caps.filterMap (c.N[·]?)
  rw[C.N]
 ·show (nt++caps.filterMap (c.N[·]?)).Nodup
  rw[<-C.N]
  exact k4
 ·rcases hx with hx|hx|hx
  ·exact .inl (lookup_relabel_local hx)
  ·exact absurd hx (nocell x)
  ·rcases dX (env:=X.env) hx with z|z
   ·exact .inr (.inl z)
   ·exact .inr (.inr z)
 ·rcases hx with hx|hx
  ·exact⟨.inl (lookup_relabel_local hx),.inr (lookup_relabel_local hx)⟩
  ·exact absurd hx (nocell x)
 ·show Env.blockKind (compEnvC sc (jS X.env sc.names []) A X.env)=_
  unfold Env.blockKind
  show (if sc.kind.isAnnotationScope=true then _ else sc.kind)=_
  rw[S.kind]
  rfl
 ·rcases hx with hx|hx
  ·exact absurd hx (nocell x)
  ·exact dX hx
mutual
theorem aX:∀(e:E) {X:Cx}{c:Cfg} (C:COk X c Γ) (x:Expr),aB c e x=true->PE X x (TEx X.K (wpE Γ e))
 | .var i,X,c,C,x,h=>by
  replace h:=aj h
  obtain⟨y,p,rfl,h⟩:=h
  ·exact B7 C h
 | .int i,X,c,C,x,h=>by
  replace h:=xZ h
  obtain⟨j,k,p,rfl,h⟩:=h
  ·rw[RC] at h;subst h
   rintro pins s σ H Q I ⟨m,ρ,st,rf,rh,w⟩
   skip
   exact Gc pins s σ H Q I (w.here rh (R_int.mpr rfl))
 | .bl i,X,c,C,x,h=>by
  replace h:=Cd h
  obtain⟨j,k,p,rfl,h⟩:=h
  ·rw[RC] at h;subst h
   rintro pins s σ H Q I ⟨m,ρ,st,rf,rh,w⟩
   skip
   exact Ho pins s σ H Q I (w.here rh (R_bl.mpr rfl))
 | .non,X,c,C,x,h=>by
  replace h:=yu h
  obtain⟨k,p,rfl⟩:=h
  ·rintro pins s σ H Q I ⟨m,ρ,st,rf,rh,w⟩
   skip
   exact E8 pins s σ H Q I (w.here rh (R_non.mpr rfl))
 | .str i,X,c,C,x,h=>by
  replace h:=yW h
  obtain⟨j,k,p,rfl,h⟩:=h
  ·rw[RC] at h;subst h
   rintro pins s σ H Q I ⟨m,ρ,st,rf,rh,w⟩
   skip
   exact Fu pins s σ H Q I (w.here rh (R_str.mpr rfl))
 | .gv y v,X,c,C,x,h=>by
  replace h:=aj h
  obtain⟨z,p,rfl,h⟩:=h
  ·simp only[Bool.and_eq_true,beq_iff_eq] at h
   obtain⟨⟨h1,h2⟩,h3⟩:=h
   subst h1
   obtain⟨g1,g2,_⟩:=C.glbx h2
   replace h3:=jN h3
   obtain⟨w,hw,h3⟩:=h3
   ·have:=PV.same_eq h3
    subst this
    obtain⟨u,z,e1,e2,e3⟩:=C.gl _ _ hw
    rintro pins s σ H Q I ⟨m,ρ,st,rf,rh,w⟩
    skip
    exact De g1 e1 e2 g2 pins s σ H Q I (w.here rh (e3 m H))
 | .tup es,X,c,C,x,h=>by
  replace h:=br h
  obtain⟨xs,k,p,rfl,h⟩:=h
  ·rintro pins s σ H Q I ⟨m,ρ,st,rf,rh,w⟩
   skip
   refine EZ (mR es C _ h) pins s σ H Q I ⟨m,ρ,st,rf,rh,aF C.mono es (fun vs st1 k m1 H1 xs1 e1 r1 r2=>⟨by rw[<-r2.len];exact eO k.1,fun p hp=>?_⟩) w⟩
   exact(k.2.ext e1).newT r1 r2 hp
 | .lst es,X,c,C,x,h=>by
  replace h:=vV h
  obtain⟨xs,p,rfl,h⟩:=h
  ·rintro pins s σ H Q I ⟨m,ρ,st,rf,rh,w⟩
   skip
   refine F0 (mR es C _ h) pins s σ H Q I ⟨m,ρ,st,rf,rh,aF C.mono es (fun vs st1 k m1 H1 xs1 e1 r1 r2=>⟨by rw[<-r2.len];exact eO k.1,fun p hp=>?_⟩) w⟩
   exact(k.2.ext e1).newL r1 r2 hp
 | .bad,X,c,C,x,h=>by rintro pins s σ H Q I ⟨m,ρ,st,rf,rh,w⟩;exact False.elim w
 | .dct0,X,c,C,x,h=>by rintro pins s σ H Q I ⟨m,ρ,st,rf,rh,w⟩;exact False.elim w
 | .dct1 _ _,X,c,C,x,h=>by rintro pins s σ H Q I ⟨m,ρ,st,rf,rh,w⟩;exact False.elim w
 | .bin op a b,X,c,C,x,h=>by
  replace h:=yN h
  obtain⟨l,o,r,p,rfl,h⟩:=h
  ·simp only[Bool.and_eq_true,beq_iff_eq] at h
   obtain⟨⟨h1,h2⟩,h3⟩:=h
   subst h1
   rintro pins s σ H Q I ⟨m,ρ,st,rf,rh,w⟩
   skip
   exact Hh (E1 _) (aX a C _ h2) (aX b C _ h3) pins s σ H Q I ⟨m,ρ,st,rf,rh,aa C.mono a (fun v st1 k m1 H1 x1 e1 r1 r2=>⟨m1,ρ,st1,rf.mono e1,r1,
    aa C.mono b (fun u st2 k2 m2 H2 y2 e2 r3 r4=>⟨m2,st2,v,u,r3,r2.mono e2,r4,qF (fun _ _ q=>q.ext (e1.trans e2)) k2⟩) k⟩) w⟩
 | .neg a,X,c,C,x,h=>by
  replace h:=yn h
  obtain⟨y,p,rfl,h⟩:=h
  ·rintro pins s σ H Q I ⟨m,ρ,st,rf,rh,w⟩
   skip
   refine Ih EJ (aX a C _ h) pins s σ H Q I ⟨m,ρ,st,rf,rh,aa C.mono a (fun v st1 k m1 H1 x1 e1 r1 r2=>?_) w⟩
   obtain⟨i,rfl,k⟩:=k
   rw[R_int] at r2
   subst r2
   exact⟨i,rfl,(k.ext e1).here r1 (R_int.mpr rfl)⟩
 | .not a,X,c,C,x,h=>by
  replace h:=qv h
  obtain⟨y,p,rfl,h⟩:=h
  ·rintro pins s σ H Q I ⟨m,ρ,st,rf,rh,w⟩
   skip
   refine F4 (aX a C _ h) pins s σ H Q I ⟨m,ρ,st,rf,rh,aa C.mono a (fun v st1 k m1 H1 x1 e1 r1 r2=>?_) w⟩
   obtain⟨i,rfl,k⟩:=k
   rw[R_bl] at r2
   subst r2
   exact⟨i,rfl,(k.ext e1).here r1 (R_bl.mpr rfl)⟩
 | .cmp op a b,X,c,C,x,h=>by
  replace h:=qX h
  obtain⟨l,o,r,p,rfl,h⟩:=h
  ·simp only[Bool.and_eq_true,beq_iff_eq,Bool.not_eq_true',beq_eq_false_iff_ne] at h
   obtain⟨⟨⟨h1,n1⟩,h2⟩,h3⟩:=h
   subst h1
   rintro pins s σ H Q I ⟨m,ρ,st,rf,rh,w⟩
   skip
   exact CQ (zU C.room.units _) (aX a C _ h2) (aX b C _ h3) n1 pins s σ H Q I ⟨m,ρ,st,rf,rh,aa C.mono a (fun v st1 k m1 H1 x1 e1 r1 r2=>⟨m1,ρ,st1,rf.mono e1,r1,
    aa C.mono b (fun u st2 k2 m2 H2 y2 e2 r3 r4=>⟨m2,st2,v,u,r3,r2.mono e2,r4,iR (fun _ _ q=>q.ext (e1.trans e2)) k2⟩) k⟩) w⟩
 | .bop true es,X,c,C,x,h=>by
  replace h:=jg h
  obtain⟨o,xs,p,rfl,h⟩:=h
  ·simp only[Bool.and_eq_true,beq_iff_eq,Bool.not_eq_true'] at h
   obtain⟨⟨h1,h2⟩,h3⟩:=h
   subst h1
   rintro pins s σ H Q I ⟨m,ρ,st,rf,rh,w⟩
   skip
   exact Ep es C _ _ h2 h3 pins s σ H Q I ⟨m,ρ,st,rf,rh,w⟩
 | .bop false es,X,c,C,x,h=>by
  replace h:=jg h
  obtain⟨o,xs,p,rfl,h⟩:=h
  ·simp only[Bool.and_eq_true,beq_iff_eq,Bool.not_eq_true'] at h
   obtain⟨⟨h1,h2⟩,h3⟩:=h
   subst h1
   rintro pins s σ H Q I ⟨m,ρ,st,rf,rh,w⟩
   skip
   exact Ee es C _ _ h2 h3 pins s σ H Q I ⟨m,ρ,st,rf,rh,w⟩
 | .ite t a b,X,c,C,x,h=>by
  replace h:=zH h
  obtain⟨y,l,r,p,rfl,h⟩:=h
  ·simp only[Bool.and_eq_true] at h
   obtain⟨⟨h1,h2⟩,h3⟩:=h
   rintro pins s σ H Q I ⟨m,ρ,st,rf,rh,w⟩
   skip
   refine Ck (pK t C _ h1) (aX a C _ h2) (aX b C _ h3) pins s σ H Q I ⟨m,ρ,st,rf,rh,aJ C.mono t (fun k st1 z m1 H1 e1 r1=>?_) w⟩
   cases k with
   | true=>rw[ML rfl] at z |-;exact⟨m1,ρ,st1,rf.mono e1,r1,aa C.mono a (fun _ _ q=>q.ext e1) z⟩
   | false=>rw[MJ MF] at z |-;exact⟨m1,ρ,st1,rf.mono e1,r1,aa C.mono b (fun _ _ q=>q.ext e1) z⟩
 | .ix a b,X,c,C,x,h=>by
  replace h:=gi h
  obtain⟨l,r,p,rfl,h⟩:=h
  ·simp only[Bool.and_eq_true] at h
   obtain⟨⟨h1,h2⟩,h3⟩:=h
   rintro pins s σ H Q I ⟨m,ρ,st,rf,rh,w⟩
   skip
   exact Ab (Ei C.room.units) (aX a C _ h2) (aX b C _ h3) h1 pins s σ H Q I ⟨m,ρ,st,rf,rh,aa C.mono a (fun v st1 k m1 H1 x1 e1 r1 r2=>⟨m1,ρ,st1,rf.mono e1,r1,
    aa C.mono b (fun u st2 k2 m2 H2 y2 e2 r3 r4=>⟨m2,st2,v,u,r3,r2.mono e2,r4,kA (fun _ _ q=>q.ext (e1.trans e2)) k2⟩) k⟩) w⟩
 | .sl a lo hi,X,c,C,x,h=>by
  replace h:=gi h
  obtain⟨l,r,p,rfl,h⟩:=h
  replace h:=tq h
  obtain⟨u,v,p2,rfl,h⟩:=h
  ·simp only[Bool.and_eq_true] at h
   obtain⟨⟨h1,h2⟩,h3⟩:=h
   rintro pins s σ H Q I ⟨m,ρ,st,rf,rh,w⟩
   skip
   exact B6 Hg (aX a C _ h1) (HH lo C _ h2) (HH hi C _ h3) pins s σ H Q I ⟨m,ρ,st,rf,rh,aa C.mono a (fun v st1 k m1 H1 x1 e1 r1 r2=>⟨m1,ρ,st1,rf.mono e1,r1,
    kq C.mono lo (fun l st2 k2 m2 H2 e2 r3=>⟨m2,ρ,st2,(rf.mono e1).mono e2,r3,kq C.mono hi (fun u st3 k3 m3 H3 e3 r4=>⟨m3,st3,v,r4,(r2.mono e2).mono e3,vb (fun _ _ q=>q.ext ((e1.trans e2).trans e3)) k3⟩) k2⟩) k⟩) w⟩
 | .call f es,X,c,C,x,h=>by
  replace h:=aM h
  obtain⟨g,xs,p,rfl,h⟩:=h
  replace h:=aj h
  obtain⟨y,p2,rfl,h⟩:=h
  ·simp only[Bool.and_eq_true] at h
   obtain⟨⟨h1,h2⟩,h3⟩:=h
   rintro pins s σ H Q I ⟨m,ρ,st,rf,rh,w⟩
   skip
   exact uJ C h1 h2 h3 (mR es C _ h3) pins s σ H Q I ⟨m,ρ,st,rf,rh,w⟩
 | .blt b es,X,c,C,x,h=>by
  replace h:=aM h
  obtain⟨g,xs,p,rfl,h⟩:=h
  replace h:=aj h
  obtain⟨y,p2,rfl,h⟩:=h
  ·simp only[Bool.and_eq_true,beq_iff_eq,Bool.not_eq_true'] at h
   obtain⟨⟨⟨⟨h1,h2⟩,h3⟩,h4⟩,h5⟩:=h
   rintro pins s σ H Q I ⟨m,ρ,st,rf,rh,w⟩
   skip
   exact u8 C h1 h2 h3 h4 (mR es C _ h5) pins s σ H Q I ⟨m,ρ,st,rf,rh,w⟩
 | .inst a t,X,c,C,x,h=>by
  replace h:=aM h
  obtain⟨g,xs,p,rfl,h⟩:=h
  replace h:=aj h
  obtain⟨y,p2,rfl,h⟩:=h
  replace h:=iY h
  obtain⟨l,r,rfl,h⟩:=h
  replace h:=aj h
  obtain⟨z,p3,rfl,h⟩:=h
  ·rw[M3] at h
   exact xS C h.1 (aX a C _ h.2)
 | .met mm o es,X,c,C,x,h=>by
  replace h:=aM h
  obtain⟨g,xs,p,rfl,h⟩:=h
  replace h:=v_ h
  obtain⟨y,n,p2,rfl,h⟩:=h
  ·simp only[Bool.and_eq_true,beq_iff_eq,decide_eq_true_eq] at h
   obtain⟨⟨⟨⟨⟨⟨h1,h2⟩,h3⟩,h4⟩,h0⟩,h5⟩,h6⟩:=h
   exact BD C h1 (by rw[h2];simp) h3 h4 h0 (aX o C _ h5) (mR es C _ h6) h6
 | .comp elt tg it ifs nt caps,X,c,C,x,h=>by
  replace h:=kE h
  obtain⟨ex,gs,sc,pos,rfl,h⟩:=h
  replace h:=dY h
  obtain⟨g,rfl,h⟩:=h
  obtain⟨tx,ix,fx,ia⟩:=g
  dsimp only at h
  ·simp only[Bool.and_eq_true,beq_iff_eq] at h
   obtain⟨⟨⟨⟨⟨⟨⟨⟨h1,h0⟩,h2⟩,h3⟩,h4⟩,h5⟩,h6⟩,h7⟩,h8⟩:=h
   subst h1
   obtain⟨S,k1,k2,k3,k4⟩:=nQ C h4
   have hC:∀s2 H2 fp A,COk (cxC X (nt++caps.filterMap (X.N[·]?)) s2 H2 fp sc A) (c.inner nt caps sc) Γ:=fun s2 H2 fp A=>Cj C h4
   rintro pins s σ H Q I ⟨m,ρ,st,rf,rh,w⟩
   skip
   rw[eval_ListComp]
   refine rp (elt:=elt) (tg:=tg) (ifs:=ifs) (nt:=nt) (caps:=caps) (use:=none) (Fin:=fun D H'=>Q (.ref D) H') (wi:=TIx X.K (jJ Γ it)) C.mono C.calm S rfl k1 k2 k3 h2 h3 (A0 it C ix h0 h5) (fun s2 H2 fp A=>qC tg (hC s2 H2 fp A) _ h6) (fun s2 H2 fp A=>wO ifs (hC s2 H2 fp A) _ h7) (fun s2 H2 fp A=>aX elt (hC s2 H2 fp A) _ h8) I ?_ ?_
   ·refine⟨m,ρ,st,rf,rh,gc C.mono it (fun xs chk st1 z m1 H1 J e1 r1 W=>⟨m1,ρ,st1,xs,chk,rf.mono e1,r1,W,z.1,?_⟩) w⟩
    refine gX (body:=fq Γ elt tg ifs (nt.map (fun _=>none)++caps.map fun i=>(ρ[i]?).join)) (fun _ _ _ _ hk q=>oa C.mono hk q) (fun vs st2 k m2 H2 D ys e2 r2 Dm hD0 hD ry=>?_) z.2
    have hD1:H D=none:=by
     cases q:H D with
     | none=>rfl
     | some o =>
      by_cases hm:D∈m
      ·exact absurd ((e1.trans e2).pre.subset hm) Dm
      ·exact absurd hD0 (e1.ne hm q)
    exact k _ _ _ ((e1.trans e2).addD hD1) (r2.addD Dm hD ry) (R.last r2.len)
   ·intro C' D H' s' m' I' ns fp F
    refine⟨m',ns,fun h' hs'=>?_⟩
    exact⟨.ref D,H',I'.turned (t':=s'.toks) (fun b o hb e=>hs'.extBut b o hb e) fp.1 fp.2.1 fp.2.2.2.1 fp.2.2.2.2.1 fp.2.2.2.2.2,rfl,F⟩
 | .compK _ _ _ _ _ _ _,X,c,C,x,h=>by rintro pins s σ H Q I ⟨m,ρ,st,rf,rh,w⟩;exact False.elim w
 | .compD _ _ _ _ _ _ _ _,X,c,C,x,h=>by rintro pins s σ H Q I ⟨m,ρ,st,rf,rh,w⟩;exact False.elim w
 | .dct2 _ _,X,c,C,x,h=>by rintro pins s σ H Q I ⟨m,ρ,st,rf,rh,w⟩;exact False.elim w
 | .dcl _,X,c,C,x,h=>by rintro pins s σ H Q I ⟨m,ρ,st,rf,rh,w⟩;exact False.elim w
 | .eqd _ _ _,X,c,C,x,h=>by rintro pins s σ H Q I ⟨m,ρ,st,rf,rh,w⟩;exact False.elim w
 | .tmp a,X,c,C,x,h=>by
  have h:aB c a x=true:=h
  rintro pins s σ H Q I ⟨m,ρ,st,rf,rh,w⟩
  skip
  refine aX a C x h pins s σ H Q I ⟨m,ρ,st,rf,rh,aa C.mono a (fun v st1 k m1 H1 x1 e1 r1 r2=>?_) w⟩
  obtain⟨st2,q,e2,r3,r4⟩:=rV rh e1 r1 r2 k
  exact q m H1 x1 e2 r3 r4
 | .dget _ _,X,c,C,x,h=>by rintro pins s σ H Q I ⟨m,ρ,st,rf,rh,w⟩;exact False.elim w
 | .dcp _,X,c,C,x,h=>by rintro pins s σ H Q I ⟨m,ρ,st,rf,rh,w⟩;exact False.elim w
 | .clr _,X,c,C,x,h=>by rintro pins s σ H Q I ⟨m,ρ,st,rf,rh,w⟩;exact False.elim w
 | .sset a,X,c,C,x,h=>by
  replace h:=aM h
  obtain⟨g,xs,p,rfl,h⟩:=h
  replace h:=aj h
  obtain⟨y,p2,rfl,h⟩:=h
  replace h:=dY h
  obtain⟨l,rfl,h⟩:=h
  replace h:=aM h
  obtain⟨g2,ys,p3,rfl,h⟩:=h
  replace h:=aj h
  obtain⟨z,p4,rfl,h⟩:=h
  replace h:=dY h
  obtain⟨u,rfl,h⟩:=h
  simp only[Bool.and_eq_true,beq_iff_eq] at h
  obtain⟨⟨⟨⟨⟨⟨h1,h2⟩,h3⟩,h4⟩,h5⟩,h6⟩,h7⟩:=h
  exact Ds C h1 h2 h3 h4 h5 h6 (aX a C _ h7)
 | .jrev _,X,c,C,x,h=>by rintro pins s σ H Q I ⟨m,ρ,st,rf,rh,w⟩;exact False.elim w
 | .pcall _ _,X,c,C,x,h=>by rintro pins s σ H Q I ⟨m,ρ,st,rf,rh,w⟩;exact False.elim w
 | .hm _ _ _,X,c,C,x,h=>by rintro pins s σ H Q I ⟨m,ρ,st,rf,rh,w⟩;exact False.elim w
 | .part _ _,X,c,C,x,h=>by rintro pins s σ H Q I ⟨m,ρ,st,rf,rh,w⟩;exact False.elim w
theorem mR:∀(es:Es) {X:Cx}{c:Cfg} (C:COk X c Γ) (xs:List Expr),fb c es xs=true->PA X xs (TAx X.K (cF Γ es))
 | .nil,X,c,C,xs,h=>by
  have h:xs.isEmpty=true:=h
  cases xs with
  | nil =>
   rintro pos pins s σ H Q I ⟨m,ρ,st,rf,rh,w⟩
   skip
   exact gW pos pins s σ H Q I (w m H [] (Ext.refl _ _ _) rh (Rs_nil.mpr rfl))
  | cons x xs=>cases h
 | .cons e es,X,c,C,xs,h=>by
  replace h:=aI h
  obtain⟨y,ys,rfl,h⟩:=h
  ·simp only[Bool.and_eq_true] at h
   obtain⟨⟨h1,h2⟩,h3⟩:=h
   rintro pos pins s σ H Q I ⟨m,ρ,st,rf,rh,w⟩
   skip
   exact pac (aX e C _ h2) (mR es C _ h3) h1 pos pins s σ H Q I ⟨m,ρ,st,rf,rh,aa C.mono e (fun v st1 k m1 H1 x1 e1 r1 r2=>⟨m1,ρ,st1,rf.mono e1,r1,
    aF C.mono es (fun us st2 k2 m2 H2 ys e2 r3 r4=>k2 m2 H2 _ (e1.trans e2) r3 (Rs_cons'.mpr ⟨r2.mono e2,r4⟩)) k⟩) w⟩
theorem HH:∀(o:O) {X:Cx}{c:Cfg} (C:COk X c Γ) (x:Option Expr),GA c o x=true->PO X x (fun σ H Q=>∃m ρ st,RF X.K m H ρ σ/\RH X.K m H st/\wpO Γ o ρ st fun v st'=>∀m' H',Ext X.K m H m' H'->RH X.K m' H' st'->Q v H')
 | .no,X,c,C,x,h=>by
  have h:x.isNone=true:=h
  cases x with
  | none =>
   rintro pins s σ H Q I ⟨m,ρ,st,rf,rh,w⟩
   skip
   exact Dq pins s σ H Q I (w m H (Ext.refl _ _ _) rh)
  | some y=>cases h
 | .yes e,X,c,C,x,h=>by
  replace h:=jN h
  obtain⟨y,rfl,h⟩:=h
  ·rintro pins s σ H Q I ⟨m,ρ,st,rf,rh,w⟩
   skip
   refine C9 (aX e C _ h) pins s σ H Q I ⟨m,ρ,st,rf,rh,aa C.mono e (fun v st1 k m1 H1 x1 e1 r1 r2=>?_) w⟩
   obtain⟨i,rfl,k⟩:=k
   rw[R_int] at r2
   exact⟨i,r2,k m1 H1 e1 r1⟩
theorem pK:∀(e:E) {X:Cx}{c:Cfg} (C:COk X c Γ) (x:Expr),zL c e x=true->PT X x (TTx X.K (wpT Γ e))
 | .not a,X,c,C,x,h=>by
  replace h:=qv h
  obtain⟨y,p,rfl,h⟩:=h
  ·rintro pins s σ H Q I ⟨m,ρ,st,rf,rh,w⟩
   skip
   exact ER (pK a C _ h) pins s σ H Q I ⟨m,ρ,st,rf,rh,aJ C.mono a (fun k st1 z m1 H1 e1 r1=>z m1 H1 e1 r1) w⟩
 | .bop true es,X,c,C,x,h=>by
  replace h:=jg h
  obtain⟨o,xs,p,rfl,h⟩:=h
  ·simp only[Bool.and_eq_true,beq_iff_eq,Bool.not_eq_true'] at h
   obtain⟨⟨h1,h2⟩,h3⟩:=h
   subst h1
   rintro pins s σ H Q I ⟨m,ρ,st,rf,rh,w⟩
   skip
   exact(Eg es C _ _ h3 h2).pt pins s σ H Q I ⟨m,ρ,st,rf,rh,w⟩
 | .bop false es,X,c,C,x,h=>by
  replace h:=jg h
  obtain⟨o,xs,p,rfl,h⟩:=h
  ·simp only[Bool.and_eq_true,beq_iff_eq,Bool.not_eq_true'] at h
   obtain⟨⟨h1,h2⟩,h3⟩:=h
   subst h1
   rintro pins s σ H Q I ⟨m,ρ,st,rf,rh,w⟩
   skip
   exact(Ec es C _ _ h3 h2).pt pins s σ H Q I ⟨m,ρ,st,rf,rh,w⟩
 | .cmp op a b,X,c,C,x,h=>by
  replace h:=qX h
  obtain⟨l,o,r,p,rfl,h⟩:=h
  ·simp only[Bool.and_eq_true,beq_iff_eq,Bool.not_eq_true',beq_eq_false_iff_ne] at h
   obtain⟨⟨⟨h1,n1⟩,h2⟩,h3⟩:=h
   subst h1
   rintro pins s σ H Q I ⟨m,ρ,st,rf,rh,w⟩
   skip
   refine Dl (zU C.room.units _) (aX a C _ h2) (aX b C _ h3) n1 pins s σ H Q I ⟨m,ρ,st,rf,rh,aa C.mono a (fun v st1 k m1 H1 x1 e1 r1 r2=>⟨m1,ρ,st1,rf.mono e1,r1,
    aa C.mono b (fun u st2 k2 m2 H2 y2 e2 r3 r4=>⟨m2,st2,v,u,r3,r2.mono e2,r4,iR (fun _ _ q=>?_) k2⟩) k⟩) w⟩
   obtain⟨k,rfl,q⟩:=q
   intro m' H' y e3 r5 r6
   rw[R_bl] at r6
   exact⟨k,r6,q m' H' ((e1.trans e2).trans e3) r5⟩
 | .var i,X,c,C,x,h=>by
  replace h:=aj h
  obtain⟨y,p,rfl,h⟩:=h
  ·rintro pins s σ H Q I ⟨m,ρ,st,rf,rh,w⟩
   skip
   refine gf (B7 C h) (fun _=>rfl) pins s σ H Q I ⟨m,ρ,st,rf,rh,?_⟩
   obtain⟨v,e,w⟩:=kg w
   exact rE e fun m' H' y e1 r1 r2=>vi ⟨m',st,v,r1,r2,bJ (fun _ _ q=>q.ext e1) w⟩
 | .call f es,X,c,C,x,h=>by
  replace h:=aM h
  obtain⟨g,xs,p,rfl,h⟩:=h
  replace h:=aj h
  obtain⟨y,p2,rfl,h⟩:=h
  ·simp only[Bool.and_eq_true] at h
   obtain⟨⟨h1,h2⟩,h3⟩:=h
   rintro pins s σ H Q I ⟨m,ρ,st,rf,rh,w⟩
   skip
   exact gf (uJ C h1 h2 h3 (mR es C _ h3)) (fun _=>rfl) pins s σ H Q I ⟨m,ρ,st,rf,rh,aF C.mono es (fun vs st1 k=>C.mono _ _ _ _ _ (fun v st2 k2 m' H' y e1 r1 r2=>vi ⟨m',st2,v,r1,r2,bJ (fun _ _ q=>q.ext e1) k2⟩) k) w⟩
 | .blt b es,X,c,C,x,h=>by
  replace h:=aM h
  obtain⟨g,xs,p,rfl,h⟩:=h
  replace h:=aj h
  obtain⟨y,p2,rfl,h⟩:=h
  ·simp only[Bool.and_eq_true,beq_iff_eq,Bool.not_eq_true'] at h
   obtain⟨⟨⟨⟨h1,h2⟩,h3⟩,h4⟩,h5⟩:=h
   rintro pins s σ H Q I ⟨m,ρ,st,rf,rh,w⟩
   skip
   exact gf (u8 C h1 h2 h3 h4 (mR es C _ h5)) (fun _=>rfl) pins s σ H Q I ⟨m,ρ,st,rf,rh,aF C.mono es (fun vs st1 k=>iW (fun v st2 k2 m' H' y e1 r1 r2=>vi ⟨m',st2,v,r1,r2,bJ (fun _ _ q=>q.ext e1) k2⟩) k) w⟩
 | .inst a t,X,c,C,x,h=>by
  replace h:=aM h
  obtain⟨g,xs,p,rfl,h⟩:=h
  replace h:=aj h
  obtain⟨y,p2,rfl,h⟩:=h
  replace h:=iY h
  obtain⟨l,r,rfl,h⟩:=h
  replace h:=aj h
  obtain⟨z,p3,rfl,h⟩:=h
  ·rw[M3] at h
   rintro pins s σ H Q I ⟨m,ρ,st,rf,rh,w⟩
   skip
   refine gf (xS C h.1 (aX a C _ h.2)) (fun _=>rfl) pins s σ H Q I ⟨m,ρ,st,rf,rh,?_⟩
   skip
   refine aa C.mono a (fun v st1 k=>?_) w
   obtain⟨n,e,k⟩:=k
   refine⟨n,e,fun m' H' y e1 r1 r2=>?_⟩
   rw[R_bl] at r2
   subst r2
   exact⟨_,rfl,k m' H' e1 r1⟩
 | .tmp a,X,c,C,x,h=>by
  have h:(wo x && aB c a x)=true:=h
  rw[M3] at h
  rintro pins s σ H Q I ⟨m,ρ,st,rf,rh,w⟩
  skip
  have q:=aX a C x h.2
  refine gf q (wx h.1 X.env) pins s σ H Q I ⟨m,ρ,st,rf,rh,aa C.mono a (fun v st1 k m1 H1 x1 e1 r1 r2=>?_) w⟩
  obtain⟨st2,q,e2,r3,r4⟩:=rV rh e1 r1 r2 k
  exact vi ⟨m,st2,v,r3,r4,bJ (fun _ _ q=>q.ext e2) q⟩
 | .ix a b,X,c,C,x,h=>by
  replace h:=gi h
  obtain⟨l,r,p,rfl,h⟩:=h
  ·simp only[Bool.and_eq_true] at h
   obtain⟨⟨h1,h2⟩,h3⟩:=h
   rintro pins s σ H Q I ⟨m,ρ,st,rf,rh,w⟩
   skip
   refine gf (Ab (Ei C.room.units) (aX a C _ h2) (aX b C _ h3) h1) (fun _=>rfl) pins s σ H Q I ⟨m,ρ,st,rf,rh,aa C.mono a (fun v st1 k m1 H1 x1 e1 r1 r2=>⟨m1,ρ,st1,rf.mono e1,r1,
    aa C.mono b (fun u st2 k2 m2 H2 y2 e2 r3 r4=>⟨m2,st2,v,u,r3,r2.mono e2,r4,kA (fun z st3 q m3 H3 y3 e3 r5 r6=>?_) k2⟩) k⟩) w⟩
   exact vi ⟨m3,st3,z,r5,r6,bJ (fun _ _ q=>q.ext ((e1.trans e2).trans e3)) q⟩
 | .bl _,X,c,C,x,h=>by rintro pins s σ H Q I ⟨m,ρ,st,rf,rh,w⟩;exact False.elim w
 | .int _,X,c,C,x,h=>by rintro pins s σ H Q I ⟨m,ρ,st,rf,rh,w⟩;exact False.elim w
 | .non,X,c,C,x,h=>by rintro pins s σ H Q I ⟨m,ρ,st,rf,rh,w⟩;exact False.elim w
 | .str _,X,c,C,x,h=>by rintro pins s σ H Q I ⟨m,ρ,st,rf,rh,w⟩;exact False.elim w
 | .gv _ _,X,c,C,x,h=>by rintro pins s σ H Q I ⟨m,ρ,st,rf,rh,w⟩;exact False.elim w
 | .tup _,X,c,C,x,h=>by rintro pins s σ H Q I ⟨m,ρ,st,rf,rh,w⟩;exact False.elim w
 | .lst _,X,c,C,x,h=>by rintro pins s σ H Q I ⟨m,ρ,st,rf,rh,w⟩;exact False.elim w
 | .dct0,X,c,C,x,h=>by rintro pins s σ H Q I ⟨m,ρ,st,rf,rh,w⟩;exact False.elim w
 | .bad,X,c,C,x,h=>by rintro pins s σ H Q I ⟨m,ρ,st,rf,rh,w⟩;exact False.elim w
 | .dct1 _ _,X,c,C,x,h=>by rintro pins s σ H Q I ⟨m,ρ,st,rf,rh,w⟩;exact False.elim w
 | .bin _ _ _,X,c,C,x,h=>by rintro pins s σ H Q I ⟨m,ρ,st,rf,rh,w⟩;exact False.elim w
 | .neg _,X,c,C,x,h=>by rintro pins s σ H Q I ⟨m,ρ,st,rf,rh,w⟩;exact False.elim w
 | .ite _ _ _,X,c,C,x,h=>by rintro pins s σ H Q I ⟨m,ρ,st,rf,rh,w⟩;exact False.elim w
 | .sl _ _ _,X,c,C,x,h=>by rintro pins s σ H Q I ⟨m,ρ,st,rf,rh,w⟩;exact False.elim w
 | .met _ _ _,X,c,C,x,h=>by rintro pins s σ H Q I ⟨m,ρ,st,rf,rh,w⟩;exact False.elim w
 | .eqd _ _ _,X,c,C,x,h=>by rintro pins s σ H Q I ⟨m,ρ,st,rf,rh,w⟩;exact False.elim w
 | .compK _ _ _ _ _ _ _,X,c,C,x,h=>by rintro pins s σ H Q I ⟨m,ρ,st,rf,rh,w⟩;exact False.elim w
 | .compD _ _ _ _ _ _ _ _,X,c,C,x,h=>by rintro pins s σ H Q I ⟨m,ρ,st,rf,rh,w⟩;exact False.elim w
 | .dct2 _ _,X,c,C,x,h=>by rintro pins s σ H Q I ⟨m,ρ,st,rf,rh,w⟩;exact False.elim w
 | .dcl _,X,c,C,x,h=>by rintro pins s σ H Q I ⟨m,ρ,st,rf,rh,w⟩;exact False.elim w
 | .comp _ _ _ _ _ _,X,c,C,x,h=>by rintro pins s σ H Q I ⟨m,ρ,st,rf,rh,w⟩;exact False.elim w
 | .pcall _ _,X,c,C,x,h=>by rintro pins s σ H Q I ⟨m,ρ,st,rf,rh,w⟩;exact False.elim w
 | .hm _ _ _,X,c,C,x,h=>by rintro pins s σ H Q I ⟨m,ρ,st,rf,rh,w⟩;exact False.elim w
 | .jrev _,X,c,C,x,h=>by rintro pins s σ H Q I ⟨m,ρ,st,rf,rh,w⟩;exact False.elim w
 | .dget _ _,X,c,C,x,h=>by rintro pins s σ H Q I ⟨m,ρ,st,rf,rh,w⟩;exact False.elim w
 | .dcp _,X,c,C,x,h=>by rintro pins s σ H Q I ⟨m,ρ,st,rf,rh,w⟩;exact False.elim w
 | .clr _,X,c,C,x,h=>by rintro pins s σ H Q I ⟨m,ρ,st,rf,rh,w⟩;exact False.elim w
 | .sset _,X,c,C,x,h=>by rintro pins s σ H Q I ⟨m,ρ,st,rf,rh,w⟩;exact False.elim w
 | .part _ _,X,c,C,x,h=>by rintro pins s σ H Q I ⟨m,ρ,st,rf,rh,w⟩;exact False.elim w
theorem Ep:∀(es:Es) {X:Cx}{c:Cfg} (C:COk X c Γ) (xs:List Expr) (pos:Pos),fb c es xs=true->xs.isEmpty=false->PE X (.BoolOp .And xs pos) (TEx X.K (sy Γ es))
 | .nil,X,c,C,xs,pos,h,hn=>by
  have h:xs.isEmpty=true:=h
  rw[h] at hn
  cases hn
 | .cons e .nil,X,c,C,xs,pos,h,hn=>by
  replace h:=aI h
  obtain⟨y,ys,rfl,h⟩:=h
  ·simp only[Bool.and_eq_true] at h
   obtain⟨⟨h1,h2⟩,h3⟩:=h
   have h3:ys.isEmpty=true:=h3
   cases ys with
   | nil =>
    rintro pins s σ H Q I ⟨m,ρ,st,rf,rh,w⟩
    skip
    exact B4 (aX e C _ h2) pins s σ H Q I ⟨m,ρ,st,rf,rh,w⟩
   | cons _ _=>cases h3
 | .cons e (.cons e2 es),X,c,C,xs,pos,h,hn=>by
  replace h:=aI h
  obtain⟨y,ys,rfl,h⟩:=h
  ·simp only[Bool.and_eq_true] at h
   obtain⟨⟨h1,h2⟩,h3⟩:=h
   cases ys with
   | nil=>exact Bool.noConfusion (show false=true from h3)
   | cons y2 ys =>
    rintro pins s σ H Q I ⟨m,ρ,st,rf,rh,w⟩
    skip
    refine F8 (aX e C _ h2) (Ep (.cons e2 es) C (y2::ys) pos h3 rfl) pins s σ H Q I ⟨m,ρ,st,rf,rh,aa C.mono e (fun v st1 k m1 H1 x1 e1 r1 r2=>?_) w⟩
    obtain⟨b,rfl,k⟩:=k
    rw[R_bl] at r2
    subst r2
    refine⟨b,rfl,?_⟩
    cases b with
    | true=>rw[ML rfl] at k |-;exact⟨m1,ρ,st1,rf.mono e1,r1,my C.mono _ (fun _ _ q=>q.ext e1) k⟩
    | false=>rw[MJ MF] at k |-;exact(k.ext e1).here r1 (R_bl.mpr rfl)
theorem Ee:∀(es:Es) {X:Cx}{c:Cfg} (C:COk X c Γ) (xs:List Expr) (pos:Pos),fb c es xs=true->xs.isEmpty=false->PE X (.BoolOp .Or xs pos) (TEx X.K (rK Γ es))
 | .nil,X,c,C,xs,pos,h,hn=>by
  have h:xs.isEmpty=true:=h
  rw[h] at hn
  cases hn
 | .cons e .nil,X,c,C,xs,pos,h,hn=>by
  replace h:=aI h
  obtain⟨y,ys,rfl,h⟩:=h
  ·simp only[Bool.and_eq_true] at h
   obtain⟨⟨h1,h2⟩,h3⟩:=h
   have h3:ys.isEmpty=true:=h3
   cases ys with
   | nil =>
    rintro pins s σ H Q I ⟨m,ρ,st,rf,rh,w⟩
    skip
    exact B4 (aX e C _ h2) pins s σ H Q I ⟨m,ρ,st,rf,rh,w⟩
   | cons _ _=>cases h3
 | .cons e (.cons e2 es),X,c,C,xs,pos,h,hn=>by
  replace h:=aI h
  obtain⟨y,ys,rfl,h⟩:=h
  ·simp only[Bool.and_eq_true] at h
   obtain⟨⟨h1,h2⟩,h3⟩:=h
   cases ys with
   | nil=>exact Bool.noConfusion (show false=true from h3)
   | cons y2 ys =>
    rintro pins s σ H Q I ⟨m,ρ,st,rf,rh,w⟩
    skip
    refine HA (aX e C _ h2) (Ee (.cons e2 es) C (y2::ys) pos h3 rfl) pins s σ H Q I ⟨m,ρ,st,rf,rh,aa C.mono e (fun v st1 k m1 H1 x1 e1 r1 r2=>?_) w⟩
    obtain⟨b,rfl,k⟩:=k
    rw[R_bl] at r2
    subst r2
    refine⟨b,rfl,?_⟩
    cases b with
    | true=>rw[ML rfl] at k |-;exact(k.ext e1).here r1 (R_bl.mpr rfl)
    | false=>rw[MJ MF] at k |-;exact⟨m1,ρ,st1,rf.mono e1,r1,lG C.mono _ (fun _ _ q=>q.ext e1) k⟩
theorem Eg:∀(es:Es) {X:Cx}{c:Cfg} (C:COk X c Γ) (xs:List Expr) (pos:Pos),mF c es xs=true->xs.isEmpty=false->PW X (.BoolOp .And xs pos) (TTx X.K (ib Γ es))
 | .nil,X,c,C,xs,pos,h,hn=>by
  have h:xs.isEmpty=true:=h
  rw[h] at hn
  cases hn
 | .cons e .nil,X,c,C,xs,pos,h,hn=>by
  replace h:=aI h
  obtain⟨y,ys,rfl,h⟩:=h
  ·simp only[Bool.and_eq_true] at h
   obtain⟨h2,h3⟩:=h
   have h3:ys.isEmpty=true:=h3
   cases ys with
   | nil =>
    rintro whole pins s σ H Q I ⟨m,ρ,st,rf,rh,w⟩
    skip
    exact Di (pK e C _ h2) whole pins s σ H Q I ⟨m,ρ,st,rf,rh,w⟩
   | cons _ _=>cases h3
 | .cons e (.cons e2 es),X,c,C,xs,pos,h,hn=>by
  replace h:=aI h
  obtain⟨y,ys,rfl,h⟩:=h
  ·simp only[Bool.and_eq_true] at h
   obtain⟨h2,h3⟩:=h
   cases ys with
   | nil=>exact Bool.noConfusion (show false=true from h3)
   | cons y2 ys =>
    rintro whole pins s σ H Q I ⟨m,ρ,st,rf,rh,w⟩
    skip
    refine Gg (pK e C _ h2) (Eg (.cons e2 es) C (y2::ys) pos h3 rfl) whole pins s σ H Q I ⟨m,ρ,st,rf,rh,aJ C.mono e (fun b st1 k m1 H1 e1 r1=>?_) w⟩
    cases b with
    | true=>rw[ML rfl] at k |-;exact⟨m1,ρ,st1,rf.mono e1,r1,bX C.mono _ (fun _ _ q=>q.ext e1) k⟩
    | false=>rw[MJ MF] at k |-;exact k m1 H1 e1 r1
theorem Ec:∀(es:Es) {X:Cx}{c:Cfg} (C:COk X c Γ) (xs:List Expr) (pos:Pos),mF c es xs=true->xs.isEmpty=false->PW X (.BoolOp .Or xs pos) (TTx X.K (sT Γ es))
 | .nil,X,c,C,xs,pos,h,hn=>by
  have h:xs.isEmpty=true:=h
  rw[h] at hn
  cases hn
 | .cons e .nil,X,c,C,xs,pos,h,hn=>by
  replace h:=aI h
  obtain⟨y,ys,rfl,h⟩:=h
  ·simp only[Bool.and_eq_true] at h
   obtain⟨h2,h3⟩:=h
   have h3:ys.isEmpty=true:=h3
   cases ys with
   | nil =>
    rintro whole pins s σ H Q I ⟨m,ρ,st,rf,rh,w⟩
    skip
    exact FC (pK e C _ h2) whole pins s σ H Q I ⟨m,ρ,st,rf,rh,w⟩
   | cons _ _=>cases h3
 | .cons e (.cons e2 es),X,c,C,xs,pos,h,hn=>by
  replace h:=aI h
  obtain⟨y,ys,rfl,h⟩:=h
  ·simp only[Bool.and_eq_true] at h
   obtain⟨h2,h3⟩:=h
   cases ys with
   | nil=>exact Bool.noConfusion (show false=true from h3)
   | cons y2 ys =>
    rintro whole pins s σ H Q I ⟨m,ρ,st,rf,rh,w⟩
    skip
    refine GS (pK e C _ h2) (Ec (.cons e2 es) C (y2::ys) pos h3 rfl) whole pins s σ H Q I ⟨m,ρ,st,rf,rh,aJ C.mono e (fun b st1 k m1 H1 e1 r1=>?_) w⟩
    cases b with
    | true=>rw[ML rfl] at k |-;exact k m1 H1 e1 r1
    | false=>rw[MJ MF] at k |-;exact⟨m1,ρ,st1,rf.mono e1,r1,lV C.mono _ (fun _ _ q=>q.ext e1) k⟩
theorem qC:∀(t:Tg) {X:Cx}{c:Cfg} (C:COk X c Γ) (x:Expr),jD c t x=true->PG X x (TGx X.K (dy Γ t))
 | .name i,X,c,C,x,h=>by
  replace h:=aj h
  obtain⟨y,p,rfl,h⟩:=h
  ·simp only[Bool.and_eq_true,beq_iff_eq] at h
   obtain⟨h1,h2⟩:=C.locx h.2
   rintro pins s σ H v u Q I r ⟨m,ρ,st,p,rf,rh,hr,w⟩
   skip
   exact DF C.ndX (by rw[C.N];exact h.1) h1 h2 pins s σ H v u Q I r (w.here rh (rf.set i hr))
 | .tup ts,X,c,C,x,h=>by
  replace h:=br h
  obtain⟨xs,k,p,rfl,h⟩:=h
  ·rintro pins s σ H v u Q I r ⟨m,ρ,st,p,rf,rh,hr,w⟩
   skip
   obtain⟨vs,rfl,hl,w⟩:=w
   rw[R_tup] at hr
   obtain⟨a,ys,rfl,g,r2⟩:=hr
   obtain⟨l1,l2⟩:=pi (env:=X.env) h
   refine E6 C.calm (BC ts C _ h) l1 l2 pins s σ H _ u Q I r ⟨a,ys,rfl,g,?_,m,ρ,st,vs,rf,rh,r2,w⟩
   rw[<-r2.len]
   exact hl
 | .ltup ts,X,c,C,x,h=>by rintro pins s σ H v u Q I r ⟨m,ρ,st,p,rf,rh,hr,w⟩;exact False.elim w
 | .sub o i,X,c,C,x,h=>by
  replace h:=gi h
  obtain⟨l,rr,pos,rfl,h⟩:=h
  ·simp only[Bool.and_eq_true] at h
   obtain⟨⟨h1,h2⟩,h3⟩:=h
   rintro pins s σ H v u Q I r ⟨m,ρ,st,p,rf,rh,hr,w⟩
   skip
   refine F_ (aX o C _ h2) (aX i C _ h3) (FG C.room.units) (by cases rr <;> first|(intro _;rfl)|cases h1) pins s σ H v u Q I r ⟨m,ρ,st,rf,rh,aa C.mono o (fun a st1 k m1 H1 x1 e1 r1 r2=>⟨m1,ρ,st1,rf.mono e1,r1,
    aa C.mono i (fun b st2 k2 m2 H2 y2 e2 r3 r4=>⟨m2,st2,a,b,p,r3,r2.mono e2,r4,(hr.mono e1).mono e2,q5 (fun st3 q H3 e3 r5=>?_) k2⟩) k⟩) w⟩
   exact q m2 H3 σ ((e1.trans e2).trans e3) r5 (((rf.mono e1).mono e2).mono e3)
theorem BC:∀(ts:Tgs) {X:Cx}{c:Cfg} (C:COk X c Γ) (xs:List Expr),oW c ts xs=true->PGs X xs (IU X.K (iH Γ ts))
 | .nil,X,c,C,xs,h=>by
  have h:xs.isEmpty=true:=h
  cases xs with
  | nil =>
   rintro pins s σ H v u Q I r ⟨m,ρ,st,p,rf,rh,hr,w⟩
   skip
   obtain⟨rfl,w⟩:=w
   rw[Rs_nil] at hr
   exact D_ pins s σ H v u Q I r ⟨hr,w.here rh rf⟩
  | cons _ _=>cases h
 | .cons t ts,X,c,C,xs,h=>by
  replace h:=aI h
  obtain⟨y,ys,rfl,h⟩:=h
  ·simp only[Bool.and_eq_true] at h
   obtain⟨⟨h1,h2⟩,h3⟩:=h
   rintro pins s σ H v u Q I r ⟨m,ρ,st,p,rf,rh,hr,w⟩
   skip
   obtain⟨x,q,rfl,w⟩:=w
   rw[aQ] at hr
   obtain⟨y,ys,rfl,g1,g2⟩:=hr
   refine A6 (qC t C _ h2) (BC ts C _ h3) (by rw[jA h1];rfl) pins s σ H _ u Q I r ⟨y,ys,rfl,m,ρ,st,x,rf,rh,g1,aY C.mono t (fun ρ1 st1 k m1 H1 σ1 e1 r1 r2=>?_) w⟩
   exact⟨m1,ρ1,st1,q,r2,r1,g2.mono e1,gP C.mono ts (fun _ _ q=>q.ext e1) k⟩
theorem A0:∀(it:It) {X:Cx}{c:Cfg} (C:COk X c Γ) {tg:Expr} (x:Expr),B' it tg=true->Af c it x=true->PI X tg x (TIx X.K (jJ Γ it))
 | .seq e,X,c,C,tg,x,_,h=>by
  have h:(iJ x && aB c e x)=true:=h
  rw[M3] at h
  rintro pins s σ H Rr I ⟨m,ρ,st,rf,rh,w⟩
  skip
  refine FA (aX e C x h.2) pins s σ H Rr I ⟨m,ρ,st,rf,rh,aa C.mono e (fun v st1 k m1 H1 x1 e1 r1 r2=>?_) w⟩
  obtain⟨xs,es,k⟩:=k
  cases v with
  | tup ys =>
   cases es
   rw[R_tup] at r2
   obtain⟨a,zs,rfl,g,r3⟩:=r2
   exact⟨a,rfl,.inr ⟨⟨zs,g⟩,k m1 H1 _ e1 r1 (Aa g r3)⟩⟩
  | rdl ys =>
   cases es
   rw[fj] at r2
   obtain⟨a,zs,rfl,g,r3⟩:=r2
   exact⟨a,rfl,.inl ⟨⟨zs,g.sq⟩,k m1 H1 _ e1 r1 (BR g r3)⟩⟩
  | ref n =>
   unfold aW bq at es
   simp only at es
   split at es
   ·cases es
    rename_i q
    obtain⟨a,zs,rfl,ea,g,r3⟩:=r1.lst q r2
    exact⟨a,rfl,.inl ⟨⟨zs,SqL.of g⟩,k m1 H1 _ e1 r1 (zm r1 q ea)⟩⟩
   ·cases es
  | _=>cases es
 | .range1 a,X,c,C,tg,x,_,h=>by
  replace h:=aM h
  obtain⟨g,xs,p,rfl,h⟩:=h
  replace h:=aj h
  obtain⟨y,p2,rfl,h⟩:=h
  replace h:=dY h
  obtain⟨l,rfl,h⟩:=h
  ·simp only[Bool.and_eq_true,beq_iff_eq] at h
   obtain⟨⟨⟨h1,h2⟩,h3⟩,h4⟩:=h
   subst h1
   obtain⟨g1,g2,g3,g4⟩:=C.bltx h2
   rintro pins s σ H Rr I ⟨m,ρ,st,rf,rh,w⟩
   skip
   have hA:PA X [_] (iu (TEx X.K (wpE Γ a)) uw):=pac (aX a C _ h4) gW h3
   refine zJ g1 g4 hA (a7 h3) pins s σ H Rr I ⟨m,ρ,st,rf,rh,aa C.mono a (fun v st1 k m1 H1 x1 e1 r1 r2=>?_) w⟩
   obtain⟨j,rfl,k1,k2,k⟩:=k
   rw[R_int] at r2
   subst r2
   exact⟨j,rfl,k1,k2,k m1 H1 _ e1 r1 wB⟩
 | .range2 _ _,X,c,C,tg,x,_,h=>by rintro pins s σ H Rr I ⟨m,ρ,st,rf,rh,w⟩;exact False.elim w
 | .zip a b,X,c,C,tg,x,ht,h=>by
  replace h:=aM h
  obtain⟨g,xs,p,rfl,h⟩:=h
  replace h:=aj h
  obtain⟨y,p2,rfl,h⟩:=h
  replace h:=iY h
  obtain⟨l,r,rfl,h⟩:=h
  ·simp only[Bool.and_eq_true,beq_iff_eq] at h
   obtain⟨⟨⟨⟨⟨h1,h2⟩,h3⟩,h3'⟩,h4⟩,h5⟩:=h
   subst h1
   obtain⟨g1,g2,g3,g4⟩:=C.bltx h2
   cases tg with
   | Tuple elts kt pt =>
    rintro pins s σ H Rr I ⟨m,ρ,st,rf,rh,w⟩
    skip
    have hA:PA X [_,_] (iu (TEx X.K (wpE Γ a)) (iu (TEx X.K (wpE Γ b)) uw)):=pac (aX a C _ h4) (pac (aX b C _ h5) gW h3') h3
    refine Fc g1 g4 hA (by rw[a7 h3,a7 h3'];rfl) (a7 h3') pins s σ H Rr I ⟨m,ρ,st,rf,rh,aa C.mono a (fun v st1 k m1 H1 x1 e1 r1 r2=>⟨m1,ρ,st1,rf.mono e1,r1,
     aa C.mono b (fun u st2 k2 m2 H2 y2 e2 r3 r4=>?_) k⟩) w⟩
    obtain⟨xs,ys,q1,q2,k⟩:=k2
    obtain⟨a1,rfl,w1,s1⟩:=uU r3 (r2.mono e2) q1
    obtain⟨a2,rfl,w2,s2⟩:=uU r3 r4 q2
    refine⟨a1,a2,rfl,fun e he=>?_,k m2 H2 _ (e1.trans e2) r3 (AF w1 w2)⟩
    simp only[List.mem_cons,List.not_mem_nil,or_false] at he
    rcases he with rfl|rfl
    ·exact s1
    ·exact s2
   | _=>cases ht
 | .zip3 a b d,X,c,C,tg,x,ht,h=>by
  replace h:=aM h
  obtain⟨g,xs,p,rfl,h⟩:=h
  replace h:=aj h
  obtain⟨y,p2,rfl,h⟩:=h
  replace h:=Dv h
  obtain⟨l,r,u,rfl,h⟩:=h
  ·simp only[Bool.and_eq_true,beq_iff_eq] at h
   obtain⟨⟨⟨⟨⟨⟨⟨h1,h2⟩,h3⟩,h3'⟩,h3''⟩,h4⟩,h5⟩,h6⟩:=h
   subst h1
   obtain⟨g1,g2,g3,g4⟩:=C.bltx h2
   cases tg with
   | Tuple elts kt pt =>
    rintro pins s σ H Rr I ⟨m,ρ,st,rf,rh,w⟩
    have hA:PA X [_,_,_] (iu (TEx X.K (wpE Γ a)) (iu (TEx X.K (wpE Γ b)) (iu (TEx X.K (wpE Γ d)) uw))):=pac (aX a C _ h4) (pac (aX b C _ h5) (pac (aX d C _ h6) gW h3'') h3') h3
    refine Eb g1 g4 hA (by rw[a7 h3,a7 h3',a7 h3''];rfl) (by rw[a7 h3',a7 h3''];rfl) pins s σ H Rr I ⟨m,ρ,st,rf,rh,aa C.mono a (fun v st1 k m1 H1 x1 e1 r1 r2=>⟨m1,ρ,st1,rf.mono e1,r1,
     aa C.mono b (fun u st2 k2 m2 H2 y2 e2 r3 r4=>⟨m2,ρ,st2,(rf.mono e1).mono e2,r3,aa C.mono d (fun w st3 k3 m3 H3 y3 e3 r5 r6=>?_) k2⟩) k⟩) w⟩
    obtain⟨xs,ys,zs,q1,q2,q3,k⟩:=k3
    obtain⟨a1,rfl,w1,s1⟩:=uU r5 ((r2.mono e2).mono e3) q1
    obtain⟨a2,rfl,w2,s2⟩:=uU r5 (r4.mono e3) q2
    obtain⟨a3,rfl,w3,s3⟩:=uU r5 r6 q3
    refine⟨a1,a2,a3,rfl,fun e he=>?_,k m3 H3 _ ((e1.trans e2).trans e3) r5 (y6 w1 w2 w3)⟩
    simp only[List.mem_cons,List.not_mem_nil,or_false] at he
    rcases he with rfl|rfl|rfl
    ·exact s1
    ·exact s2
    ·exact s3
   | _=>cases ht
 | .enum a,X,c,C,tg,x,ht,h=>by
  replace h:=aM h
  obtain⟨g,xs,p,rfl,h⟩:=h
  replace h:=aj h
  obtain⟨y,p2,rfl,h⟩:=h
  replace h:=dY h
  obtain⟨l,rfl,h⟩:=h
  ·simp only[Bool.and_eq_true,beq_iff_eq] at h
   obtain⟨⟨⟨h1,h2⟩,h3⟩,h4⟩:=h
   subst h1
   obtain⟨g1,g2,g3,g4⟩:=C.bltx h2
   cases tg with
   | Tuple elts kt pt =>
    rintro pins s σ H Rr I ⟨m,ρ,st,rf,rh,w⟩
    skip
    have hA:PA X [_] (iu (TEx X.K (wpE Γ a)) uw):=pac (aX a C _ h4) gW h3
    refine C8 g1 g4 hA (a7 h3) pins s σ H Rr I ⟨m,ρ,st,rf,rh,aa C.mono a (fun v st1 k m1 H1 x1 e1 r1 r2=>?_) w⟩
    obtain⟨xs,rfl,k⟩:=k
    rw[R_tup] at r2
    obtain⟨a1,zs,rfl,g,r3⟩:=r2
    exact⟨a1,rfl,⟨zs,g⟩,k m1 H1 _ e1 r1 (zI g r3)⟩
   | _=>cases ht
 | .chars _,X,c,C,tg,x,_,h=>by rintro pins s σ H Rr I ⟨m,ρ,st,rf,rh,w⟩;exact False.elim w
 | .range3 _ _ _,X,c,C,tg,x,_,h=>by rintro pins s σ H Rr I ⟨m,ρ,st,rf,rh,w⟩;exact False.elim w
theorem wO:∀(es:Es) {X:Cx}{c:Cfg} (C:COk X c Γ) (xs:List Expr),mF c es xs=true->PTs X xs (TTx X.K (ib Γ es))
 | .nil,X,c,C,xs,h=>by
  have h:xs.isEmpty=true:=h
  cases xs with
  | nil =>
   rintro pins s σ H Q I ⟨m,ρ,st,rf,rh,w⟩
   skip
   exact xO pins s σ H Q I (w m H (Ext.refl _ _ _) rh)
  | cons _ _=>cases h
 | .cons e .nil,X,c,C,xs,h=>by
  replace h:=aI h
  obtain⟨y,ys,rfl,h⟩:=h
  ·simp only[Bool.and_eq_true] at h
   obtain⟨h2,h3⟩:=h
   have h3:ys.isEmpty=true:=h3
   cases ys with
   | nil =>
    rintro pins s σ H Q I ⟨m,ρ,st,rf,rh,w⟩
    skip
    refine t6 (pK e C _ h2) xO pins s σ H Q I ⟨m,ρ,st,rf,rh,aJ C.mono e (fun b st1 k m1 H1 e1 r1=>?_) w⟩
    cases b with
    | true=>rw[ML rfl];exact k m1 H1 e1 r1
    | false=>rw[MJ MF];exact k m1 H1 e1 r1
   | cons _ _=>cases h3
 | .cons e (.cons e2 es),X,c,C,xs,h=>by
  replace h:=aI h
  obtain⟨y,ys,rfl,h⟩:=h
  ·simp only[Bool.and_eq_true] at h
   obtain⟨h2,h3⟩:=h
   rintro pins s σ H Q I ⟨m,ρ,st,rf,rh,w⟩
   skip
   refine t6 (pK e C _ h2) (wO (.cons e2 es) C _ h3) pins s σ H Q I ⟨m,ρ,st,rf,rh,aJ C.mono e (fun b st1 k m1 H1 e1 r1=>?_) w⟩
   cases b with
   | true=>rw[ML rfl] at k |-;exact⟨m1,ρ,st1,rf.mono e1,r1,bX C.mono _ (fun _ _ q=>q.ext e1) k⟩
   | false=>rw[MJ MF] at k |-;exact k m1 H1 e1 r1
end
end
end FW
namespace FW
open L2 HX
section
variable {X:Cx}{c:Cfg}{Γ:Nat->FSp}{tg:Expr}
noncomputable def AE (K:W.Frag)(m:List Addr)(H:Hp)(D:L2.Ends):aO:={ nx:=postF K m H D.nx,rt:=post K m H D.rt,bk:=postF K m H D.bk,ct:=postF K m H D.ct }
noncomputable def TSx (K:W.Frag)(w:Fr->AH->aO->Prop):TS:=fun D σ H=>∃m ρ st,RF K m H ρ σ/\RH K m H st/\w ρ st (AE K m H D)
theorem AE.ext {K:W.Frag}{m m1:List Addr}{H H1:Hp}{D:L2.Ends}(x:Ext K m H m1 H1):k9 (AE K m H D) (AE K m1 H1 D) :=
 ⟨fun _ _ q=>q.ext x,fun _ _ q=>q.ext x,fun _ _ q=>q.ext x,fun _ _ q=>q.ext x⟩
theorem DT (G:bu Γ){t:Tg}{it:It}{b:Ss}{D:L2.Ends}{σ:L2.St}{H:Hp}(h:TSx X.K (wpS Γ (.forS t it b)) D σ H):Hb (TIx X.K (jJ Γ it)) (TGx X.K (dy Γ t)) (TSx X.K (au Γ b)) D σ H:=by
 obtain⟨m,ρ,st,rf,rh,w⟩:=h
 skip
 refine⟨m,ρ,st,rf,rh,gc G it (fun xs chk st1 k m1 H1 J e1 r1 W=>?_) w⟩
 refine⟨fun i n σ' H'=>n+i=xs.length/\∃m' ρ' st',Ext X.K m1 H1 m' H'/\RH X.K m' H' st'/\RF X.K m' H' ρ' σ'/\rJ chk (fun x ρ' st' D'=>dy Γ t x ρ' st' fun ρ2 st2=>au Γ b ρ2 st2 D') (AE X.K m H D) (xs.drop i) ρ' st',
  ⟨xs.length,rfl,m1,ρ,st1,Ext.refl _ _ _,r1,rf.mono e1,by simpa using k⟩,?_⟩
 rintro i n σ' H' ⟨hn,m',ρ',st',x',rh',rf',k'⟩
 cases q:xs.drop i with
 | nil =>
  rw[q] at k'
  have hi:i=xs.length:=by
   have:=NV List.length q
   simp at this
   omega
  subst hi
  exact .inl ⟨W.stop m' H' st' x' rh' k'.1,k'.2 m' H' σ' (e1.trans x') rh' rf'⟩
 | cons v rest =>
  rw[q] at k'
  have hi:i<xs.length:=by
   have:=NV List.length q
   simp at this
   omega
  have ev:xs[i]?=some v:=by
   have:=NV List.head? q
   rw[List.head?_drop] at this
   exact this
  have er:rest=xs.drop (i+1):=by
   have:=NV List.tail q
   rw[List.tail_drop] at this
   exact this.symm
  subst er
  obtain⟨kc,k'⟩:=k'
  obtain⟨go,yl⟩:=W.item i v m' H' st' x' rh' kc ev
  refine .inr ⟨go,fun σ'' H''=>(n-1+(i+1)=xs.length/\∃m' ρ' st',Ext X.K m1 H1 m' H''/\RH X.K m' H'' st'/\RF X.K m' H'' ρ' σ''/\rJ chk (fun x ρ' st' D'=>dy Γ t x ρ' st' fun ρ2 st2=>au Γ b ρ2 st2 D') (AE X.K m H D) (xs.drop (i+1)) ρ' st'),fun σ'' H'' z=>⟨n-1,by omega,z⟩,fun y H2 hy=>?_⟩
  obtain⟨x2,r2,rv⟩:=yl y H2 hy
  refine⟨m',ρ',st',v,rf'.mono x2,r2,rv,aY G t (fun ρ3 st3 k3 m3 H3 σ3 x3 r3 f3=>?_) k'⟩
  refine⟨m3,ρ3,st3,f3,r3,aU G b ?_ k3⟩
  have xx:Ext X.K m H m3 H3:=((e1.trans x').trans x2).trans x3
  refine⟨fun ρ4 st4 k4 m4 H4 σ4 x4 r4 f4=>⟨by omega,m4,ρ4,st4,((x'.trans x2).trans x3).trans x4,r4,f4,k4⟩,fun v4 st4 k4=>k4.ext xx,fun ρ4 st4 k4=>k4.ext xx,fun ρ4 st4 k4 m4 H4 σ4 x4 r4 f4=>⟨by omega,m4,ρ4,st4,((x'.trans x2).trans x3).trans x4,r4,f4,k4⟩⟩
theorem yt (G:bu Γ){cd:E}{b:Ss}{D:L2.Ends}{σ:L2.St}{H:Hp}(h:TSx X.K (wpS Γ (.whileS cd b)) D σ H):Ax (TTx X.K (wpT Γ cd)) (TSx X.K (au Γ b)) D σ H:=by
 obtain⟨m,ρ,st,rf,rh,w⟩:=h
 skip
 obtain⟨n0,w⟩:=w
 refine⟨fun n σ' H'=>∃m' ρ' st',Ext X.K m H m' H'/\RH X.K m' H' st'/\RF X.K m' H' ρ' σ'/\eX (wpT Γ cd) (au Γ b) (AE X.K m H D) n ρ' st',⟨n0,m,ρ,st,Ext.refl _ _ _,rh,rf,w⟩,?_⟩
 rintro n σ' H' ⟨m',ρ',st',x',rh',rf',k'⟩
 cases n with
 | zero=>exact k'.elim
 | succ n =>
  refine⟨m',ρ',st',rf',rh',aJ G cd (fun b st1 k m1 H1 x1 r1=>?_) k'⟩
  cases b with
  | false=>rw[MJ MF] at k |-;exact k m1 H1 σ' (x'.trans x1) r1 (rf'.mono x1)
  | true =>
   rw[ML rfl] at k |-
   refine⟨fun σ'' H''=>∃m' ρ' st',Ext X.K m H m' H''/\RH X.K m' H'' st'/\RF X.K m' H'' ρ' σ''/\eX (wpT Γ cd) (au Γ b) (AE X.K m H D) n ρ' st',fun σ'' H'' z=>⟨n,PF _,z⟩,m1,ρ',st1,rf'.mono x1,r1,aU G _ ?_ k⟩
   have xx:=x'.trans x1
   exact⟨fun ρ4 st4 k4 m4 H4 σ4 x4 r4 f4=>⟨m4,ρ4,st4,xx.trans x4,r4,f4,k4⟩,fun v4 st4 k4=>k4.ext xx,fun ρ4 st4 k4=>k4.ext xx,fun ρ4 st4 k4 m4 H4 σ4 x4 r4 f4=>⟨m4,ρ4,st4,xx.trans x4,r4,f4,k4⟩⟩
end
end FW
namespace FW
open L2 HX
noncomputable def ou:Expr->Bool
 | .Name ..=>true
 | _=>false
noncomputable def BO:Expr->Expr->Bool
 | .Tuple ts _ _,.Tuple vs _ _=>(ts.any fun t=>!ou t) || vs.all (foldedForSure 8)
 | .Tuple ..,_=>true
 | .Subscript ..,_=>true
 | _,_=>false
noncomputable def wy (y:Str)(sc:Scope):Bool:=sc.names.any fun x=>match x with|(n,k)=>n == y && (k == .local || k == .cell)
noncomputable def wU (x:Stmt)(f:List Expr->Expr->Bool):Bool:=match x with | .Assign ts v _=>f ts v|_=>false
theorem o7 {x:Stmt}{f:List Expr->Expr->Bool}(h:wU x f=true):∃ts v p,x=.Assign ts v p/\f ts v=true:=by
 cases x with|Assign ts v p=>exact⟨ts,v,p,rfl,h⟩|_=>exact Bool.noConfusion h
noncomputable def An (x:Stmt)(f:Expr->Expr->Bool):Bool:=wU x fun ts v=>on1 ts fun t=>f t v
theorem qy {x:Stmt}{f:Expr->Expr->Bool}(h:An x f=true):∃t v p,x=.Assign [t] v p/\f t v=true:=by
 replace h:=o7 h
 obtain⟨ts,v,p,rfl,h⟩:=h
 replace h:=dY h
 obtain⟨t,rfl,h⟩:=h
 exact⟨t,v,p,rfl,h⟩
noncomputable def Ey (x:Stmt)(f:Expr->Operator->Expr->Bool):Bool:=match x with | .AugAssign t o v _=>f t o v|_=>false
theorem yx {x:Stmt}{f:Expr->Operator->Expr->Bool}(h:Ey x f=true):∃t o v p,x=.AugAssign t o v p/\f t o v=true:=by
 cases x with|AugAssign t o v p=>exact⟨t,o,v,p,rfl,h⟩|_=>exact Bool.noConfusion h
noncomputable def GY (x:Stmt)(f:Expr->Bool):Bool:=match x with | .Expr v _=>f v|_=>false
theorem BT {x:Stmt}{f:Expr->Bool}(h:GY x f=true):∃v p,x=.Expr v p/\f v=true:=by
 cases x with|Expr v p=>exact⟨v,p,rfl,h⟩|_=>exact Bool.noConfusion h
noncomputable def Ah (x:Stmt)(f:Option Expr->Bool):Bool:=match x with | .Return v _=>f v|_=>false
theorem rn {x:Stmt}{f:Option Expr->Bool}(h:Ah x f=true):∃v p,x=.Return v p/\f v=true:=by
 cases x with|Return v p=>exact⟨v,p,rfl,h⟩|_=>exact Bool.noConfusion h
noncomputable def Io (x:Stmt)(f:Expr->List Stmt->List Stmt->Bool):Bool:=match x with | .If v a b _=>f v a b|_=>false
theorem AA {x:Stmt}{f:Expr->List Stmt->List Stmt->Bool}(h:Io x f=true):∃v a b p,x=.If v a b p/\f v a b=true:=by
 cases x with|If v a b p=>exact⟨v,a,b,p,rfl,h⟩|_=>exact Bool.noConfusion h
noncomputable def xB (x:Stmt)(f:Expr->List Stmt->Bool):Bool:=match x with | .While v a [] _=>f v a|_=>false
theorem tY {x:Stmt}{f:Expr->List Stmt->Bool}(h:xB x f=true):∃v a p,x=.While v a [] p/\f v a=true:=by
 cases x with
 | While v a b p=>cases b with|nil=>exact⟨v,a,p,rfl,h⟩|cons _ _=>exact Bool.noConfusion h
 | _=>exact Bool.noConfusion h
noncomputable def zZ (x:Stmt)(f:Expr->Expr->List Stmt->Bool):Bool:=match x with | .For t v a [] _=>f t v a|_=>false
theorem yc {x:Stmt}{f:Expr->Expr->List Stmt->Bool}(h:zZ x f=true):∃t v a p,x=.For t v a [] p/\f t v a=true:=by
 cases x with
 | For t v a b p=>cases b with|nil=>exact⟨t,v,a,p,rfl,h⟩|cons _ _=>exact Bool.noConfusion h
 | _=>exact Bool.noConfusion h
noncomputable def A2 (x:Stmt):Bool:=match x with | .Pass _=>true|_=>false
theorem wz {x:Stmt}(h:A2 x=true):∃p,x=.Pass p:=by
 cases x with|Pass p=>exact⟨p,rfl⟩|_=>exact Bool.noConfusion h
noncomputable def ED (x:Stmt):Bool:=match x with | .Break _=>true|_=>false
theorem yh {x:Stmt}(h:ED x=true):∃p,x=.Break p:=by
 cases x with|Break p=>exact⟨p,rfl⟩|_=>exact Bool.noConfusion h
noncomputable def AI (x:Stmt):Bool:=match x with | .Continue _=>true|_=>false
theorem wC {x:Stmt}(h:AI x=true):∃p,x=.Continue p:=by
 cases x with|Continue p=>exact⟨p,rfl⟩|_=>exact Bool.noConfusion h
noncomputable def E7:Tg->Bool
 | .name _=>true
 | _=>false
noncomputable def He:E->Bool
 | .comp ..=>true
 | _=>false
noncomputable def FX (c:Cfg)(t:Tg)(e:E)(tg x:Expr):Bool :=
 E7 t && He e && aC tg fun y py=>Aq x fun _ _ sc pos=>c.names.lookup y == some .cell || (c.names.lookup y == some .local && py.line == pos.line && !wy y sc)
noncomputable def Hu:E->Bool
 | .compD ..=>true
 | _=>false
noncomputable def Bi (c:Cfg)(t:Tg)(e:E)(tg x:Expr):Bool :=
 E7 t && Hu e && aC tg fun y py=>FT x fun _ _ _ sc pos=>c.names.lookup y == some .local && py.line == pos.line && !wy y sc
theorem C6 {e:E}(h:Hu e=true):∃kx vx tg wk d ifs nt caps,e=.compD kx vx tg wk d ifs nt caps:=by
 cases e with|compD kx vx tg wk d ifs nt caps=>exact⟨kx,vx,tg,wk,d,ifs,nt,caps,rfl⟩|_=>exact Bool.noConfusion h
noncomputable def HC (c:Cfg)(t:Expr):Bool:=aC t fun y _=>c.names.lookup y == some .cell
noncomputable def J_ (c:Cfg)(tg x:Expr):Bool:=fw tg fun ts=>(Aq x fun _ _ _ _=>true) || fw x fun _=>ts.any (HC c)
mutual
noncomputable def HS (c:Cfg):S->Stmt->Bool
 | .set t e,s=>An s fun tg x=>(jD c t tg && aB c e x) && ((n9 x && (ou tg || BO tg x)) || (FX c t e tg x || (J_ c tg x || Bi c t e tg x)))
 | .par i j a b,s=>An s fun tg vx=>fw tg fun ts=>on2 ts fun ta tb=>aC ta fun x px=>aC tb fun y py=>fw vx fun us=>on2 us fun u v=>c.N[i]? == some x && c.N[j]? == some y && !(i == j) && !(x == y) && c.names.lookup x == some .local && c.names.lookup y == some .local
    && px.line == py.line && ak u && ak v && !(foldedForSure 8 u && foldedForSure 8 v) && !(constantsAlone 8 u && constantsAlone 8 v) && aB c a u && aB c b v
 | .aug i op e,s=>Ey s fun t o x=>aC t fun y _=>c.N[i]? == some y && c.loc y && o == op && aB c e x
 | .expr e,s=>GY s fun x=>n9 x && aB c e x
 | .ret e,s=>Ah s fun o=>jF o fun x=>aB c e x
 | .retN,s=>Ah s fun o=>o.isNone
 | .ifS t a b,s=>Io s fun x ys zs=>zL c t x && ax c a ys && ax c b zs
 | .whileS t b,s=>xB s fun x ys=>zL c t x && ax c b ys
 | .forS t it b,s=>zZ s fun tg x ys=>B' it tg && iJ x && jD c t tg && Af c it x && ax c b ys
 | .forK t wk e b,s=>zZ s fun tg x ys=>FM wk tg && iJ x && jD c t tg && Ft wk x (fun y=>aB c e y) && ax c b ys
 | .pass,s=>A2 s
 | .brk,s=>ED s
 | .cont,s=>AI s
 | .bad,_=>true
 | .set2 i j e,s=>wU s fun ts v=>on2 ts fun ta tb=>aC ta fun x _=>aC tb fun y _=>c.N[i]? == some x && c.N[j]? == some y && !(i == j) && c.loc x && c.loc y && n9 v && aB c e v
termination_by structural s=>s
noncomputable def ax (c:Cfg):Ss->List Stmt->Bool
 | .nil,xs=>xs.isEmpty
 | .cons s ss,xs=>pB xs fun y ys=>HS c s y && ax c ss ys
termination_by structural s=>s
end
theorem xh {t:Tg}(h:E7 t=true):∃i,t=.name i:=by
 cases t with|name i=>exact⟨i,rfl⟩|_=>exact Bool.noConfusion h
theorem Du {e:E}(h:He e=true):∃elt tg it ifs nt caps,e=.comp elt tg it ifs nt caps:=by
 cases e with|comp elt tg it ifs nt caps=>exact⟨elt,tg,it,ifs,nt,caps,rfl⟩|_=>exact Bool.noConfusion h
theorem iF {x:Expr}{t:Option Expr}{l:Nat}{env:Env}(h:n9 x=true):swapsWith x t l env=pure false:=by
 cases x <;> first|rfl|cases h
theorem iN {x t:Expr}{l:Nat}{env:Env}(h:n9 x=true):swapsWithSole [t] x l env=pure false:=by
 unfold swapsWithSole
 exact iF h
theorem mQ:∀(ts:List Expr) (f:Expr->Option Str),(ts.any fun t=>!ou t)=true->(∀t,ou t=false->f t=none)->(ts.filterMap f).length<ts.length
 | [],f,h,_=>by cases h
 | t::ts,f,h,hf=>by
  rw[OP,PR] at h
  have hl:(ts.filterMap f).length<=ts.length:=PP _ _
  rcases h with h|h
  ·rw[NY,hf t (by simpa using h)]
   simp only[List.length_cons]
   exact Nat.lt_succ_of_le ‹_›
  ·have:=mQ ts f h hf
   rw[NY]
   cases f t <;> simp only[List.length_cons] <;> exact Nat.lt_succ_of_le ‹_›
theorem kM:∀(ts:List Expr) (P:Expr->Bool) (f:Expr->Option Str),ts.any P=true->(∀t,P t=true->f t=none)->(ts.filterMap f).length<ts.length
 | [],P,f,h,_=>by cases h
 | t::ts,P,f,h,hf=>by
  rw[OP,PR] at h
  have hl:(ts.filterMap f).length<=ts.length:=PP _ _
  rcases h with h|h
  ·rw[NY,hf t h]
   simp only[List.length_cons]
   exact Nat.lt_succ_of_le ‹_›
  ·have:=kM ts P f h hf
   rw[NY]
   cases f t <;> simp only[List.length_cons] <;> exact Nat.lt_succ_of_le ‹_›
theorem Bc {ts vs:List Expr}{k k2:Nat}{p p2:Pos}{env:Env}{P:Expr->Bool}(hs:ts.any P=true)(hP:∀t,P t=true->∃y q,t=.Name y q/\(env.kindOf y == some .local)=false):swappedStores [.Tuple ts k p] (.Tuple vs k2 p2) env=pure none:=by
 unfold swappedStores
 dsimp only
 split
 ·rfl
 ·split
  ·rfl
  ·have hlt:=kM ts P (fun x=>match x with
    | .Name id pos=>if (env.kindOf id == some .local && pos.line == (Option.map (fun x=>x.pos.line) ts.head?).getD 0)=true then some id else none
    | _=>none) hs (fun t ht=>by
     obtain⟨y,q,rfl,hk⟩:=hP t ht
     show (if (env.kindOf y == some .local && _)=true then some y else none)=none
     rw[hk,Q5,MJ MF])
   rw[ML]
   rw[PR]
   left
   rw[bne_iff_ne]
   exact M2 hlt
theorem lm {tg x:Expr}{env:Env}(h:BO tg x=true):swappedStores [tg] x env=pure none:=by
 cases tg with
 | Tuple ts k p =>
  cases x with
  | Tuple vs k2 p2 =>
   have hs:((ts.any fun t=>!ou t) || vs.all (foldedForSure 8))=true:=h
   rw[PR] at hs
   unfold swappedStores
   dsimp only
   split
   ·rfl
   ·split
    ·rfl
    rcases hs with hs|hs
    rotate_left
    ·split
     ·rfl
     ·first|rfl|rw[ML hs]
    ·have hlt:=mQ ts (fun x=>match x with
      | .Name id pos=>if (env.kindOf id == some .local && pos.line == (Option.map (fun x=>x.pos.line) ts.head?).getD 0)=true then some id else none
      | _=>none) hs (fun t ht=>by cases t <;> first|rfl|cases ht)
     rw[ML]
     rw[PR]
     left
     rw[bne_iff_ne]
     exact M2 hlt
  | _=>rfl
 | Subscript a b p=>cases x <;> rfl
 | _=>cases h
noncomputable def wS:Expr->Bool
 | .Starred ..=>true
 | _=>false
theorem qB {u:Expr}(h:ak u=true):wS u=false:=by
 cases u <;> first|rfl|cases h
theorem vy {u v:Expr}(h1:ak u=true)(h2:ak v=true):([u,v].any fun | .Starred ..=>true|_=>false)=false:=by
 show (wS u || (wS v || false))=false
 rw[qB h1,qB h2]
 rfl
theorem Ao {env:Env}{x y:Str}{px py pt:Pos}{kt k2:Nat}{pt2:Pos}{u v:Expr}(hb:env.blockKind=.function)(hx:env.kindOf x=some .local)(hy:env.kindOf y=some .local)(hxy:x≠y)(hl:px.line=py.line)
  (h1:ak u=true) (h2:ak v=true) (h3:(foldedForSure 8 u && foldedForSure 8 v)=false) (h4:(constantsAlone 8 u && constantsAlone 8 v)=false) :
  swappedStores [.Tuple [.Name x px,.Name y py] kt pt] (.Tuple [u,v] k2 pt2) env=pure (some [x,y]):=by
 unfold swappedStores
 dsimp only
 have e0:(Option.map (fun x=>x.pos.line) [Expr.Name x px,Expr.Name y py].head?).getD 0=px.line:=rfl
 have e1:([u,v].any fun | .Starred ..=>true|_=>false)=false:=vy h1 h2
 have e2:[u,v].all (foldedForSure 8)=false:=by simpa using h3
 have e3:[u,v].all (constantsAlone 8)=false:=by simpa using h4
 have e4:[x,y].eraseDups.length=2:=by
  have:(y == x)=false:=by simpa using fun z=>hxy z.symm
  simp[List.eraseDups_cons,this]
 rw[MJ (by simp[hb]),MJ ?h1]
 case h1=>exact fun z=>MF (e1.symm.trans z)
 have e5:(List.filterMap (fun t=>match t with
   | .Name id pos=>if (env.kindOf id == some .local && pos.line == (Option.map (fun x=>x.pos.line) [Expr.Name x px,Expr.Name y py].head?).getD 0)=true then some id else none
   | _=>none) [Expr.Name x px,Expr.Name y py])=[x,y]:=by
  rw[e0]
  simp[List.filterMap_cons,hx,hy,hl]
 generalize hn:List.filterMap _ [Expr.Name x px,Expr.Name y py]=ns
 have hns:ns=[x,y]:=hn.symm.trans e5
 subst hns
 rw[MJ,MJ,MJ]
 ·rw[e3];decide
 ·rw[e2];decide
 ·rw[e4]
  simp
section
variable {X:Cx}{c:Cfg}{Γ:Nat->FSp}
theorem BP {X:Cx}{c:Cfg}{Γ:Nat->FSp}(C:COk X c Γ){t:Tg}{e:E}{tg x:Expr}{pos:Pos}(h2:jD c t tg=true)(h3:aB c e x=true)(h:FX c t e tg x=true):PS X (.Assign [tg] x pos) (TSx X.K (wpS Γ (.set t e))):=by
 have hE:=aX e C _ h3
 unfold FX at h
 rw[M3,M3] at h
 obtain⟨⟨ht,he⟩,h⟩:=h
 replace h:=aj h
 obtain⟨y,py,rfl,h⟩:=h
 replace h:=kE h
 obtain⟨ex,gens,sc,cpos,rfl,h⟩:=h
 obtain⟨i,rfl⟩:=xh ht
 obtain⟨elt,tg,it,ifs,nt,caps,rfl⟩:=Du he
 ·have h2:(c.N[i]? == some y && c.loc y)=true:=h2
  simp only[Bool.and_eq_true,beq_iff_eq] at h2
  obtain⟨g1,g2⟩:=C.locx h2.2
  rintro pins s σ H D I ⟨m,ρ,st,rf,rh,w⟩
  simp only[Bool.or_eq_true,Bool.and_eq_true,beq_iff_eq,Bool.not_eq_true'] at h
  rcases h with h|⟨⟨hl,hp⟩,hn⟩
  ·have hk:=C.cel y (.inl h)
   have hs:swapsWith (.ListComp ex gens sc cpos) (some (.Name y py)) pos.line X.env=pure false:=by
    unfold swapsWith
    have:(X.env.kindOf y == some NameKind.local)=false:=by rcases hk with hk|hk <;> rw[hk] <;> rfl
    simp only[this,Bool.and_false,Bool.false_and]
   rw[Em] at w
   refine A4 C.ndX (by rw[C.N];exact h2.1) g1 hE hs g2 pins s σ H D I ⟨m,ρ,st,rf,rh,aa C.mono _ (fun v st1 k m1 H1 x1 e1 r1 r2=>?_) w⟩
   try simp only[nL,vC,vD] at k
   exact k m1 H1 _ e1 r1 ((rf.mono e1).set i r2)
  ·have hll:=C.lcl _ hl
   have hs:swapsWith (.ListComp ex gens sc cpos) (some (.Name y py)) pos.line X.env=pure true:=by
    unfold swapsWith
    have q1:(X.env.kindOf y == some NameKind.local)=true:=by unfold Env.kindOf;rw[hll];rfl
    have q2:(X.env.blockKind == ScopeKind.function)=true:=by rw[C.bk];rfl
    have q3:(py.line == cpos.line)=true:=by rw[hp];simp
    unfold wy at hn
    show pure (_ && _ && _ && !_)=_
    rw[q1,q2]
    show pure (true && true && (py.line == cpos.line) && !_)=_
    rw[q3,hn]
    rfl
   replace h3:=kE h3
   obtain⟨ex',gs',sc',pos',heq,h3⟩:=h3
   cases heq
   replace h3:=dY h3
   obtain⟨g,rfl,h3⟩:=h3
   obtain⟨tx,ix,fx,ia⟩:=g
   ·simp only[Bool.and_eq_true,beq_iff_eq] at h3
    obtain⟨⟨⟨⟨⟨⟨⟨⟨h1,h0⟩,k2'⟩,h3⟩,h4⟩,h5⟩,h6⟩,h7⟩,h8⟩:=h3
    subst h1
    obtain⟨S,k1,k2,k3,k4⟩:=nQ C h4
    have hC:∀s2 H2 fp A,COk (cxC X (nt++caps.filterMap (X.N[·]?)) s2 H2 fp sc A) (c.inner nt caps sc) Γ:=fun s2 H2 fp A=>Cj C h4
    skip
    rw[exec_Assign_Name_used _ _ _ _ hs]
    refine MB (wpAny_standAt ?_)
    refine MB ?_
    unfold evalThenUse
    refine MB ?_
    refine rp (elt:=elt) (tg:=tg) (ifs:=ifs) (nt:=nt) (caps:=caps) (use:=some (assign (.Name y py) X.env)) (Fin:=fun A H'=>D.nx (σ.set i (some (.ref A))) H') (wi:=TIx X.K (jJ Γ it)) C.mono C.calm S rfl k1 k2 k3 k2' h3 (A0 it C _ h0 h5) (fun s2 H2 fp A=>qC tg (hC s2 H2 fp A) _ h6) (fun s2 H2 fp A=>wO ifs (hC s2 H2 fp A) _ h7) (fun s2 H2 fp A=>aX elt (hC s2 H2 fp A) _ h8) I ?_ ?_
    ·refine⟨m,ρ,st,rf,rh,gc C.mono it (fun xs chk st1 z m1 H1 J e1 r1 W=>⟨m1,ρ,st1,xs,chk,rf.mono e1,r1,W,z.1,?_⟩) w⟩
     refine gX (body:=fq Γ elt tg ifs (nt.map (fun _=>none)++caps.map fun i=>(ρ[i]?).join)) (fun _ _ _ _ hk q=>oa C.mono hk q) (fun vs st2 k m2 H2 A ys e2 r2 Dm hD0 hD ry=>?_) z.2
     have hD1:H A=none:=by
      cases q:H A with
      | none=>rfl
      | some o =>
       by_cases hm:A∈m
       ·exact absurd ((e1.trans e2).pre.subset hm) Dm
       ·exact absurd hD0 (e1.ne hm q)
     try simp only[nL,vC,vD] at k
     exact k _ _ _ ((e1.trans e2).addD hD1) (r2.addD Dm hD ry) ((rf.mono ((e1.trans e2).addD hD1)).set i (R.last r2.len))
    ·intro C' A H' s' m' I' ns fp F
     refine wpAny_assign_Name (rl I' C.ndX (by rw[C.N];exact h2.1) g1 (v:=.ref A) rfl (fun s2 I2 hh=>?_) g2)
     obtain⟨a,hs2,ha⟩:=hh
     have hne:C'≠a:=by
      rcases ha with rfl|ha
      ·exact fp.2.1
      ·exact fun q=>fp.2.2.2.2.1 _ _ ha q.symm
     refine⟨m',?_,fun h' hs'=>?_⟩
     ·obtain⟨o,es,ep,q1,q2⟩:=ns
      exact⟨o,es,ep,(hs2.2 C' hne).trans q1,q2⟩
     ·refine ME (ME ?_)
      exact⟨_,H',I2.turned (t':=s2.toks) (fun b o hb e=>hs'.extBut b o hb e) fp.1 fp.2.1 fp.2.2.2.1 fp.2.2.2.2.1 fp.2.2.2.2.2,F⟩
theorem zW {X:Cx}{c:Cfg}{Γ:Nat->FSp}(C:COk X c Γ){t:Tg}{e:E}{tg x:Expr}{pos:Pos}(h2:jD c t tg=true)(h3:aB c e x=true)(h:Bi c t e tg x=true):PS X (.Assign [tg] x pos) (TSx X.K (wpS Γ (.set t e))):=by
 unfold Bi at h
 rw[M3,M3] at h
 obtain⟨⟨ht,he⟩,h⟩:=h
 replace h:=aj h
 obtain⟨y,py,rfl,h⟩:=h
 replace h:=B8 h
 obtain⟨ek,ev,gens,sc,cpos,rfl,h⟩:=h
 obtain⟨i,rfl⟩:=xh ht
 obtain⟨kx,vx,tg,wk,d,ifs,nt,caps,rfl⟩:=C6 he
 have h2:(c.N[i]? == some y && c.loc y)=true:=h2
 simp only[Bool.and_eq_true,beq_iff_eq] at h2
 obtain⟨g1,g2⟩:=C.locx h2.2
 rintro pins s σ H D I ⟨m,ρ,st,rf,rh,w⟩
 rw[Em] at w
 exact False.elim w
mutual
theorem Kb (C:COk X c Γ):∀(e:S) (x:Stmt),HS c e x=true->PS X x (TSx X.K (wpS Γ e))
 | .set t e,x,h=>by
  replace h:=qy h
  obtain⟨tg,x,pos,rfl,h⟩:=h
  ·simp only[Bool.and_eq_true,Bool.or_eq_true] at h
   obtain⟨⟨h2,h3⟩,h14⟩:=h
   rcases h14 with⟨h1,h4⟩|h14|h14|h14
   rotate_left
   ·exact BP C h2 h3 h14
   rotate_left
   ·exact zW C h2 h3 h14
   rotate_right
   ·have hE:=aX e C _ h3
    have hG:=qC t C _ h2
    rintro pins s σ H D I ⟨m,ρ,st,rf,rh,w⟩
    skip
    have rd:DQ (TEx X.K (wpE Γ e)) (TGx X.K (dy Γ t)) D σ H:=⟨m,ρ,st,rf,rh,aa C.mono e (fun v st1 k m1 H1 x1 e1 r1 r2=>⟨m1,ρ,st1,v,rf.mono e1,r1,r2,aY C.mono t (fun _ _ q=>q.ext e1) k⟩) w⟩
    obtain⟨ts,k,p,rfl,h14⟩:=br h14
    rcases Bool.or_eq_true_iff.mp h14 with h14|h14
    ·obtain⟨a,b,d,f,rfl,_⟩:=kE h14
     exact oh hE hG rfl rfl rfl pins s σ H D I rd
    ·obtain⟨us,k2,p2,rfl,h14⟩:=br h14
     refine oh hE hG rfl (Bc (P:=HC c) h14 fun t ht=>?_) rfl pins s σ H D I rd
     obtain⟨y,q,rfl,hy⟩:=aj (show aC t _=true from ht)
     refine⟨y,q,rfl,?_⟩
     rcases C.cel y (.inl (by simpa using hy)) with hk|hk <;> rw[hk] <;> rfl
   ·have hE:=aX e C _ h3
    have hG:=qC t C _ h2
    rintro pins s σ H D I ⟨m,ρ,st,rf,rh,w⟩
    skip
    have rd:DQ (TEx X.K (wpE Γ e)) (TGx X.K (dy Γ t)) D σ H:=⟨m,ρ,st,rf,rh,aa C.mono e (fun v st1 k m1 H1 x1 e1 r1 r2=>⟨m1,ρ,st1,v,rf.mono e1,r1,r2,aY C.mono t (fun _ _ q=>q.ext e1) k⟩) w⟩
    cases t with
    | name i =>
     obtain⟨y,p,rfl,h2⟩:=aj h2
     have h2:=Bool.and_eq_true_iff.mp h2
     obtain⟨g1,g2⟩:=C.locx h2.2
     refine A4 C.ndX (by rw[C.N];exact beq_iff_eq.mp h2.1) g1 hE (iF h1) g2 pins s σ H D I ⟨m,ρ,st,rf,rh,aa C.mono e (fun v st1 k m1 H1 x1 e1 r1 r2=>?_) w⟩
     try simp only[nL,vC,vD] at k
     exact k m1 H1 _ e1 r1 ((rf.mono e1).set i r2)
    | tup ts =>
     obtain⟨xs,k,p,rfl,_⟩:=br h2
     exact oh hE hG (iN h1) (lm (by rcases h4 with h4|h4;cases h4;exact h4)) rfl pins s σ H D I rd
    | ltup ts =>
     obtain⟨xs,k,p,rfl,_⟩:=br h2
     exact oh hE hG (iN h1) (lm (by rcases h4 with h4|h4;cases h4;exact h4)) rfl pins s σ H D I rd
    | sub o i =>
     obtain⟨l,r,p,rfl,_⟩:=gi h2
     exact oh hE hG (iN h1) (lm (by rcases h4 with h4|h4;cases h4;exact h4)) rfl pins s σ H D I rd
 | .par i j a b,x,h=>by
  replace h:=qy h
  obtain⟨tg,vx,pos,rfl,h⟩:=h
  replace h:=br h
  obtain⟨ts,k,p1,rfl,h⟩:=h
  replace h:=iY h
  obtain⟨ta,tb,rfl,h⟩:=h
  replace h:=aj h
  obtain⟨x,px,rfl,h⟩:=h
  replace h:=aj h
  obtain⟨y,py,rfl,h⟩:=h
  replace h:=br h
  obtain⟨us,k2,p2,rfl,h⟩:=h
  replace h:=iY h
  obtain⟨u,v,rfl,h⟩:=h
  ·simp only[Bool.and_eq_true,beq_iff_eq,Bool.not_eq_true',beq_eq_false_iff_ne] at h
   obtain⟨⟨⟨⟨⟨⟨⟨⟨⟨⟨⟨⟨h1,h2⟩,h3⟩,h4⟩,h5⟩,h6⟩,h7⟩,h8⟩,h9⟩,h10⟩,h11⟩,h12⟩,h13⟩:=h
   have hx:=C.lcl _ h5
   have hy:=C.lcl _ h6
   rintro pins s σ H D I ⟨m,ρ,st,rf,rh,w⟩
   skip
   refine Gp C.calm C.ndX (by rw[C.N];exact h1) (by rw[C.N];exact h2) h3 hx hy (pac (aX a C _ h12) (pac (aX b C _ h13) gW h9) h8)
    (Ao C.bk hx hy h4 h7 h8 h9 h10 h11) rfl pins s σ H D I ⟨m,ρ,st,rf,rh,aa C.mono a (fun v st1 k m1 H1 x1 e1 r1 r2=>⟨m1,ρ,st1,rf.mono e1,r1,
    aa C.mono b (fun u st2 k2 m2 H2 y2 e2 r3 r4=>⟨x1,y2,rfl,?_⟩) k⟩) w⟩
   exact k2 m2 H2 _ (e1.trans e2) r3 ((((rf.mono e1).mono e2).set i (r2.mono e2)).set j r4)
 | .aug i op e,x,h=>by
  replace h:=yx h
  obtain⟨t,o,x,p,rfl,h⟩:=h
  replace h:=aj h
  obtain⟨y,py,rfl,h⟩:=h
  ·simp only[Bool.and_eq_true,beq_iff_eq] at h
   obtain⟨⟨⟨h1,h2⟩,h3⟩,h4⟩:=h
   subst h3
   obtain⟨g1,g2⟩:=C.locx h2
   rintro pins s σ H D I ⟨m,ρ,st,rf,rh,w⟩
   skip
   obtain⟨v,ev,w⟩:=w
   obtain⟨y,ey,ry⟩:=rf.at_ i v ev
   refine Fy C.ndX (by rw[C.N];exact h1) g1 (aX e C _ h4) (Fl _) g2 pins s σ H D I ⟨y,ey,m,ρ,st,rf,rh,aa C.mono e (fun u st1 k m1 H1 x1 e1 r1 r2=>⟨m1,st1,v,u,r1,ry.mono e1,r2,qZ (fun z st2 q m2 H2 z2 e2 r3 r4=>?_) k⟩) w⟩
   exact q m2 H2 _ (e1.trans e2) r3 (((rf.mono e1).mono e2).set i r4)
 | .expr e,x,h=>by
  replace h:=BT h
  obtain⟨x,p,rfl,h⟩:=h
  ·simp only[Bool.and_eq_true] at h
   rintro pins s σ H D I ⟨m,ρ,st,rf,rh,w⟩
   skip
   exact Cs (aX e C _ h.2) (iF h.1) pins s σ H D I ⟨m,ρ,st,rf,rh,aa C.mono e (fun u st1 k m1 H1 x1 e1 r1 r2=>k m1 H1 σ e1 r1 (rf.mono e1)) w⟩
 | .ret e,x,h=>by
  replace h:=rn h
  obtain⟨o,p,rfl,h⟩:=h
  replace h:=jN h
  obtain⟨x,rfl,h⟩:=h
  ·rintro pins s σ H D I ⟨m,ρ,st,rf,rh,w⟩
   skip
   exact FP (aX e C _ h) pins s σ H D I ⟨m,ρ,st,rf,rh,w⟩
 | .retN,x,h=>by
  replace h:=rn h
  obtain⟨o,p,rfl,h⟩:=h
  replace h:=yK h
  obtain rfl:=h
  ·rintro pins s σ H D I ⟨m,ρ,st,rf,rh,w⟩
   skip
   exact CI pins s σ H D I (post.here w rh (R_non.mpr rfl))
 | .ifS t a b,x,h=>by
  replace h:=AA h
  obtain⟨x,ys,zs,p,rfl,h⟩:=h
  ·simp only[Bool.and_eq_true] at h
   obtain⟨⟨h1,h2⟩,h3⟩:=h
   rintro pins s σ H D I ⟨m,ρ,st,rf,rh,w⟩
   skip
   refine HJ (pK t C _ h1) (oY C a _ h2) (oY C b _ h3) pins s σ H D I ⟨m,ρ,st,rf,rh,aJ C.mono t (fun k st1 z m1 H1 e1 r1=>?_) w⟩
   cases k with
   | true=>rw[ML rfl] at z |-;exact⟨m1,ρ,st1,rf.mono e1,r1,aU C.mono a (AE.ext e1) z⟩
   | false=>rw[MJ MF] at z |-;exact⟨m1,ρ,st1,rf.mono e1,r1,aU C.mono b (AE.ext e1) z⟩
 | .whileS t b,x,h=>by
  replace h:=tY h
  obtain⟨x,ys,p,rfl,h⟩:=h
  ·simp only[Bool.and_eq_true] at h
   intro pins s σ H D I w
   exact AO C.pass (pK t C _ h.1) (oY C b _ h.2) pins s σ H D I (yt C.mono w)
 | .forS t it b,x,h=>by
  replace h:=yc h
  obtain⟨tg,x,ys,p,rfl,h⟩:=h
  ·simp only[Bool.and_eq_true] at h
   obtain⟨⟨⟨⟨h0,h1⟩,h2⟩,h3⟩,h4⟩:=h
   intro pins s σ H D I w
   exact F' C.pass C.calm (A0 it C _ h0 h3) (qC t C _ h2) (oY C b _ h4) (t8 h1) pins s σ H D I (DT C.mono w)
 | .forK t wk e b,x,h=>by rintro pins s σ H D I ⟨m,ρ,st,rf,rh,w⟩;exact False.elim w
 | .bad,x,h=>by
  rintro pins s σ H D I ⟨m,ρ,st,rf,rh,w⟩
  exact False.elim w
 | .set2 i j e,x,h=>by
  replace h:=o7 h
  obtain⟨ts,v,pos,rfl,h⟩:=h
  replace h:=iY h
  obtain⟨ta,tb,rfl,h⟩:=h
  replace h:=aj h
  obtain⟨x,px,rfl,h⟩:=h
  replace h:=aj h
  obtain⟨y,py,rfl,h⟩:=h
  ·simp only[Bool.and_eq_true,beq_iff_eq,Bool.not_eq_true',beq_eq_false_iff_ne] at h
   obtain⟨⟨⟨⟨⟨⟨h1,h2⟩,h3⟩,h4⟩,h5⟩,h6⟩,h7⟩:=h
   obtain⟨a1,a2⟩:=C.locx h4
   obtain⟨b1,b2⟩:=C.locx h5
   rintro pins s σ H D I ⟨m,ρ,st,rf,rh,w⟩
   skip
   refine wpAny_Assign_two (thn (aX e C _ h7 pins s σ H (fun y H1=>D.nx ((σ.set i (some y)).set j (some y)) H1) I ⟨m,ρ,st,rf,rh,aa C.mono e (fun v st1 k m1 H1 x1 e1 r1 r2=>k m1 H1 _ e1 r1 (((rf.mono e1).set i r2).set j r2)) w⟩) fun v s1 ⟨y,H1,I1,r1,q1⟩=>?_) rfl rfl
   refine PySem.wpAny_assign_Name ?_
   refine eQ I1 C.ndX (by rw[C.N];exact h1) a1 r1 (fun s2 I2=>?_) a2
   refine PySem.wpAny_assign_Name ?_
   exact eQ I2 C.ndX (by rw[C.N];exact h2) b1 r1 (fun s3 I3=>⟨_,H1,I3,q1⟩) b2
 | .pass,x,h=>by
  replace h:=wz h
  obtain⟨p,rfl⟩:=h
  ·rintro pins s σ H D I ⟨m,ρ,st,rf,rh,w⟩
   skip
   exact DH pins s σ H D I (postF.here w rh rf)
 | .brk,x,h=>by
  replace h:=yh h
  obtain⟨p,rfl⟩:=h
  ·rintro pins s σ H D I ⟨m,ρ,st,rf,rh,w⟩
   skip
   exact AW pins s σ H D I (postF.here w rh rf)
 | .cont,x,h=>by
  replace h:=wC h
  obtain⟨p,rfl⟩:=h
  ·rintro pins s σ H D I ⟨m,ρ,st,rf,rh,w⟩
   skip
   exact uq pins s σ H D I (postF.here w rh rf)
theorem oY (C:COk X c Γ):∀(e:Ss) (x:List Stmt),ax c e x=true->PSs X x (TSx X.K (au Γ e))
 | .nil,x,h=>by
  have h:x.isEmpty=true:=h
  cases x with
  | nil =>
   rintro pins s σ H D I ⟨m,ρ,st,rf,rh,w⟩
   skip
   exact DL pins s σ H D I (postF.here w rh rf)
  | cons _ _=>cases h
 | .cons e es,x,h=>by
  replace h:=aI h
  obtain⟨y,ys,rfl,h⟩:=h
  ·simp only[Bool.and_eq_true] at h
   rintro pins s σ H D I ⟨m,ρ,st,rf,rh,w⟩
   skip
   refine Bq (Kb C e _ h.1) (oY C es _ h.2) pins s σ H D I ⟨m,ρ,st,rf,rh,gh C.mono e ?_ w⟩
   exact⟨fun ρ1 st1 k m1 H1 σ1 e1 r1 f1=>⟨m1,ρ1,st1,f1,r1,aU C.mono es (AE.ext e1) k⟩,fun _ _ q=>q,fun _ _ q=>q,fun _ _ q=>q⟩
end
structure GOk (P:Program)(w:World)(K:W.Frag)(mg:Str->Option Value)(base:Heap)(c:Cfg)(Γ:Nat->FSp):Prop where
 fn:∀f x,f<c.lim->c.fns[f]?=some x->∃ps,Has P w K mg base (f+1) x ps (eN K (Γ f))
 blt:∀x∈c.blts,mg x=none
 gl:∀x v,c.gl.lookup x=some v->∃u y,mg x=some u/\RelV y u/\∀m H,R K m H v y
 mono:bu Γ
noncomputable def frame (n:Nat)(as:List PV):Fr:=as.map some++List.replicate (n-as.length) none
noncomputable def ad (st:AH)(Q:EK):aO:={ nx:=fun _ st'=>Ret st Q .non st',rt:=Ret st Q }
theorem kQ {K:W.Frag}{m:List Addr}{H:Hp}{st st':AH}{Q:VK}{v:PV}(rh:RH K m H st)(q:Ret st (post K m H Q) v st'):post K m H Q v st':=by
 rcases q with q|q
 ·exact q
 ·intro m' H' x e r s
  obtain⟨st1,q,e2,r3,r4⟩:=rV rh e r s q
  exact q m H' x e2 r3 r4
theorem tQ {K:W.Frag}{m:List Addr}{H:Hp}{N:List Str}{as:List PV}{vs:List V}(r:Rs K m H as vs):RF K m H (frame N.length as) (L2.start N vs):=by
 have hl:=r.len
 refine⟨by simp[frame,L2.start,hl],fun i v e=>?_⟩
 unfold frame at e
 unfold L2.start
 by_cases hi:i<as.length
 ·rw[M1 (by simpa using hi),MN] at e
  cases q:as[i]? with
  | none=>rw[q] at e;cases e
  | some a =>
   rw[q] at e
   cases e
   obtain⟨y,e1,r1⟩:=r.get q
   exact⟨y,by rw[M1 (by simp;omega),MN,e1];rfl,r1⟩
 ·rw[M6 (by simpa using hi),PY] at e
  split at e <;> cases e
theorem BU {P:Program}{w:World}{K:W.Frag}{mg:Str->Option Value}{base:Heap}{x:Str}{st:Stmt}{N ps:List Str}(S:ag N ps (ab st)){f:Addr}{cdv:Value}{A:Around}{outer:List Env}{s:Shared}{H:Hp}{E:XK}
  (hN:c.N=N) (hn:c.names=(ab st).names) (hr:Room c.lim (A.deeper (envOfC x (ab st) s.heap.objs.size f cdv))) (G:GOk P w K mg base c Γ)
  (lam:c.pc=true->∀ {pins:List (Addr × Obj)}{σ:L2.St}{H2:Hp}{s2:Shared}{b:Addr}{u:Value}{v:V}{Q:VK},L2.Inv (lc CX0 P w K mg base N x (ab st) f cdv A outer s H E).nox pins σ H2 s2->RelV v u->eN K (Γ 1000) [.ref b,v] H2 Q E0 ->
   W.FnAt b s2.heap/\wpAny (model P w) (lc CX0 P w K mg base N x (ab st) f cdv A outer s H E).nox.A (call (.ref b) [u]) (EP (lc CX0 P w K mg base N x (ab st) f cdv A outer s H E).nox pins σ Q) (lc CX0 P w K mg base N x (ab st) f cdv A outer s H E).nox.xe s2)
  (hmo:∀k,c.hm=some k->HmX (lc CX0 P w K mg base N x (ab st) f cdv A outer s H E).nox k) :
  COk (lc CX0 P w K mg base N x (ab st) f cdv A outer s H E).nox c Γ where
 calm:=rfl
 pass:=PassesOwn.never
 N:=hN.symm
 nd:=by rw[hN];exact S.nd
 vis:=fun y h=>by rw[hn] at h;exact h
 loc:=fun y h=>by rw[hn] at h;exact⟨h,.inl rfl⟩
 lcl:=fun y h=>by rw[hn] at h;exact h
 glb:=fun y h=>by rw[hn] at h;exact h
 bk:=by
  show Env.blockKind (envOfC x (ab st) s.heap.objs.size f cdv)=_
  unfold Env.blockKind
  show (if (ab st).kind.isAnnotationScope=true then _ else (ab st).kind)=_
  rw[S.kind]
  rfl
 cel:=fun y h=>by rw[hn] at h;exact h
 room:=hr
 fn:=G.fn
 blt:=G.blt
 gl:=G.gl
 mono:=G.mono
 lam:=lam
 hmo:=hmo
theorem Gq {P:Program}{w:World}{K:W.Frag}{mg:Str->Option Value}{base:Heap}{x:Str}{st:Stmt}{N ps:List Str}{sp:FSp}{code:Ss}(F:At K mg x st ps)(S:ag N ps (ab st))(hN:c.N=N)(hn:c.names=(ab st).names)
  (hc:ax c code (af st)=true) (G:GOk P w K mg base c Γ) (len:∀as st Q,sp as st Q->as.length=ps.length)
  (h:∀as st Q,sp as st Q->au Γ code (frame N.length as) st (ad st Q)) (hpc:c.pc=false:=by rfl) (hhm:c.hm=none:=by rfl):Has P w K mg base (c.lim+1) x ps (eN K sp):=by
 refine F.ok S (fun vs H Q E ⟨m,st,as,r1,r2,q⟩=>by rw[<-r1.len];exact len as st _ q) fun f cdv A outer s H vs Q E hr ⟨m,st',as,r1,r2,q⟩=>?_
 have C:=BU (E:=E) (H:=H) (outer:=outer) (Γ:=Γ) S hN hn hr G (fun z=>by rw[hpc] at z;cases z) fun k z=>by rw[hhm] at z;cases z
 refine⟨_,oY C code _ hc,m,frame N.length as,st',tQ r1,r2,aU G.mono code ?_ (h as st' _ q)⟩
 exact⟨fun ρ st2 k m' H' σ' e r f=>kQ r2 k m' H' .non e r (R_non.mpr rfl),fun v st2 k=>kQ r2 k,fun _ _ k=>k.elim,fun _ _ k=>k.elim⟩
end
end FW
namespace FW
open L2 HX
section
variable {P:Program}{w:World}{K:W.Frag}{mg:Str->Option Value}{base:Heap}{c c':Cfg}{Γ:Nat->FSp}
theorem GOk.next (G:GOk P w K mg base c Γ)(h1:c'.fns=c.fns)(h2:c'.lim=c.lim+1)(h3:c'.blts=c.blts)(h4:c'.gl=c.gl){x:Str}{ps:List Str}(hx:c.fns[c.lim]?=some x)(H:Has P w K mg base (c.lim+1) x ps (eN K (Γ c.lim))):GOk P w K mg base c' Γ where
 fn:=fun f y hf e=>by
  rw[h1] at e
  rw[h2] at hf
  by_cases hl:f<c.lim
  ·exact G.fn f y hl e
  ·have:f=c.lim:=by omega
   subst this
   rw[hx] at e
   cases e
   exact⟨ps,H⟩
 blt:=by rw[h3];exact G.blt
 gl:=by rw[h4];exact G.gl
 mono:=G.mono
theorem CL {x qual:Str}{st:Stmt}{f:Addr}{fd:FuncData}{N ps:List Str}{sp:FSp}{code:Ss}(F:Fun K x x st f fd)(S:ag N ps (ab st))(hN:c.N=N)(hn:c.names=(ab st).names)
  (hc:ax c code (af st)=true) (G:GOk P w K mg base c Γ) (len:∀as st Q,sp as st Q->as.length=ps.length)
  (h:∀as st Q,sp as st Q->au Γ code (frame N.length as) st (ad st Q)) (hpc:c.pc=false:=by rfl) (hhm:c.hm=none:=by rfl):pZ P w K mg base CX0 (c.lim+1) f fd ps (eN K sp):=by
 refine F.ok S (fun vs H Q E ⟨m,st,as,r1,r2,q⟩=>by rw[<-r1.len];exact len as st _ q) fun cdv A outer s H vs Q E hr ⟨m,st',as,r1,r2,q⟩=>?_
 have C:=BU (E:=E) (H:=H) (outer:=outer) (Γ:=Γ) S hN hn hr G (fun z=>by rw[hpc] at z;cases z) fun k z=>by rw[hhm] at z;cases z
 refine⟨_,oY C code _ hc,m,frame N.length as,st',tQ r1,r2,aU G.mono code ?_ (h as st' _ q)⟩
 exact⟨fun ρ st2 k m' H' σ' e r f=>kQ r2 k m' H' .non e r (R_non.mpr rfl),fun v st2 k=>kQ r2 k,fun _ _ k=>k.elim,fun _ _ k=>k.elim⟩
end
def jz:FSp:=fun as st Q=>∃ns:List Int,as=[.rdl (ns.map PV.int)]/\ns.length<=63/\∀st',Q (.bl true) st'
theorem xi {K:W.Frag}{m:List Addr}{H:Hp}:∀ {ns:List Int},Rs K m H (ns.map PV.int) (ns.map V.int)
 | []=>by rw[OH,OH,Rs_nil]
 | n::ns=>by rw[M7,M7,Rs_cons',R_int];exact⟨rfl,xi⟩
structure F1 (K:W.Frag)(h:Heap):Prop where
 at_:∀x∈aZ,∀c T,W.tabIn K x=some (c,T)->W.CodeHd h c T/\h.get? T=some (W.tabObj #[])
structure Df (K:W.Frag):Prop where
 at_:∀x∈aZ,∀c T,W.tabIn K x=some (c,T)->K.lookup T=none/\∀y∈aZ,∀d,W.tabIn K y=some (d,T)->y=x
structure nI (K:W.Frag)(mg:Str->Option Value)(base:Heap):Prop where
 hd:∀x∈aZ,∀c T,W.tabIn K x=some (c,T)->W.CodeHd base c T
 bm:∃bm ob,mg "__builtins__"=some (.ref bm)/\bm≠builtinsNs/\base.get? bm=some ob/\ob.cls=.type "module"/\ob.dict=some builtinsNs/\ob.data=.plain
theorem B9 {K:W.Frag}{H:Hp}{a:Addr}{ns:List Int}(hl:ns.length<=63)(hO:∀ys,H a≠some (.lst ys))(hS:SqL K H a (ns.map V.int))(tb:TB K H):eN K jz [.ref a] H (fun v _=>v=.bl true) fun _ _ _=>False:=by
 have hF:RdF K H a (ns.map V.int):=by
  rcases hS with (h|h)|h
  ·exact absurd h (hO _)
  ·exact .inl h
  ·exact .inr h
 refine⟨[],[],[.rdl (ns.map PV.int)],?_,⟨rfl,Q6,fun n c a h=>by simp at h,tb⟩,ns,rfl,hl,fun st' m' H' x e r s=>R_bl.mp s⟩
 rw[Rs_cons',Rs_nil,fj]
 exact⟨⟨a,_,rfl,hF,xi⟩,rfl⟩
def qI (K:W.Frag)(b:Addr):Prop:=∃x∈aZ,∃c,W.tabIn K x=some (c,b)
open Classical in
noncomputable def e7 (K:W.Frag)(a:Addr)(scr:Option HO):Hp:=fun b=>if b=a then scr else if qI K b then some (.tbl #[]) else none
theorem yA {P:Program}{w:World}{K:W.Frag}{mg mb:Str->Option Value}{k:Nat}{fa a:Addr}{fd:FuncData}{x:Str}{s₁:Shared}{vs:List Value}{ns:List Int}
  (KX:K.In s₁.heap) (hns:s₁.heap.Ns mainGlobals mg) (hb:s₁.heap.Ns builtinsNs mb) (hbb:∀x:Str,x≠"__name__"->mb x=bootBuiltins x) (hlim:s₁.heap.NoLimit) (hg:s₁.gens=#[])
  (LT:F1 K s₁.heap) (LK:Df K) (hbm:∃bm ob,mg "__builtins__"=some (.ref bm)/\bm≠builtinsNs/\s₁.heap.get? bm=some ob/\ob.cls=.type "module"/\ob.dict=some builtinsNs/\ob.data=.plain)
  (ha:s₁.heap.get? a=some { cls:=.type "list",data:=.seq vs.toArray }) (hi:IntsAre vs ns) (hl:ns.length<=63) (hr:Room k callerA)
  (F:∀base:Heap,K.In base->base.Ns mainGlobals mg->nI K mg base->pZ P w K mg base CX0 k fa fd [x] (eN K jz)) (hbind:∀(s:Shared) (u:Value),BindsTo s fd ⟨[u],[]⟩ [(x,u)]) :
  codeAny (model P w) callerA (.call (.ref fa) ⟨[.ref a],[]⟩) (fun r s'=>r=.ok (.ret (.bool true))/\OldK s₁.heap s'.heap/\s'.os=s₁.os/\AllBare s'.gens) s₁:=by
 have rv:=qz hi
 have lenV:=hi.length
 have hl2:ns.length<=sizeLine:=NI hl (by decide)
 have tabAt:∀ {b:Addr},qI K b->s₁.heap.get? b=some (W.tabObj #[]):=fun ⟨x,hx,c,e⟩=>(LT.at_ x hx c _ e).2
 have naT:¬qI K a:=fun z=>by have e:=tabAt z;rw[ha] at e;cases e
 have core:∀scr:Option HO,(∀ys,scr≠some (.lst ys))->SqL K (e7 K a scr) a (ns.map V.int)->(∀u,scr=some u->(∃o xs,u=.frz o (.lst xs))/\ObjOk P w (e7 K a scr) s₁.heap a u)->(scr≠none->K.lookup a=none) ->
   codeAny (model P w) callerA (.call (.ref fa) ⟨[.ref a],[]⟩) (fun r s'=>r=.ok (.ret (.bool true))/\OldK s₁.heap s'.heap/\s'.os=s₁.os/\AllBare s'.gens) s₁:=by
  intro scr hscr hS hso hK
  have atA:e7 K a scr a=scr:=ML rfl
  have atT:∀ {b:Addr},qI K b->e7 K a scr b=some (.tbl #[]):=fun {b} z=>by
   have:b≠a:=fun q=>naT (q ▸ z)
   exact(MJ this).trans (ML z)
  have cs:∀b,e7 K a scr b≠none->(b=a/\scr≠none)\/qI K b:=fun b z=>by
   by_cases h1:b=a
   ·exact .inl ⟨h1,by rw[h1,atA] at z;exact z⟩
   ·by_cases h2:qI K b
    ·exact .inr h2
    ·exact absurd ((MJ h1).trans (MJ h2)) z
  have hok:HOk P w (e7 K a scr) s₁.heap:=fun b u e=>by
   rcases cs b (by rw[e];simp) with⟨rfl,z⟩|z
   ·rw[atA] at e
    exact(hso u e).2
   ·rw[atT z] at e
    cases e
    exact tabAt z
  have base_of:∀ {b:Addr}{o:Obj},s₁.heap.get? b=some o->e7 K a scr b=none->(pI s₁.heap (e7 K a scr)).get? b=some o:=fun e n=>Bk e n
  have noD:∀ {b:Addr}{o:Obj},s₁.heap.get? b=some o->(∀its n,o.data≠.seq its n)->(∀qs,o.data≠.fields qs)->e7 K a scr b=none:=fun {b o} e n1 n2=>by
   cases q:e7 K a scr b with
   | none=>rfl
   | some u =>
    rcases cs b (by rw[q];simp) with⟨rfl,_⟩|z
    ·rw[ha] at e;cases e;exact absurd rfl (n1 _ _)
    ·rw[tabAt z] at e;cases e;exact absurd rfl (n2 _)
  have nsK:∀ {b:Addr}{m:Str->Option Value},s₁.heap.Ns b m->(pI s₁.heap (e7 K a scr)).Ns b m:=fun {b m} ⟨o,es,ep,e,d,r⟩=>⟨o,es,ep,base_of e (noD e (fun _ _ z=>by rw[d] at z;cases z) fun _ z=>by rw[d] at z;cases z),d,r⟩
  have hKn:∀ {b:Addr}{o:Obj},K.lookup b=some o->e7 K a scr b=none:=fun {b o} e=>by
   cases q:e7 K a scr b with
   | none=>rfl
   | some u =>
    rcases cs b (by rw[q];simp) with⟨rfl,z⟩|⟨x,hx,c,z⟩
    ·rw[hK z] at e;cases e
    ·rw[(LK.at_ x hx c _ z).1] at e;cases e
  have hKb:K.In (pI s₁.heap (e7 K a scr)):=fun b o e=>base_of (KX b o e) (hKn e)
  have hM:Mod K mg (pI s₁.heap (e7 K a scr)):=⟨hKb,nsK hns,⟨mb,nsK hb,hbb⟩,let ⟨mc,h1,h2⟩:=hlim;⟨mc,nsK h1,h2⟩⟩
  have e0:zS P w K mg (pI s₁.heap (e7 K a scr)) callerA [] s₁ (e7 K a scr):=⟨rfl,hM,fun b o e=>D8 e,Nat.le_of_eq (zj _ _),trivial,fun b hb=>absurd (show b∈([]:List Addr) from hb) (by simp),hok,.of_eq hg⟩
  have hB:nI K mg (pI s₁.heap (e7 K a scr)):=by
   refine⟨fun x hx c T e=>?_,?_⟩
   ·obtain⟨o,vs',file,tf,flags,tg,inF,text,tt,q,r⟩:=(LT.at_ x hx c T e).1
    have kc:∃oc,K.lookup c=some oc:=by
     have e':=e
     unfold W.tabIn at e'
     split at e'
     ·split at e'
      ·split at e'
       ·split at e'
        ·rename_i hh
         split at e'
         ·cases e';exact⟨_,hh⟩
         ·cases e'
        ·cases e'
       ·cases e'
      ·cases e'
     ·cases e'
    obtain⟨oc,kc⟩:=kc
    exact⟨o,vs',file,tf,flags,tg,inF,text,tt,base_of q (hKn kc),r⟩
   ·obtain⟨bm,ob,b1,b2,b3,b4,b5,b6⟩:=hbm
    exact⟨bm,ob,b1,b2,base_of b3 (noD b3 (fun _ _ z=>by rw[b6] at z;cases z) fun _ z=>by rw[b6] at z;cases z),b4,b5,b6⟩
  have tb:TB K (e7 K a scr):=fun x hx c T e=>⟨(LK.at_ x hx c T e).2,#[],atT ⟨x,hx,c,e⟩,trivial,fun pos cv q=>by cases q⟩
  refine codeAny_mono ((F _ hKb (nsK hns) hB).run callerA [] s₁ (e7 K a scr) ⟨[.ref a],[]⟩ [.ref a] [.ref a] _ _ hr e0 (hbind s₁ (.ref a)) (.cons rfl .nil) (B9 hl (by rw[atA];exact hscr) hS tb)) fun r s' h=>?_
  cases r with
  | error e=>exact False.elim h
  | ok fl =>
   cases fl with
   | next=>exact False.elim h
   | brk=>exact False.elim h
   | cont=>exact False.elim h
   | ret u =>
    obtain⟨v,H',os,bare,un,hok',r',q⟩:=h
    have q':v=.bl true:=q
    subst q'
    obtain rfl:u=Value.bool true:=r'
    refine⟨rfl,⟨fun b o e=>?_,fun b o e=>un.there b o e (by simp)⟩,os,bare⟩
    cases q:e7 K a scr b with
    | none=>exact .inl (un.keep b o e q (by intro z;exact absurd (show b∈([]:List Addr) from z) (by simp)) (by simp))
    | some u =>
     rcases cs b (by rw[q];simp) with⟨rfl,z⟩|z
     ·rw[atA] at q
      obtain⟨⟨ob,xs,rfl⟩,_⟩:=hso u q
      have z1:e7 K b scr b=some (.frz ob (.lst xs)):=by rw[atA];exact q
      have z2:=un.frzs b ob _ z1
      obtain⟨e1,_⟩:=hok b _ z1
      obtain⟨e2,_⟩:=hok' b _ z2
      rw[e] at e1;cases e1
      exact .inl e2
     ·obtain⟨more,z2⟩:=un.tbls b _ (atT z)
      have e1:=tabAt z
      rw[e] at e1
      cases e1
      have e2:s'.heap.get? b=some { cls:=.none,data:=.fields (#[]++more) }:=hok' b _ z2
      obtain⟨x,hx,c,et⟩:=z
      have ht0:=(LT.at_ x hx c b et)
      exact .inr (.inl ⟨(ht0.1.tab ht0.2).isCodeTable,rfl,#[],more,rfl,e2⟩)
 cases hk:K.lookup a with
 | some o =>
  have e:=KX a o hk
  rw[ha] at e
  cases e
  refine core none (fun _ z=>nomatch z) (.inr ⟨_,vs.toArray,_,hk,rfl,rfl,rfl,by rw[MY,lenV];exact hl2,by simpa using rv⟩) (fun u z=>nomatch z) fun z=>absurd rfl z
 | none =>
  refine core (some (.frz { cls:=.type "list",data:=.seq vs.toArray } (.lst (ns.map V.int)))) (fun _ z=>nomatch z) (.inl (.inr ⟨{ cls:=.type "list",data:=.seq vs.toArray },ML rfl⟩)) (fun u z=>?_) fun _=>hk
  cases z
  exact⟨⟨_,_,rfl⟩,ha,by rw[MS];exact hl2,vs,_,rv,ha⟩
theorem walkF {l:W.OpenLaw}{q:Program}{loose:List Str}{XP:(Str->Option Value)->Heap->Prop}{YP:World->Heap->Prop}{d:DefRec}{K:Params->W.Frag}{k:Nat}{x:Str}(hn:l.most=some 63)(hdf:d.params.defaults=[])(hr:Room k callerA)
  (hY:∀(w:World) (h:Heap),YP w h->(K w.params).In h)
  (F:∀(w:World) (mg:Str->Option Value) (fa:Addr) (h:Heap),(K w.params).In h->h.Ns mainGlobals mg->mg d.name=some (.ref fa) ->
   ∃fd:FuncData,(∀(s:Shared) (u:Value),BindsTo s fd ⟨[u],[]⟩ [(x,u)])/\Df (K w.params)/\(∀x∈aZ,W.tabIn (K w.params) x=none\/∃d,(recsOf q).find? (fun e=>e.name == x)=some d)/\∀base:Heap,(K w.params).In base->base.Ns mainGlobals mg->nI (K w.params) mg base->pZ l.prog w (K w.params) mg base CX0 k fa fd [x] (eN (K w.params) jz)) :
  W.WalkO q loose XP YP l.row.toRowW d [] (fun f vs=>PySem.call f vs):=by
 refine Att.attach_call hn hdf fun w s₀ s₁ mg mb fa o pm cd doc a vs ns G Y ho hd hcd hmg hobj hints hlen hg=>?_
 have KX:=hY w _ Y
 obtain⟨fd,hb,hK,hq,hF⟩:=F w mg fa _ KX G.T.g hmg
 refine yA KX G.T.g G.T.b G.T.builtins G.T.nolimit hg ⟨fun x hx c T e=>?_⟩ hK G.T.bmain hobj hints hlen hr hF hb
 rcases hq x hx with z|⟨d,r⟩
 ·rw[z] at e;cases e
 ·exact W.tab_of G.T KX r e
theorem Sub.refl (st:AH):Sub st st:=fun i _=>.inl rfl
theorem Sub.set {st st':AH}{n:Nat}{c:Cell}(h:Sub st st')(hc:c.bel 0=true):Sub st (st'.set n c):=fun i hi=>by
 by_cases e:n=i
 ·subst e
  by_cases hl:n<st'.length
  ·exact .inr ⟨c,M_ hl,hc⟩
  ·rw[List.set_eq_of_length_le (by exact Nat.not_lt.mp ‹_›)]
   exact h n hi
 ·rw[NK e]
  exact h i hi
theorem Tmp.same {st:AH}{Q:EK}{v:PV}(h:v.bel st.length=true)(q:Q v st):Tmp st Q v st:=⟨st,[],by simp,rfl,Sub.refl st,h,q⟩
theorem Tmp.app {st g:AH}{Q:EK}{v:PV}(h:v.bel st.length=true)(q:Q v st):Tmp st Q v (st++g):=⟨st,g,rfl,rfl,Sub.refl st,h,q⟩
theorem Ret.all {st st':AH}{Q:EK}{v:PV}(q:Q v st'):Ret st Q v st':=.inl q
theorem ar1 {P:List Value->Prop}(h:∀a,P [a])(us:List Value)(hl:us.length=1):P us:=by
 match us,hl with
 | [a],_=>exact h a
theorem ar2 {P:List Value->Prop}(h:∀a b,P [a,b])(us:List Value)(hl:us.length=2):P us:=by
 match us,hl with
 | [a,b],_=>exact h a b
theorem ar3 {P:List Value->Prop}(h:∀a b c,P [a,b,c])(us:List Value)(hl:us.length=3):P us:=by
 match us,hl with
 | [a,b,c],_=>exact h a b c
theorem ar4 {P:List Value->Prop}(h:∀a b c d,P [a,b,c,d])(us:List Value)(hl:us.length=4):P us:=by
 match us,hl with
 | [a,b,c,d],_=>exact h a b c d
theorem ar5 {P:List Value->Prop}(h:∀a b c d e,P [a,b,c,d,e])(us:List Value)(hl:us.length=5):P us:=by
 match us,hl with
 | [a,b,c,d,e],_=>exact h a b c d e
abbrev DI (K:W.Frag)(x:Str)(st:Stmt):Prop:=∃(f:Addr) (oc:Value) (od:Option Addr) (kV dc pm:Value) (an:Option Addr) (cd ct:Value) (sl:Array (Option Value)),W.nsIn K mainGlobals x=some (some (.ref f))/\K.lookup f=some ⟨oc,od,.func (W.fnOf x x (cJ st) (af st) (ab st) .none kV dc pm an cd ct),sl⟩/\W.codeIn K cd x=true/\W.keepIn K (.ref f)=true
theorem DI_mk {K:W.Frag}{x:Str}{st:Stmt}{f:Addr}{oc:Value}{od:Option Addr}{kV dc pm:Value}{an:Option Addr}{cd ct:Value}{sl:Array (Option Value)}(a:W.nsIn K mainGlobals x=some (some (.ref f)))(l:K.lookup f=some ⟨oc,od,.func (W.fnOf x x (cJ st) (af st) (ab st) .none kV dc pm an cd ct),sl⟩)(c:W.codeIn K cd x=true)(k:W.keepIn K (.ref f)=true):DI K x st:=⟨f,oc,od,kV,dc,pm,an,cd,ct,sl,a,l,c,k⟩
theorem GOk.nx {P:Program}{w:World}{K:W.Frag}{mg:Str->Option Value}{base h:Heap}{Γ:Nat->FSp}{c c':Cfg}{x:Str}{st:Stmt}{N ps:List Str}{code:Ss}{sp:FSp}(G:GOk P w K mg base c Γ)(X:K.In h)(Gn:h.Ns mainGlobals mg)(d:DI K x st)(S:ag N ps (ab st))(hc:ax c code (af st)=true)
  (len:∀ {as st Q},sp as st Q->as.length=ps.length) (hw:∀ {as st Q},sp as st Q->au Γ code (frame N.length as) st (ad st Q))
  (hb:∀(kV doc pm:Value) (an:Option Addr) (cdv ct:Value) (us:List Value),us.length=ps.length->bindArgs (W.fnOf x x (cJ st) (af st) (ab st) .none kV doc pm an cdv ct) ⟨us,[]⟩=pure (ps.zip us))
  (hN:c.N=N:=by rfl) (hn:c.names=(ab st).names:=by rfl) (hpc:c.pc=false:=by rfl) (hhm:c.hm=none:=by rfl) (h1:c'.fns=c.fns:=by rfl) (h2:c'.lim=c.lim+1:=by rfl) (h3:c'.blts=c.blts:=by rfl) (h4:c'.gl=c.gl:=by rfl) (hx:c.fns[c.lim]?=some x:=by rfl) (hs:Γ c.lim=sp:=by rfl):GOk P w K mg base c' Γ:=by
 obtain⟨f,oc,od,kV,dc,pm,an,cd,ct,sl,a,l,cc,k⟩:=d
 subst hs
 exact G.next h1 h2 h3 h4 hx (Gq (At.mk' X Gn hb a l cc k) S hN hn hc G (fun _ _ _=>len) (fun _ _ _=>hw) hpc hhm)
end FW
namespace FW
open L2 HX
section
variable {P:Program}{w:World}{K:W.Frag}{mg:Str->Option Value}{base:Heap}{c:Cfg}{Γ:Nat->FSp}
theorem Fb {x:Str}{f c0 T:Addr}{oc:Value}{od an:Option Addr}{osl:Array (Option Value)}{as:Arguments}{b:List Stmt}{sc:Scope}{dV kV doc pm ct o1:Value}{o2:Option Addr}{o3:Array (Option Value)}{vs:Array Value}
  (a:W.nsIn K mainGlobals x=some (some (.ref f))) (l:K.lookup f=some ⟨oc,od,.func (W.fnOf x x as b sc dV kV doc pm an (.ref c0) ct),osl⟩) (tc:K.lookup c0=some ⟨o1,o2,.fields vs,o3⟩) (tv:vs[11]?=some (.ref T)) :
  W.tabIn K x=some (c0,T):=by
 unfold W.tabIn
 rw[a]
 simp only[l,tc,tv]
theorem Aj {x:Str}(z:W.nsIn K mainGlobals x=some none):W.tabIn K x=none:=by
 unfold W.tabIn
 rw[z]
theorem Dn (h:∀x∈aZ,W.tabIn K x=none\/∃c T,W.tabIn K x=some (c,T)/\K.lookup T=none/\∀y∈aZ,y≠x->∀d,W.tabIn K y≠some (d,T)):Df K:=⟨fun x hx c T e=>by
 rcases h x hx with z|⟨c',T',z,n,u⟩
 ·rw[z] at e;cases e
 ·rw[z] at e
  cases e
  exact⟨n,fun y hy d ed=>MH fun q=>u y hy q d ed⟩⟩
end
end FW
namespace FW
open L2 HX
section
variable {Γ:Nat->FSp}{ρ:Fr}{st:AH}{Q:EK}{D:aO}{a b c:E}{es:Es}
noncomputable def aft (Γ:Nat->FSp)(ss:Ss)(D:aO):aO:={ D with nx:=fun ρ' st'=>au Γ ss ρ' st' D }
noncomputable def LD (I:Fr->AH->Prop)(D:aO):aO:={ nx:=I,ct:=I,bk:=D.nx,rt:=D.rt }
def Hw (Γ:Nat->FSp)(t:Tg)(b:Ss)(chk:AH->Prop)(D:aO)(xs:List PV)(ρ:Fr)(st:AH):Prop:=rJ chk (fun x ρ' st' D'=>dy Γ t x ρ' st' fun ρ2 st2=>au Γ b ρ2 st2 D') D xs ρ st
def Gb (Γ:Nat->FSp)(c:E)(b:Ss)(D:aO)(ρ:Fr)(st:AH):Prop:=∃n,eX (wpT Γ c) (au Γ b) D n ρ st
def xL (Γ:Nat->FSp)(elt:E)(tg:Tg)(ifs:Es)(chk:AH->Prop)(ρ:Fr)(xs:List PV)(st:AH)(Q:LK):Prop :=
 eI chk (fun x st2 k=>dy Γ tg x ρ st2 fun ρ' st3=>ib Γ ifs ρ' st3 fun c st4=>if c=true then wpE Γ elt ρ' st4 fun v st5=>k (some v) st5 else k none st4) xs [] st Q
theorem JW {ss:Ss}:(aft Γ ss D).nx ρ st=au Γ ss ρ st D:=rfl
theorem IV {ss:Ss}{v:PV}:(aft Γ ss D).rt v st=D.rt v st:=rfl
theorem Jr {ss:Ss}:(aft Γ ss D).bk ρ st=D.bk ρ st:=rfl
theorem Ka {ss:Ss}:(aft Γ ss D).ct ρ st=D.ct ρ st:=rfl
theorem Ix {ss:Ss}:(aft Γ ss D).rt=D.rt:=rfl
theorem KG {I:Fr->AH->Prop}:(LD I D).nx ρ st=I ρ st:=rfl
theorem KL {I:Fr->AH->Prop}:(LD I D).ct ρ st=I ρ st:=rfl
theorem Kk {I:Fr->AH->Prop}:(LD I D).bk ρ st=D.nx ρ st:=rfl
theorem Kp {I:Fr->AH->Prop}{v:PV}:(LD I D).rt v st=D.rt v st:=rfl
theorem JU {I:Fr->AH->Prop}:(LD I D).rt=D.rt:=rfl
theorem KW {st0:AH}:(ad st0 Q).nx ρ st=Ret st0 Q .non st:=rfl
theorem KI {st0:AH}{v:PV}:(ad st0 Q).rt v st=Ret st0 Q v st:=rfl
theorem IN {st0:AH}:(ad st0 Q).rt=Ret st0 Q:=rfl
theorem CA {s s2:S}{ss:Ss}:au Γ (.cons s (.cons s2 ss)) ρ st D=wpS Γ s ρ st (aft Γ (.cons s2 ss) D):=rfl
theorem IE {x:Ss}:wpS Γ (.whileS c x) ρ st D=Gb Γ c x D ρ st:=rfl
theorem Lb {t:Tg}{it:It}{x:Ss}:wpS Γ (.forS t it x) ρ st D=jJ Γ it ρ st fun xs chk st1=>Hw Γ t x chk D xs ρ st1:=rfl
theorem Jp {tg:Tg}{it:It}{ifs:Es}{nt:List Str}{caps:List Nat}:wpE Γ (.comp a tg it ifs nt caps) ρ st Q=jJ Γ it ρ st fun xs chk st1 =>
  xs.length<100000/\xL Γ a tg ifs chk (nt.map (fun _=>none)++caps.map fun i=>(ρ[i]?).join) xs st1 fun vs st2=>Q (.ref st2.length) (st2++[.lst vs]):=rfl
theorem c_ (G:bu Γ){t:Tg}{b:Ss}{chk:AH->Prop}{D:aO}(I:Nat->Fr->AH->Prop){xs:List PV}{ρ:Fr}{st:AH}(h0:I 0 ρ st)
  (hs:∀i x ρ st,xs[i]?=some x->I i ρ st->chk st/\dy Γ t x ρ st (fun ρ2 st2=>au Γ b ρ2 st2 (LD (I (i+1)) D)))
  (hd:∀ρ st,I xs.length ρ st->chk st/\D.nx ρ st):Hw Γ t b chk D xs ρ st:=by
 have key:∀(k i:Nat) (ρ:Fr) (st:AH),i+k=xs.length->I i ρ st->rJ chk (fun x ρ' st' D'=>dy Γ t x ρ' st' fun ρ2 st2=>au Γ b ρ2 st2 D') D (xs.drop i) ρ st:=by
  intro k
  induction k with
  | zero =>
   intro i ρ st hi h
   have:i=xs.length:=by assumption
   subst this
   rw[P_]
   exact hd ρ st h
  | succ k ih =>
   intro i ρ st hi h
   have hlt:i<xs.length:=by omega
   rw[NU hlt]
   obtain⟨h1,h2⟩:=hs i xs[i] ρ st (by simp[hlt]) h
   refine⟨h1,aY G t (fun ρ2 st2 k2=>aU G b ?_ k2) h2⟩
   exact⟨fun ρ3 st3 z=>ih (i+1) ρ3 st3 (by omega) z,fun _ _ z=>z,fun _ _ z=>z,fun ρ3 st3 z=>ih (i+1) ρ3 st3 (by omega) z⟩
 have:=key xs.length 0 ρ st (by exact Nat.add_comm _ _) h0
 rwa [QM] at this
theorem iS {c:Fr->AH->BK->Prop}{body:Fr->AH->aO->Prop}{D:aO}(hc:∀ρ st Q Q',(∀b st,Q b st->Q' b st)->c ρ st Q->c ρ st Q')(hb:∀ρ st D D',k9 D D'->body ρ st D->body ρ st D') :
  ∀ {n k:Nat}{ρ:Fr}{st:AH},n<=k->eX c body D n ρ st->eX c body D k ρ st
 | 0,k,ρ,st,_,h=>h.elim
 | n+1,0,ρ,st,hk,h=>absurd hk (by contradiction)
 | n+1,k+1,ρ,st,hk,h=>by
  refine hc _ _ _ _ (fun b st1 z=>?_) h
  cases b with
  | false=>exact z
  | true =>
   rw[ML rfl] at z |-
   refine hb _ _ _ _ ?_ z
   exact⟨fun _ _ z=>iS hc hb (by exact Nat.le_of_lt_succ ‹_›) z,fun _ _ z=>z,fun _ _ z=>z,fun _ _ z=>iS hc hb (by exact Nat.le_of_lt_succ ‹_›) z⟩
theorem o9 (G:bu Γ){c:E}{b:Ss}{D:aO}(I:Nat->Fr->AH->Prop){n:Nat}{ρ:Fr}{st:AH}(h0:I n ρ st)
  (hs:∀n ρ st,I n ρ st->wpT Γ c ρ st (fun k st1=>if k=true then au Γ b ρ st1 (LD (fun ρ' st'=>∃m,m<n/\I m ρ' st') D) else D.nx ρ st1)):Gb Γ c b D ρ st:=by
 have hc:∀ρ st Q Q',(∀b st,Q b st->Q' b st)->wpT Γ c ρ st Q->wpT Γ c ρ st Q':=fun _ _ _ _ hk z=>aJ G c hk z
 have hb:∀ρ st D D',k9 D D'->au Γ b ρ st D->au Γ b ρ st D':=fun _ _ _ _ hk z=>aU G b hk z
 have key:∀(k n:Nat),n<k->∀(ρ:Fr) (st:AH),I n ρ st->eX (wpT Γ c) (au Γ b) D (n+1) ρ st:=by
  intro k
  induction k with
  | zero=>intro n hn;exact absurd hn (by contradiction)
  | succ k ih =>
   intro n hn ρ st h
   refine hc _ _ _ _ (fun q st1 z=>?_) (hs n ρ st h)
   cases q with
   | false=>exact z
   | true =>
    rw[ML rfl] at z |-
    refine hb _ _ _ _ ?_ z
    exact⟨fun ρ' st' ⟨m,hm,z⟩=>iS hc hb (by assumption) (ih m (by omega) ρ' st' z),fun _ _ z=>z,fun _ _ z=>z,fun ρ' st' ⟨m,hm,z⟩=>iS hc hb (by assumption) (ih m (by omega) ρ' st' z)⟩
 exact⟨_,key (n+1) n (by exact Nat.le_refl _) ρ st h0⟩
end
section
variable {Γ:Nat->FSp}
theorem i8 (G:bu Γ){elt:E}{tg:Tg}{ifs:Es}{chk:AH->Prop}{ρ:Fr}{xs:List PV}{st:AH}{Q:LK}(I:Nat->List PV->AH->Prop)(h0:I 0 [] st)
  (hs:∀i x acc st,xs[i]?=some x->I i acc st->chk st/\dy Γ tg x ρ st fun ρ' st3=>ib Γ ifs ρ' st3 fun c st4=>if c=true then wpE Γ elt ρ' st4 fun v st5=>I (i+1) (acc++[v]) st5 else I (i+1) acc st4)
  (hd:∀acc st,I xs.length acc st->chk st/\Q acc st):xL Γ elt tg ifs chk ρ xs st Q:=by
 have key:∀(k i:Nat) (acc:List PV) (st:AH),i+k=xs.length->I i acc st->eI chk (fq Γ elt tg ifs ρ) (xs.drop i) acc st Q:=by
  intro k
  induction k with
  | zero =>
   intro i acc st hi h
   have:i=xs.length:=by assumption
   subst this
   rw[P_]
   exact hd acc st h
  | succ k ih =>
   intro i acc st hi h
   have hlt:i<xs.length:=by omega
   rw[NU hlt]
   obtain⟨h1,h2⟩:=hs i xs[i] acc st (by simp[hlt]) h
   refine⟨h1,aY G tg (fun ρ2 st2 k2=>bX G ifs (fun c st4 k4=>?_) k2) h2⟩
   cases c with
   | true=>rw[ML rfl] at k4 |-;exact aa G elt (fun v st5 z=>ih (i+1) _ st5 (by omega) z) k4
   | false=>rw[MJ MF] at k4 |-;simpa using ih (i+1) _ st4 (by omega) k4
 have:=key xs.length 0 [] st (by exact Nat.add_comm _ _) h0
 rw[QM] at this
 exact this
theorem comp_map (G:bu Γ){elt:E}{i:Nat}{chk:AH->Prop}{ρ:Fr}{xs:List PV}{st:AH}{Q:LK}(f:PV->PV)(hc:chk st)(hs:∀x∈xs,wpE Γ elt (ρ.set i (some x)) st fun v st'=>v=f x/\st'=st)(q:Q (xs.map f) st):xL Γ elt (.name i) .nil chk ρ xs st Q:=by
 refine i8 G (fun j acc s=>s=st/\acc=(xs.take j).map f) ⟨rfl,by simp⟩ ?_ ?_
 ·rintro j x acc s hx ⟨rfl,rfl⟩
  refine⟨hc,?_⟩
  simp only[nL,Fa]
  rw[ML trivial]
  refine aa G elt (fun v st5 z=>?_) (hs x (MQ hx))
  obtain⟨rfl,rfl⟩:=z
  refine⟨rfl,?_⟩
  rw[List.take_add_one,hx]
  simp
 ·rintro acc s ⟨rfl,rfl⟩
  rw[N7]
  exact⟨hc,q⟩
theorem iZ {f:PV->Bool}:∀ {xs:List PV},ie (xs.map fun x=>.bl (f x))=some (xs.map f)
 | []=>rfl
 | x::xs=>by simp only[List.map_cons,ie,iZ (xs:=xs),Option.map_some]
end
section
variable {st:AH}{Q:EK}{i j:Int}{n k:Nat}{xs ys:List PV}{x y v:PV}{b b':Bool}{s s':Str}{kB:Bool->Prop}{BQ:BK}
theorem Kx:jp .Add (.int i) (.int j) st Q=Q (.int (i+j)) st:=rfl
theorem Ku:jp .Sub (.int i) (.int j) st Q=Q (.int (i-j)) st:=rfl
theorem Lf:jp .Mult (.int i) (.int j) st Q=(CMB i j/\Q (.int (i*j)) st):=rfl
theorem KJ:jp .FloorDiv (.int i) (.int j) st Q=(CBig j/\Q (.int (i/j)) st):=rfl
theorem KO:jp .Mod (.int i) (.int j) st Q=(0<j/\Q (.int (i % j)) st):=rfl
theorem Lj:jp .Pow (.int i) (.int j) st Q=(wp i j/\Q (.int (i ^ j.toNat)) st):=rfl
theorem Jh:jp .Add (.ref n) (.ref k) st Q=∃xs ys,st[n]?=some (.lst xs)/\st[k]?=some (.lst ys)/\xs.length+ys.length<=100000/\Q (.ref st.length) (st++[.lst (xs++ys)]):=rfl
theorem JP:jp .Mult (.ref n) (.int i) st Q=∃xs,st[n]?=some (.lst xs)/\-(2 ^ 63)<=i/\i<2 ^ 63/\xs.length*i.toNat<=100000/\Q (.ref st.length) (st++[.lst (List.replicate i.toNat xs).flatten]):=rfl
theorem J3 {a b:Str}:jp .Add (.str a) (.str b) st Q=(a.length+b.length<=100000/\Q (.str (a++b)) st):=rfl
theorem Kh:jp .Add (.tup xs) (.tup ys) st Q=(xs.length+ys.length<=100000/\Q (.tup (xs++ys)) st):=rfl
theorem LU:dU .Eq x y st Q=eqW st x y fun k=>Q (.bl k) st:=rfl
theorem MA:dU .NotEq x y st Q=eqW st x y fun k=>Q (.bl (!k)) st:=rfl
theorem Kr:dU .Is x .non st Q=Q (.bl (h_ x)) st:=rfl
theorem KH:dU .Is x (.bl b) st Q=Q (.bl (m9 b x)) st:=rfl
theorem Jg:dU .IsNot x .non st Q=Q (.bl (!h_ x)) st:=rfl
theorem JE:dU .IsNot x (.bl b) st Q=Q (.bl (!m9 b x)) st:=rfl
theorem Lx:dU .Lt (.int i) (.int j) st Q=Q (.bl (decide (i<j))) st:=rfl
theorem Ml:dU .LtE (.int i) (.int j) st Q=Q (.bl (decide (i<=j))) st:=rfl
theorem LZ:dU .Gt (.int i) (.int j) st Q=Q (.bl (decide (j<i))) st:=rfl
theorem LI:dU .GtE (.int i) (.int j) st Q=Q (.bl (decide (j<=i))) st:=rfl
theorem KS:eqW st (.int i) (.int j) kB=kB (decide (i=j)):=rfl
theorem Le:eqW st (.bl b) (.bl b') kB=kB (decide (b=b')):=rfl
theorem KU:eqW st (.str s) (.str s') kB=kB (decide (s=s')):=rfl
theorem GI:h_ .non=true:=rfl
theorem GU:h_ (.bl b)=false:=rfl
theorem GG:h_ (.int i)=false:=rfl
theorem GJ:h_ (.str s)=false:=rfl
theorem GH:h_ (.tup xs)=false:=rfl
theorem GB:h_ (.ref n)=false:=rfl
theorem Iv:m9 true (.bl true)=true:=rfl
theorem Iu:m9 true (.bl false)=false:=rfl
theorem Iy:m9 false (.bl true)=false:=rfl
theorem Iz:m9 false (.bl false)=true:=rfl
theorem Hs:m9 b (.int i)=false:=rfl
theorem GX:m9 b .non=false:=rfl
theorem Hc:m9 b (.tup xs)=false:=rfl
theorem GK:aW st (.tup xs)=some xs:=rfl
theorem GE:aW st (.rdl xs)=some xs:=rfl
theorem EF:bq st (.rdl xs)=some xs:=rfl
theorem aw (h:st[n]?=some (.lst xs)):bq st (.ref n)=some xs:=by simp[bq,h]
theorem ac (h:st[n]?=some (.lst xs)):aW st (.ref n)=some xs:=by simp[aW,bq,h]
theorem GD:bS st .non=some "NoneType":=rfl
theorem Hd:bS st (.bl b)=some "bool":=rfl
theorem GC:bS st (.int i)=some "int":=rfl
theorem GL:bS st (.str s)=some "str":=rfl
theorem GN:bS st (.tup xs)=some "tuple":=rfl
theorem GF:bS st (.rdl xs)=some "list":=rfl
theorem K5 {z:Str}:ixW (.str z) (.int i) st Q=(z.length<=100000/\∃c,atI z.cps.toList i=some c/\Q (.str ⟨#[c]⟩) st):=rfl
theorem Lk:ixW (.tup xs) (.int i) st Q=∃v,atI xs i=some v/\Q v st:=propext ⟨fun ⟨ys,e,q⟩=>by cases e;exact q,fun q=>⟨xs,rfl,q⟩⟩
theorem KB:ixW (.rdl xs) (.int i) st Q=∃v,atI xs i=some v/\Q v st:=propext ⟨fun ⟨ys,e,q⟩=>by cases e;exact q,fun q=>⟨xs,rfl,q⟩⟩
theorem K0:ixW (.ref n) (.int i) st Q=∃xs,aW st (.ref n)=some xs/\∃v,atI xs i=some v/\Q v st:=rfl
theorem t_:atI (x::xs) 0=some x:=bB (j:=0) rfl
theorem tG:atI (x::y::xs) 1=some y:=bB (j:=1) rfl
theorem Ev:atI (x::y::v::xs) 2=some v:=bB (j:=2) rfl
theorem Er {u:PV}:atI (x::y::v::u::xs) 3=some u:=bB (j:=3) rfl
theorem ko:ixW (.tup (x::xs)) (.int 0) st Q=Q x st:=propext ⟨fun ⟨ys,e,w,e2,q⟩=>by cases e;rw[t_] at e2;cases e2;exact q,fun q=>⟨_,rfl,_,t_,q⟩⟩
theorem ky:ixW (.tup (x::y::xs)) (.int 1) st Q=Q y st:=propext ⟨fun ⟨ys,e,w,e2,q⟩=>by cases e;rw[tG] at e2;cases e2;exact q,fun q=>⟨_,rfl,_,tG,q⟩⟩
theorem j8:ixW (.tup (x::y::v::xs)) (.int 2) st Q=Q v st:=propext ⟨fun ⟨ys,e,w,e2,q⟩=>by cases e;rw[Ev] at e2;cases e2;exact q,fun q=>⟨_,rfl,_,Ev,q⟩⟩
theorem kU {u:PV}:ixW (.tup (x::y::v::u::xs)) (.int 3) st Q=Q u st:=propext ⟨fun ⟨ys,e,w,e2,q⟩=>by cases e;rw[Er] at e2;cases e2;exact q,fun q=>⟨_,rfl,_,Er,q⟩⟩
theorem Lg {lo hi:Option Int}:slW (.tup xs) lo hi st Q=Q (.tup (e8 xs lo hi)) st:=rfl
theorem K9 {lo hi:Option Int}:slW (.rdl xs) lo hi st Q=Q (.ref st.length) (st++[.lst (e8 xs lo hi)]):=by simp[slW,bq]
theorem KY {lo hi:Option Int}{z:Str}:slW (.str z) lo hi st Q=(z.length<=100000/\Q (.str (DJ z lo hi)) st):=rfl
theorem Kw {lo hi:Option Int}:slW (.ref n) lo hi st Q=∃xs,bq st (.ref n)=some xs/\Q (.ref st.length) (st++[.lst (e8 xs lo hi)]):=rfl
theorem JF {z:Str}:e6 .len [.str z] st Q=(z.length<=100000/\Q (.int z.length) st):=rfl
theorem L7 {a b:Str}:dU .In (.str a) (.str b) st Q=Q (.bl (!(Builtin.Str.occurrences b a 0 b.length 1).isEmpty)) st:=rfl
theorem K7:dU .In (.int i) (.tup xs) st Q=∃ns:List Int,xs=ns.map PV.int/\Q (.bl (ns.any fun j=>j == i)) st:=rfl
theorem K8:dU .NotIn (.int i) (.tup xs) st Q=∃ns:List Int,xs=ns.map PV.int/\Q (.bl (!(ns.any fun j=>j == i))) st:=rfl
theorem Kt {a:Str}:dU .In (.str a) (.tup xs) st Q=∃ns:List Str,xs=ns.map PV.str/\Q (.bl (ns.any fun j=>j == a)) st:=rfl
theorem Lc {a:Str}:dU .NotIn (.str a) (.tup xs) st Q=∃ns:List Str,xs=ns.map PV.str/\Q (.bl (!(ns.any fun j=>j == a))) st:=rfl
theorem Ja:e6 .len [.tup xs] st Q=Q (.int xs.length) st:=propext ⟨fun ⟨ys,e,q⟩=>by cases e;exact q,fun q=>⟨xs,rfl,q⟩⟩
theorem JJ:e6 .len [.rdl xs] st Q=Q (.int xs.length) st:=propext ⟨fun ⟨ys,e,q⟩=>by cases e;exact q,fun q=>⟨xs,rfl,q⟩⟩
theorem Kf:e6 .len [.ref n] st Q=∃xs,aW st (.ref n)=some xs/\Q (.int xs.length) st:=rfl
theorem Lq:e6 .max2 [.int i,.int j] st Q=Q (.int (if i<j then j else i)) st:=rfl
theorem Kz:e6 .min2 [.int i,.int j] st Q=Q (.int (if j<i then j else i)) st:=rfl
theorem Hz:e6 .divmod [.int i,.int j] st Q=(CBig j/\Q (.tup [.int (i/j),.int (i % j)]) st):=rfl
theorem J7:e6 .tuple1 [.tup xs] st Q=Q (.tup xs) st:=propext ⟨fun ⟨ys,e,q⟩=>by cases e;exact q,fun q=>⟨xs,rfl,q⟩⟩
theorem I0:e6 .tuple1 [.ref n] st Q=∃xs,aW st (.ref n)=some xs/\Q (.tup xs) st:=rfl
theorem KM:e6 .all1 [x] st Q=∃xs bs,bq st x=some xs/\ie xs=some bs/\Q (.bl (bs.all id)) st:=rfl
theorem JK:e6 .max1 [x] st Q=∃ns:List Int,bq st x=some (ns.map PV.int)/\0<ns.length/\∀i,i∈ns->(∀j,j∈ns->j<=i)->Q (.int i) st:=rfl
theorem HG:sx .insert (.ref n) [.int i,v] st Q=∃xs,st[n]?=some (.lst xs)/\xs.length<100000/\0<=i/\i<=xs.length/\Q .non (st.set n (.lst (xs.take i.toNat++v::xs.drop i.toNat))):=rfl
theorem K6:e6 .abs1 [.int i] st Q=Q (.int i.natAbs) st:=rfl
theorem Ks:sx .append (.ref n) [v] st Q=∃xs,st[n]?=some (.lst xs)/\xs.length<100000/\Q .non (st.set n (.lst (xs++[v]))):=rfl
theorem KN:sx .extend (.ref n) [.ref k] st Q=∃xs ys,st[n]?=some (.lst xs)/\st[k]?=some (.lst ys)/\xs.length+ys.length<=100000/\Q .non (st.set n (.lst (xs++ys))):=rfl
theorem L6:fE (.bl b) st BQ=BQ b st:=rfl
theorem LJ:fE .non st BQ=BQ false st:=rfl
theorem Mm:fE (.int i) st BQ=BQ (i != 0) st:=rfl
theorem LA:fE (.tup xs) st BQ=BQ (!xs.isEmpty) st:=by simp[fE,aW]
theorem Mc:fE (.ref n) st BQ=∃xs,aW st (.ref n)=some xs/\BQ (!xs.isEmpty) st:=rfl
theorem Lh {kS:AH->Prop}:uK (.ref n) (.int j) v st kS=∃xs,st[n]?=some (.lst xs)/\∃q,ixN xs.length j=some q/\kS (st.set n (.lst (xs.set q v))):=rfl
theorem JC:qb .Add (.int i) (.int j) st Q=Q (.int (i+j)) st:=rfl
theorem J':qb .Add (.ref n) (.ref k) st Q=∃xs ys,st[n]?=some (.lst xs)/\st[k]?=some (.lst ys)/\xs.length+ys.length<=100000/\Q (.ref n) (st.set n (.lst (xs++ys))):=rfl
theorem Je:qb .Sub (.int i) (.int j) st Q=Q (.int (i-j)) st:=rfl
end
theorem gm:((0:Nat):Int)=0:=rfl
theorem gA:((1:Nat):Int)=1:=rfl
theorem gC:((2:Nat):Int)=2:=rfl
theorem gL:((3:Nat):Int)=3:=rfl
theorem gR:((4:Nat):Int)=4:=rfl
theorem gY:((5:Nat):Int)=5:=rfl
theorem gT:((6:Nat):Int)=6:=rfl
theorem bc {s g:AH}{k:Nat}:(s++g)[s.length+k]?=g[k]?:=by
 rw[M6 (QQ _ _),Nat.add_sub_cancel_left]
theorem ck {s g:AH}:(s++g)[s.length]?=g[0]?:=bc (k:=0)
theorem aq {st:AH}{c:Cell}:(st++[c])[st.length]?=some c:=by simp
theorem ai {st g:AH}{n:Nat}{c:Cell}(h:st[n]?=some c):(st++g)[n]?=some c:=by
 rw[M1 (MC.mp h).1]
 exact h
theorem aK {st:AH}{n:Nat}{c:Cell}(h:st[n]?=some c):n<st.length:=(MC.mp h).1
end FW
namespace My
open PySem L2 HX FW
noncomputable def top (i:Nat):Stmt:=PySem.Challenge.pw_hourstairs_k32_whole_stairs_let_wait.main.body.getD i (.Pass ⟨0,0,0,0⟩)
theorem mD {st:AH}{v:PV}(h:v.bel st.length=true):∃n,bS st v=some n:=by
 cases v with
 | ref k =>
  rw[PV.bel] at h
  have hk:=O8 h
  have e:st[k]?=some st[k]:=MK hk
  cases q:st[k] with
  | lst xs=>exact ⟨"list",by simp [bS,e,q]⟩
  | dk xs=>exact ⟨"dict",by simp [bS,e,q]⟩
  | fz xs=>exact ⟨"dict",by simp [bS,e,q]⟩
 | fn a=>rw[PV.bel] at h;cases h
 | _=>exact⟨_,rfl⟩
noncomputable def lw:PV->Bool
 | .int _=>true
 | _=>false
theorem wM {st:AH}{v:PV}{n:String}(h:bS st v=some n):lw v=(cK "int" n && !cK "bool" n):=by
 cases v with
 | ref k =>
  unfold bS at h
  simp only at h
  split at h <;> cases h <;> rfl
 | fn a=>cases h
 | _=>cases h;rfl
noncomputable def qA:PV->Bool
 | .tup [.int n,.int d]=>decide (0<=n/\1<=d/\Nat.gcd n.natAbs d.natAbs=1)
 | _=>false
theorem vY {st:AH}{v:PV}{n:String}(h:bS st v=some n):(cK "tuple" n=true->∃xs,v=.tup xs)/\(cK "tuple" n=false->qA v=false):=by
 cases v with
 | tup xs=>cases h;exact⟨fun _=>⟨xs,rfl⟩,fun z=>absurd z (by decide)⟩
 | ref k =>
  unfold bS at h
  simp only at h
  split at h <;> cases h <;> exact⟨fun z=>absurd z (by decide),fun _=>rfl⟩
 | fn a=>cases h
 | _=>cases h;exact⟨fun z=>absurd z (by decide),fun _=>rfl⟩
theorem ur {x y:PV}:qA (.tup [x,y])=(match x,y with | .int n,.int d=>decide (0<=n/\1<=d/\Nat.gcd n.natAbs d.natAbs=1)|_,_=>false):=by
 cases x <;> cases y <;> rfl
theorem BA {xs:List PV}(hl:xs.length≠2):qA (.tup xs)=false:=by
 match xs,hl with
 | [],_=>rfl
 | [x],_=>cases x <;> rfl
 | [_,_],hl=>exact absurd rfl hl
 | x::y::_::_,_=>cases x <;> cases y <;> rfl
theorem tI {n d:Int}(h0:0<=n)(h1:1<=d):decide (((Nat.gcd n.toNat d.toNat:Nat):Int)=1)=decide (0<=n/\1<=d/\Nat.gcd n.natAbs d.natAbs=1):=by
 have e1:n.natAbs=n.toNat:=by omega
 have e2:d.natAbs=d.toNat:=by omega
 rw[e1,e2]
 simp[h0,h1]
 omega
theorem nM {n d:Nat}(h:0<d)(h2:d<2 ^ 8000):CBig (Nat.gcd n d:Nat):=by
 have h3:0<Nat.gcd n d:=Nat.gcd_pos_of_pos_right _ h
 have h4:Nat.gcd n d<=d:=Nat.gcd_le_right _ h
 refine⟨by exact Int.natCast_pos.mpr ‹_›,?_⟩
 have h5:((Nat.gcd n d:Nat):Int).natAbs=Nat.gcd n d:=rfl
 rw[h5]
 have:Nat.gcd n d<2 ^ 8000:=M4 h4 h2
 have:=(RA (by exact Nat.ne_of_gt ‹_›)).mpr this
 omega
noncomputable abbrev pc (q r:Int):Cell:=.lst [.int q,.int r]
theorem FR {q r:Int}{k:Nat}:(pc q r).bel k=true:=by simp[pc,Cell.bel,PV.bels,PV.bel]
theorem HL:wp 10 18:=⟨by decide,by decide,by decide⟩
theorem xc {j:Int}(h:0<j)(h2:j<2 ^ 200):CBig j:=CBig.of h (Int.lt_of_lt_of_le h2 (by
 have:((2:Int) ^ 200)=((2 ^ 200:Nat):Int):=by rw[QZ];rfl
 have e2:((2:Int) ^ 8999)=((2 ^ 8999:Nat):Int):=by rw[QZ];rfl
 rw[this,e2]
 exact ON.mpr (N9 (by decide) (by decide))))
theorem ip {i j:Int}(h1:-(2 ^ 64)<i)(h2:i<2 ^ 64):CMB i j:=.inr (.inl ⟨h1,h2⟩)
theorem AS {i j:Int}(h1:-(2 ^ 64)<j)(h2:j<2 ^ 64):CMB i j:=.inr (.inr ⟨h1,h2⟩)
theorem Bs {ns:List Int}{k:Nat}(h:k<ns.length):atI (ns.map PV.int) (k:Int)=some (.int (ns.getD k 0)):=by
 refine bB ?_
 rw[MN,List.getD_eq_getElem?_getD,MK h]
 rfl
theorem Ek:(10:Nat) ^ 12<2 ^ 8000:=MG (by decide:(10:Nat) ^ 12<2 ^ 64) (N9 (by decide) (by decide))
theorem DC {n d:Nat}(h:0<d):Nat.gcd (n/Nat.gcd n d) (d/Nat.gcd n d)=1:=Nat.gcd_div_gcd_div_gcd_of_pos_right h
theorem D9 {n d:Nat}(h:0<d):0<d/Nat.gcd n d:=Nat.div_pos (Nat.gcd_le_right _ h) (Nat.gcd_pos_of_pos_right _ h)
theorem wn (n d:Nat):n/Nat.gcd n d*d=n*(d/Nat.gcd n d):=by
 obtain⟨a,ha⟩:=Nat.gcd_dvd_left n d
 obtain⟨b,hb⟩:=Nat.gcd_dvd_right n d
 by_cases h:Nat.gcd n d=0
 ·rw[h,Nat.div_zero,Nat.div_zero,Nat.zero_mul,Nat.mul_zero]
 ·have e1:n/Nat.gcd n d=a:=by rw[Nat.div_eq_of_eq_mul_right (by exact Nat.pos_of_ne_zero ‹_›) ha]
  have e2:d/Nat.gcd n d=b:=by rw[Nat.div_eq_of_eq_mul_right (by exact Nat.pos_of_ne_zero ‹_›) hb]
  rw[e1,e2]
  generalize Nat.gcd n d=g at *
  subst ha hb
  rw[<-Nat.mul_assoc,P2 a g]
theorem ow {n i:Nat}{v:PV}(h:(eK 0 ((n:Int).toNat))[i]?=some v):v=.int i/\i<n:=by
 unfold eK at h
 rw[MN] at h
 have hi:i<n:=by
  by_cases hi:i<n
  ·exact hi
  ·rw[OU (by simp;exact Nat.not_lt.mp ‹_›)] at h;cases h
 rw[List.getElem?_range (by simpa using hi)] at h
 cases h
 exact⟨by simp,hi⟩
theorem qM {st:AH}{a b:Int}:pj st (.tup [.int a,.int b])=some (.tuple [.int a,.int b]):=by simp[pj,PV.toD,PV.toDs]
theorem mK (a b:Int):SeqAt.shaped (.tuple [.int a,.int b])=true:=by
 simp[SeqAt.shaped,PyData.canLay0,PyData.canLayAll0,PyData.depth,PyData.depthAll]
theorem zY (a b c d:Int):PyData.eqv (.tuple [.int a,.int b]) (.tuple [.int c,.int d])=(decide (a=c) && decide (b=d)):=by
 simp[PyData.eqv,PyData.eqvAll,Bool.beq_eq_decide_eq]
theorem BX {st:AH}{a b c d:Int}{k:Bool->Prop}(h:k (decide (a=c) && decide (b=d))):eqW st (.tup [.int a,.int b]) (.tup [.int c,.int d]) k :=
 ⟨_,_,qM,qM,mK _ _,mK _ _,by rw[zY];exact h⟩
def cB:FSp:=fun as st Q=>∃v,as=[v]/\v.bel st.length=true/\Q (.bl (lw v)) st
theorem p_ {as st Q Q'}(h:∀v st,Q v st->Q' v st)(q:cB as st Q):cB as st Q':=by obtain⟨v,e,b,q⟩:=q;exact⟨v,e,b,h _ _ q⟩
theorem r_ {as st Q}(q:cB as st Q):as.length=1:=by obtain⟨v,rfl,_⟩:=q;rfl
def aT:FSp:=fun as st Q=>∃n d:Nat,as=[.int n,.int d]/\Q (.int (Nat.gcd n d:Nat)) st
theorem jm {as st Q Q'}(h:∀v st,Q v st->Q' v st)(q:aT as st Q):aT as st Q':=by obtain⟨n,d,e,q⟩:=q;exact⟨n,d,e,h _ _ q⟩
theorem jK {as st Q}(q:aT as st Q):as.length=2:=by obtain⟨n,d,rfl,_⟩:=q;rfl
def bj:FSp:=fun as st Q=>∃v,as=[v]/\v.bel st.length=true/\Q (.bl (qA v)) st
theorem mw {as st Q Q'}(h:∀v st,Q v st->Q' v st)(q:bj as st Q):bj as st Q':=by obtain⟨v,e,b,q⟩:=q;exact⟨v,e,b,h _ _ q⟩
theorem mY {as st Q}(q:bj as st Q):as.length=1:=by obtain⟨v,rfl,_⟩:=q;rfl
noncomputable abbrev low (n d:Nat):PV:=.tup [.int (n/Nat.gcd n d:Nat),.int (d/Nat.gcd n d:Nat)]
def cA:FSp:=fun as st Q=>∃n d:Nat,as=[.int n,.int d]/\0<d/\d<2 ^ 8000/\Q (low n d) st
theorem pV {as st Q Q'}(h:∀v st,Q v st->Q' v st)(q:cA as st Q):cA as st Q':=by obtain⟨n,d,e,h1,h2,q⟩:=q;exact⟨n,d,e,h1,h2,h _ _ q⟩
theorem sE {as st Q}(q:cA as st Q):as.length=2:=by obtain⟨n,d,rfl,_⟩:=q;rfl
noncomputable abbrev fr (p:Nat × Nat):PV:=.tup [.int p.1,.int p.2]
noncomputable def aG (n d:Nat):Nat × Nat:=(n/Nat.gcd n d,d/Nat.gcd n d)
theorem y7 (n d:Nat):low n d=fr (aG n d):=rfl
theorem vZ (n d:Nat):(aG n d).1*d=n*(aG n d).2:=wn n d
theorem bF {n d:Nat}(h:0<d):0<(aG n d).2:=D9 h
theorem t3 {n d:Nat}(h:0<d):Nat.gcd (aG n d).1 (aG n d).2=1:=DC h
theorem ga (n d:Nat):(aG n d).1<=n:=Nat.div_le_self _ _
theorem fS (n d:Nat):(aG n d).2<=d:=Nat.div_le_self _ _
theorem EY {a b c d:Nat}(h1:Nat.gcd a b=1)(h2:Nat.gcd c d=1)(hb:0<b)(hd:0<d)(h:a*d=c*b):a=c/\b=d:=by
 have hbd:b ∣ d:=by
  have:b ∣ a*d:=⟨c,by rw[h,P2]⟩
  exact Nat.Coprime.dvd_of_dvd_mul_left (show Nat.Coprime b a by unfold Nat.Coprime;rw[PJ];exact h1) this
 have hdb:d ∣ b:=by
  have:d ∣ c*b:=⟨a,by rw[<-h,P2]⟩
  exact Nat.Coprime.dvd_of_dvd_mul_left (show Nat.Coprime d c by unfold Nat.Coprime;rw[PJ];exact h2) this
 have e:b=d:=Nat.dvd_antisymm hbd hdb
 subst e
 exact⟨Nat.eq_of_mul_eq_mul_right hb h,rfl⟩
noncomputable def yy (p q:Nat × Nat):Nat × Nat:=aG (p.1*q.2+q.1*p.2) (p.2*q.2)
noncomputable def rR (p q:Nat × Nat):Nat × Nat:=aG (p.1*q.2-q.1*p.2) (p.2*q.2)
noncomputable def zk (p q:Nat × Nat):Nat × Nat:=aG (p.1*q.1) (p.2*q.2)
structure Cop (p:Nat × Nat):Prop where
 pos:0<p.2
 one:Nat.gcd p.1 p.2=1
theorem Cop.low {n d:Nat}(h:0<d):Cop (aG n d):=⟨bF h,t3 h⟩
theorem Cop.ext {p q:Nat × Nat}(h1:Cop p)(h2:Cop q)(h:p.1*q.2=q.1*p.2):p=q:=by
 obtain⟨e1,e2⟩:=EY h1.one h2.one h1.pos h2.pos h
 exact Prod.ext e1 e2
theorem Cop.isFr {p:Nat × Nat}(h:Cop p):qA (fr p)=true:=by
 show qA (.tup [.int _,.int _])=true
 rw[ur]
 refine NW ⟨Int.natCast_nonneg _,ON.mpr h.pos,?_⟩
 rw[Int.natAbs_natCast,Int.natAbs_natCast]
 exact h.one
theorem BJ {p q:Nat × Nat}(hp:0<p.2)(hq:0<q.2):Cop (yy p q):=.low (NP hp hq)
theorem f' {p q:Nat × Nat}(hp:0<p.2)(hq:0<q.2):Cop (rR p q):=.low (NP hp hq)
theorem uu {p q:Nat × Nat}(hp:0<p.2)(hq:0<q.2):Cop (zk p q):=.low (NP hp hq)
structure Sz (k:Nat)(p:Nat × Nat):Prop where
 a:p.1<2 ^ k
 b:p.2<2 ^ k
 pos:0<p.2
theorem Sz.mono {j k:Nat}{p:Nat × Nat}(h:Sz j p)(hk:j<=k):Sz k p:=⟨MG h.a (N9 (by decide) hk),MG h.b (N9 (by decide) hk),h.pos⟩
theorem ay {a b j k:Nat}(h1:a<2 ^ j)(h2:b<2 ^ k):a*b<2 ^ (j+k):=by
 rw[Nat.pow_add]
 by_cases hb:b=0
 ·subst hb
  simp only[Nat.mul_zero]
  exact NP (by omega) (by assumption)
 ·exact MG (Nat.mul_lt_mul_of_pos_right h1 (by exact Nat.pos_of_ne_zero ‹_›)) (Nat.mul_le_mul_left _ (OA h2))
theorem DE {p q:Nat × Nat}{j k:Nat}(hp:Sz j p)(hq:Sz k q):Sz (j+k+1) (yy p q):=by
 have h1:=ay hp.a hq.b
 have h2:=ay hq.a hp.b
 rw[QH k j] at h2
 have h3:=ay hp.b hq.b
 have h4:(2:Nat) ^ (j+k+1)=2*2 ^ (j+k):=by rw[QT,P2]
 refine⟨M4 (ga _ _) (by omega),M4 (fS _ _) (by omega),bF (NP hp.pos hq.pos)⟩
theorem i5 {p q:Nat × Nat}{j k:Nat}(hp:Sz j p)(hq:Sz k q):Sz (j+k) (rR p q):=by
 have h1:=ay hp.a hq.b
 have h3:=ay hp.b hq.b
 refine⟨M4 (ga _ _) (by exact Nat.sub_lt_of_lt ‹_›),M4 (fS _ _) (by assumption),bF (NP hp.pos hq.pos)⟩
def Jx (p q:Nat × Nat):Prop:=p.1*q.2<q.1*p.2
noncomputable instance (p q:Nat × Nat):Decidable (Jx p q):=inferInstanceAs (Decidable (_<_))
mutual
noncomputable def aP:Nat->PV->Bool
 | _,.int _=>true
 | _,.non=>true
 | 0,.tup _=>false
 | n+1,.tup xs=>bT n xs
 | _,.bl _=>false
 | _,.str _=>false
 | _,.ref _=>false
 | _,.rdl _=>false
 | _,.fn _=>false
noncomputable def bT:Nat->List PV->Bool
 | _,[]=>true
 | n,x::xs=>aP n x && bT n xs
end
mutual
theorem iC:∀ {n:Nat}{v:PV},aP n v=true->∃d,v.toD=some d/\d.canLay0=true/\d.depth<=n+1
 | n,.int i,_=>⟨.int i,by simp[PV.toD],by simp[PyData.canLay0],by simp[PyData.depth]⟩
 | n,.non,_=>⟨.none,by simp[PV.toD],by simp[PyData.canLay0],by simp[PyData.depth]⟩
 | 0,.tup xs,h=>by simp[aP] at h
 | n+1,.tup xs,h=>by
  rw[aP] at h
  obtain⟨ds,e,h1,h2⟩:=bI h
  exact⟨.tuple ds,by simp[PV.toD,e],by simp[PyData.canLay0,h1],by simp[PyData.depth];assumption⟩
 | n,.bl _,h=>by cases n <;> simp[aP] at h
 | n,.str _,h=>by cases n <;> simp[aP] at h
 | n,.ref _,h=>by cases n <;> simp[aP] at h
 | n,.rdl _,h=>by cases n <;> simp[aP] at h
 | n,.fn _,h=>by cases n <;> simp[aP] at h
theorem bI:∀ {n:Nat}{vs:List PV},bT n vs=true->∃ds,PV.toDs vs=some ds/\PyData.canLayAll0 ds=true/\PyData.depthAll ds<=n+1
 | n,[],_=>⟨[],by simp[PV.toDs],by simp[PyData.canLayAll0],by simp[PyData.depthAll]⟩
 | n,x::xs,h=>by
  rw[bT,M3] at h
  obtain⟨d,e1,h1,h2⟩:=iC h.1
  obtain⟨ds,e2,h3,h4⟩:=bI h.2
  exact⟨d::ds,by simp[PV.toDs,e1,e2],by simp[PyData.canLayAll0,h1,h3],by simp[PyData.depthAll];omega⟩
end
mutual
theorem rc:∀ {n:Nat}{v w:PV}{d e:PyData},aP n v=true->aP n w=true->v.toD=some d->w.toD=some e->PyData.eqv d e=v.same w
 | n,.int i,w,d,e,_,hw,hd,he=>by
  simp[PV.toD] at hd
  subst hd
  cases w with
  | int j=>simp[PV.toD] at he;subst he;simp[PyData.eqv,PV.same,Bool.beq_eq_decide_eq]
  | non=>simp[PV.toD] at he;subst he;simp[PyData.eqv,PV.same]
  | tup ys =>
   cases n with
   | zero=>simp[aP] at hw
   | succ n =>
    rw[aP] at hw
    obtain⟨ds,e1,h1,h2⟩:=bI hw
    simp[PV.toD,e1] at he
    subst he
    simp[PyData.eqv,PV.same]
  | _=>cases n <;> simp[aP] at hw
 | n,.non,w,d,e,_,hw,hd,he=>by
  simp[PV.toD] at hd
  subst hd
  cases w with
  | int j=>simp[PV.toD] at he;subst he;simp[PyData.eqv,PV.same]
  | non=>simp[PV.toD] at he;subst he;simp[PyData.eqv,PV.same]
  | tup ys =>
   cases n with
   | zero=>simp[aP] at hw
   | succ n =>
    rw[aP] at hw
    obtain⟨ds,e1,h1,h2⟩:=bI hw
    simp[PV.toD,e1] at he
    subst he
    simp[PyData.eqv,PV.same]
  | _=>cases n <;> simp[aP] at hw
 | 0,.tup xs,w,d,e,hv,_,_,_=>by simp[aP] at hv
 | n+1,.tup xs,w,d,e,hv,hw,hd,he=>by
  rw[aP] at hv
  obtain⟨ds,e1,h1,h2⟩:=bI hv
  simp[PV.toD,e1] at hd
  subst hd
  cases w with
  | int j=>simp[PV.toD] at he;subst he;simp[PyData.eqv,PV.same]
  | non=>simp[PV.toD] at he;subst he;simp[PyData.eqv,PV.same]
  | tup ys =>
   rw[aP] at hw
   obtain⟨es,e2,h3,h4⟩:=bI hw
   simp[PV.toD,e2] at he
   subst he
   simp only[PyData.eqv,PV.same]
   exact pA hv hw e1 e2
  | _=>simp[aP] at hw
 | n,.bl _,_,_,_,h,_,_,_=>by cases n <;> simp[aP] at h
 | n,.str _,_,_,_,h,_,_,_=>by cases n <;> simp[aP] at h
 | n,.ref _,_,_,_,h,_,_,_=>by cases n <;> simp[aP] at h
 | n,.rdl _,_,_,_,h,_,_,_=>by cases n <;> simp[aP] at h
 | n,.fn _,_,_,_,h,_,_,_=>by cases n <;> simp[aP] at h
theorem pA:∀ {n:Nat}{vs ws:List PV}{ds es:List PyData},bT n vs=true->bT n ws=true->PV.toDs vs=some ds->PV.toDs ws=some es->PyData.eqvAll ds es=PV.sames vs ws
 | n,[],ws,ds,es,_,hw,hd,he=>by
  simp[PV.toDs] at hd
  subst hd
  cases ws with
  | nil=>simp[PV.toDs] at he;subst he;simp[PyData.eqvAll,PV.sames]
  | cons y ys =>
   obtain⟨zs,e1,h1,h2⟩:=bI hw
   rw[e1] at he
   cases he
   cases es with
   | nil =>
    rw[PV.toDs] at e1
    split at e1 <;> simp at e1
   | cons=>simp[PyData.eqvAll,PV.sames]
 | n,x::xs,ws,ds,es,hv,hw,hd,he=>by
  rw[bT,M3] at hv
  obtain⟨d1,a1,b1,c1⟩:=iC hv.1
  obtain⟨ds1,a2,b2,c2⟩:=bI hv.2
  simp[PV.toDs,a1,a2] at hd
  subst hd
  cases ws with
  | nil=>simp[PV.toDs] at he;subst he;simp[PyData.eqvAll,PV.sames]
  | cons y ys =>
   rw[bT,M3] at hw
   obtain⟨d3,a3,b3,c3⟩:=iC hw.1
   obtain⟨ds4,a4,b4,c4⟩:=bI hw.2
   simp[PV.toDs,a3,a4] at he
   subst he
   rw[PyData.eqvAll,PV.sames,rc hv.1 hw.1 a1 a3,pA hv.2 hw.2 a2 a4]
end
theorem t7 {st:AH}{v:PV}{d:PyData}(h:v.toD=some d):pj st v=some d:=by
 cases v with
 | ref n=>simp[PV.toD] at h
 | _=>exact h
theorem dP {st:AH}{n:Nat}{v w:PV}{k:Bool->Prop}(hn:n<=60)(hv:aP n v=true)(hw:aP n w=true)(h:k (v.same w)):eqW st v w k:=by
 obtain⟨d,e1,h1,h2⟩:=iC hv
 obtain⟨e,e2,h3,h4⟩:=iC hw
 have big:∃d e,pj st v=some d/\pj st w=some e/\SeqAt.shaped d=true/\SeqAt.shaped e=true/\k (PyData.eqv d e):=by
  refine⟨d,e,t7 e1,t7 e2,?_,?_,?_⟩
  ·simp[SeqAt.shaped,h1];omega
  ·simp[SeqAt.shaped,h3];omega
  ·rw[rc hv hw e1 e2];exact h
 cases v with
 | int i =>
  cases w with
  | int j =>
   show k (decide (i=j))
   simp only[PV.same,Bool.beq_eq_decide_eq] at h
   exact h
  | _=>exact big
 | bl i=>cases n <;> simp[aP] at hv
 | str i=>cases n <;> simp[aP] at hv
 | _=>exact big
mutual
theorem fo:∀(v:PV),v.same v=true
 | .non=>by simp[PV.same]
 | .bl _=>by simp[PV.same]
 | .int _=>by simp[PV.same]
 | .str _=>by simp[PV.same]
 | .ref _=>by simp[PV.same]
 | .fn _=>by simp[PV.same]
 | .tup xs=>by rw[PV.same];exact gN xs
 | .rdl xs=>by rw[PV.same];exact gN xs
theorem gN:∀(vs:List PV),PV.sames vs vs=true
 | []=>by simp[PV.sames]
 | x::xs=>by rw[PV.sames,fo x,gN xs];rfl
end
theorem ej {n:Nat}:∀ {vs:List PV},(∀v∈vs,aP n v=true)->bT n vs=true
 | [],_=>by rw[bT]
 | x::xs,h=>by rw[bT,h x (by simp),ej fun v hv=>h v (by simp[hv])];rfl
theorem qP {n:Nat}{vs:List PV}(h:∀v∈vs,aP n v=true):aP (n+1) (.tup vs)=true:=by rw[aP];exact ej h
def jb:FSp:=fun as st Q=>∃p q,as=[fr p,fr q]/\Sz 3000 p/\Sz 3000 q/\Q (fr (yy p q)) st
theorem yF {as st Q Q'}(h:∀v st,Q v st->Q' v st)(q:jb as st Q):jb as st Q':=by obtain⟨a,b,e,h1,h2,q⟩:=q;exact⟨a,b,e,h1,h2,h _ _ q⟩
theorem Cr {as st Q}(q:jb as st Q):as.length=2:=by obtain⟨n,d,rfl,_⟩:=q;rfl
def iU:FSp:=fun as st Q=>∃p q,as=[fr p,fr q]/\Sz 3000 p/\Sz 3000 q/\q.1*p.2<=p.1*q.2/\Q (fr (rR p q)) st
theorem xY {as st Q Q'}(h:∀v st,Q v st->Q' v st)(q:iU as st Q):iU as st Q':=by obtain⟨a,b,e,h1,h2,h3,q⟩:=q;exact⟨a,b,e,h1,h2,h3,h _ _ q⟩
theorem Ca {as st Q}(q:iU as st Q):as.length=2:=by obtain⟨n,d,rfl,_⟩:=q;rfl
def fZ:FSp:=fun as st Q=>∃p q,as=[fr p,fr q]/\Sz 3000 p/\Sz 3000 q/\Q (fr (zk p q)) st
theorem wP {as st Q Q'}(h:∀v st,Q v st->Q' v st)(q:fZ as st Q):fZ as st Q':=by obtain⟨a,b,e,h1,h2,q⟩:=q;exact⟨a,b,e,h1,h2,h _ _ q⟩
theorem ya {as st Q}(q:fZ as st Q):as.length=2:=by obtain⟨n,d,rfl,_⟩:=q;rfl
def cC:FSp:=fun as st Q=>∃p q,as=[fr p,fr q]/\Sz 3000 p/\Sz 3000 q/\Q (.bl (decide (p.1*q.2<q.1*p.2))) st
theorem p7 {as st Q Q'}(h:∀v st,Q v st->Q' v st)(q:cC as st Q):cC as st Q':=by obtain⟨a,b,e,h1,h2,q⟩:=q;exact⟨a,b,e,h1,h2,h _ _ q⟩
theorem si {as st Q}(q:cC as st Q):as.length=2:=by obtain⟨n,d,rfl,_⟩:=q;rfl
theorem bp {j k:Nat}(h:j<=k):(2:Nat) ^ j<=2 ^ k:=N9 (by decide) h
theorem aS {a b:Nat}(h1:a<2 ^ 3000)(h2:b<2 ^ 3000):CMB (a:Int) (b:Int):=.inl ⟨MG h1 (bp (by decide)),MG h2 (bp (by decide))⟩
theorem Fp {a b:Nat}(h1:a<2 ^ 3000)(h2:b<2 ^ 3000):a*b<2 ^ 8000:=MG (ay h1 h2) (bp (by decide))
theorem vR {p:Nat × Nat}{k:Nat}:(fr p).bel k=true:=by simp[fr,PV.bel,PV.bels]
theorem ir {st:AH}{p q:Nat × Nat}{k:Bool->Prop}(h:k (decide (p=q))):eqW st (fr p) (fr q) k:=by
 refine BX ?_
 have:(decide ((p.1:Int)=q.1) && decide ((p.2:Int)=q.2))=decide (p=q):=by
  rw[PQ]
  simp only[Bool.and_eq_true,decide_eq_true_eq]
  constructor
  ·rintro⟨h1,h2⟩;exact Prod.ext (by omega) (by omega)
  ·rintro rfl;exact⟨rfl,rfl⟩
 rw[this]
 exact h
def PK (q r:Int):Prop:=0<=q/\0<=r/\r<8589934592
def Pot (st:AH)(p:Nat):Prop:=∃q r,st[p]?=some (pc q r)/\PK q r
theorem Pot.lt {st:AH}{p:Nat}(h:Pot st p):p<st.length:=by obtain⟨q,r,e,_⟩:=h;exact aK e
theorem Pot.app {st g:AH}{p:Nat}(h:Pot st p):Pot (st++g) p:=by obtain⟨q,r,e,z⟩:=h;exact⟨q,r,ai e,z⟩
structure Gr (st:AH)(p:Nat)(st':AH):Prop where
 len:st.length<=st'.length
 old:∀i,i<st.length->i≠p->st'[i]?=st[i]?
 pot:Pot st' p
 was:p<st.length
theorem Gr.refl {st:AH}{p:Nat}(h:Pot st p):Gr st p st:=⟨MM _,fun _ _ _=>rfl,h,h.lt⟩
theorem Gr.trans {st s1 s2:AH}{p:Nat}(a:Gr st p s1)(b:Gr s1 p s2):Gr st p s2:=⟨NI a.len b.len,fun i h1 h2=>(b.old i (MG h1 a.len) h2).trans (a.old i h1 h2),b.pot,a.was⟩
theorem Gr.app {st s1 g:AH}{p:Nat}(a:Gr st p s1):Gr st p (s1++g) :=
 ⟨by rw[NF];exact NI a.len (QQ _ _),fun i h1 h2=>by rw[M1 (MG h1 a.len)];exact a.old i h1 h2,a.pot.app,a.was⟩
theorem Gr.set {st s1:AH}{p:Nat}(a:Gr st p s1){q r:Int}(z:PK q r):Gr st p (s1.set p (pc q r)) :=
 ⟨by rw[OV];exact a.len,fun i h1 h2=>by rw[NK (Ne.symm h2)];exact a.old i h1 h2,⟨q,r,M_ a.pot.lt,z⟩,a.was⟩
theorem Gr.setN {st s1:AH}{p n:Nat}{c:Cell}(a:Gr st p s1)(h:st.length<=n):Gr st p (s1.set n c):=by
 have hn:n≠p:=fun e=>by have:=a.was;omega
 refine⟨by rw[OV];exact a.len,fun i h1 h2=>by rw[NK (by omega)];exact a.old i h1 h2,?_,a.was⟩
 obtain⟨q,r,e,z⟩:=a.pot
 exact⟨q,r,by rw[NK hn];exact e,z⟩
theorem Gr.get {st s1:AH}{p n:Nat}{c:Cell}(a:Gr st p s1)(h:st[n]?=some c)(hn:n≠p):s1[n]?=some c:=(a.old n (aK h) hn).trans h
theorem Gr.tmp {st s1:AH}{p:Nat}{v:PV}{Q:EK}(a:Gr st p s1)(hv:v.bel st.length=true)(k:∀s2,Gr st p s2->s2.length=st.length->Q v s2):Tmp st Q v s1:=by
 have hl:(s1.take st.length).length=st.length:=by rw[OS];exact Nat.min_eq_left a.len
 have hg:∀i,i<st.length->(s1.take st.length)[i]?=s1[i]?:=fun i hi=>by rw[OG hi]
 obtain⟨q,r,e,z⟩:=a.pot
 refine⟨s1.take st.length,s1.drop st.length,(List.take_append_drop _ _).symm,hl,fun i hi=>?_,hv,k _ ⟨by omega,fun i h1 h2=>(hg i h1).trans (a.old i h1 h2),⟨q,r,(hg p a.was).trans e,z⟩,a.was⟩ hl⟩
 by_cases hp:i=p
 ·subst hp
  exact .inr ⟨pc q r,(hg i a.was).trans e,FR⟩
 ·exact .inl ((hg i hi).trans (a.old i hi hp))
theorem Fz:wp 10 9:=⟨by decide,by decide,by decide⟩
theorem HB:wp 10 11:=⟨by decide,by decide,by decide⟩
theorem xI {L:List PV}{P:PV->Prop}(h:∀v∈L,P v){y:Int}(y0:0<=y)(y1:y<L.length):∃v,atI L y=some v/\P v:=by
 obtain⟨m,rfl⟩:∃m:Nat,y=m:=⟨y.toNat,by omega⟩
 have hm:m<L.length:=by omega
 exact⟨L[m],bB (MK hm),h _ (NN hm)⟩
theorem Gr.ne {st s1:AH}{p:Nat}(a:Gr st p s1):s1.length≠p:=fun e=>by have:=a.pot.lt;omega
theorem eJ {xs:List PV}{v:PV}:atI (xs++[v]) (-1)=some v:=by
 have e:(-1+((xs.length:Int)+1)).toNat=xs.length:=by omega
 simp only[atI,ixN,List.length_append,List.length_singleton]
 simp
 rw[ML (by omega),e]
 simp
theorem cZ {st st':AH}{n:Nat}:bv st (.ref n) st'=(st'[n]?=st[n]?):=rfl
theorem C4 {L:List PV}:e8 L (some 1) none=L.drop 1:=by
 unfold e8
 have:=HT.sIx_nat L.length 0 1
 rw[show ((1:Nat):Int)=(1:Int) from rfl] at this
 rw[HT.sIx_none,this]
 cases L with
 | nil=>rfl
 | cons x xs =>
  have:min 1 (x::xs).length=1:=by simp only[List.length_cons];assumption
  rw[this]
  exact P5 (by simp)
theorem Cu {L:List PV}{lo hi:Option Int}{v:PV}(h:v∈e8 L lo hi):v∈L:=QD (O9 h)
theorem DM (L:List PV)(lo hi:Option Int):(e8 L lo hi).length<=L.length:=by
 unfold e8
 rw[OS,PC]
 omega
theorem JI {st:AH}{n m:Nat}{xs ys:List PV}{Q:EK}(h1:st[n]?=some (.lst xs))(h2:st[m]?=some (.lst ys))(h3:xs.length+ys.length<=100000)(q:Q (.ref st.length) (st++[.lst (xs++ys)])):jp .Add (.ref n) (.ref m) st Q:=⟨xs,ys,h1,h2,h3,q⟩
noncomputable def val (p:Nat × Nat):Rat:=(p.1:Rat)/(p.2:Rat)
theorem av {d:Nat}(h:0<d):(0:Rat)<(d:Rat):=by
 have:((0:Nat):Rat)<(d:Rat):=O2.mpr h
 simpa using this
theorem aA {n d:Nat}(h:0<d):val (aG n d)=(n:Rat)/(d:Rat):=by
 have c:=vZ n d
 have p:=bF (n:=n) h
 unfold val
 generalize aG n d=z at *
 have e:(z.1:Rat)*d=n*z.2:=by
  have:=NV (fun k:Nat=>(k:Rat)) c
  simpa using this
 have p1:=av p
 have p2:=av h
 grind
theorem aN {p:Nat × Nat}(hp:0<p.2):0<=val p:=by
 unfold val
 rw[<-QU,QN (av hp),Rat.zero_mul,QU]
 exact Rat.natCast_nonneg
theorem xq {p q:Nat × Nat}(hp:0<p.2)(hq:0<q.2):val (zk p q)=val p*val q:=by
 unfold zk
 rw[aA (NP hp hq)]
 unfold val
 have p1:=av hp
 have p2:=av hq
 simp only[Rat.natCast_mul]
 grind
theorem DX {p q:Nat × Nat}(hp:0<p.2)(hq:0<q.2):val (yy p q)=val p+val q:=by
 unfold yy
 rw[aA (NP hp hq)]
 unfold val
 have p1:=av hp
 have p2:=av hq
 simp only[Rat.natCast_mul,Rat.natCast_add]
 grind
theorem iA {p q:Nat × Nat}(hp:0<p.2)(hq:0<q.2):p.1*q.2<q.1*p.2↔val p<val q:=by
 have p1:=av hp
 have p2:=av hq
 have e:(p.1*q.2<q.1*p.2)↔((p.1:Rat)*q.2<q.1*p.2):=by
  rw[<-O2]
  simp
 rw[e]
 unfold val
 rw[QN p1]
 have e2:(q.1:Rat)/q.2*p.2=q.1*p.2/q.2:=by grind
 rw[e2,Rat.lt_div_iff p2]
theorem cI {p q:Nat × Nat}(hp:0<p.2)(hq:0<q.2):p.1*q.2<=q.1*p.2↔val p<=val q:=by
 rw[<-Nat.not_lt,<-QU,iA hq hp]
theorem ja {p q:Nat × Nat}(hp:0<p.2)(hq:0<q.2)(h:val q<=val p):val (rR p q)=val p-val q:=by
 have h':=(cI hq hp).mpr h
 unfold rR
 rw[aA (NP hp hq)]
 unfold val
 have p1:=av hp
 have p2:=av hq
 obtain⟨e,he⟩:∃e,p.1*q.2=q.1*p.2+e:=⟨p.1*q.2-q.1*p.2,by omega⟩
 have e2:p.1*q.2-q.1*p.2=e:=by omega
 rw[e2]
 have e3:(p.1:Rat)*q.2=q.1*p.2+e:=by
  have:=NV (fun k:Nat=>(k:Rat)) he
  simpa using this
 simp only[Rat.natCast_mul]
 grind
theorem ft {p q:Nat × Nat}(hp:Cop p)(hq:Cop q)(h:val p=val q):p=q:=by
 refine hp.ext hq ?_
 have a:=(cI hp.pos hq.pos).mpr (by rw[h];exact MV)
 have b:=(cI hq.pos hp.pos).mpr (by rw[h];exact MV)
 omega
theorem ao:val (0,1)=0:=by unfold val;grind
theorem kl {n:Nat}:val (n,1)=n:=by unfold val;simp;grind
structure Pc where
 e:Nat × Nat
 l:Nat × Nat
 h:Nat × Nat
noncomputable abbrev Pc.E (p:Pc):Rat:=val p.e
noncomputable abbrev Pc.L (p:Pc):Rat:=val p.l
noncomputable abbrev Pc.H (p:Pc):Rat:=val p.h
noncomputable abbrev Pc.mg (a p:Pc):Pc:=⟨p.e,a.l,p.h⟩
noncomputable def gB (b:Nat × Nat)(a p:Pc):Bool:=decide (p.l=a.h) && decide (zk (rR a.h a.l) (rR p.e a.e)=zk (rR p.h p.l) (rR a.e b))
noncomputable def aH (b:Nat × Nat)(a:Pc):List Pc->List Pc
 | []=>[a]
 | p::r=>if gB b a p=true then aH b (a.mg p) r else a::aH a.e p r
noncomputable def fR:List Pc->List Pc
 | []=>[]
 | p::r=>aH (0,1) p r
structure Pc.Ok (p:Pc):Prop where
 e:Cop p.e
 l:Cop p.l
 h:Cop p.h
noncomputable def Ch (b:Rat):List Pc->Prop
 | []=>True
 | p::r=>p.Ok/\b<p.E/\p.L<=p.H/\Ch p.E r
def Sl (b:Rat)(p:Pc)(s:Rat):Prop:=p.H-p.L=s*(p.E-b)
theorem Sl.ex {b:Rat}{p:Pc}(h:b<p.E):∃s,Sl b p s:=⟨(p.H-p.L)/(p.E-b),by unfold Sl;grind⟩
theorem oC {b:Nat × Nat}{a p:Pc}{s:Rat}(hb:Cop b)(ha:a.Ok)(hp:p.Ok)(h1:val b<=a.E)(h2:a.E<p.E)(h3:a.L<=a.H)(h4:p.L<=p.H)(hs:Sl a.E p s):gB b a p=true↔p.l=a.h/\Sl (val b) a s:=by
 have q1:=ja ha.h.pos ha.l.pos h3
 have q2:=ja hp.e.pos ha.e.pos (NB h2)
 have q3:=ja hp.h.pos hp.l.pos h4
 have q4:=ja ha.e.pos hb.pos h1
 have c1:=f' ha.h.pos ha.l.pos
 have c2:=f' hp.e.pos ha.e.pos
 have c3:=f' hp.h.pos hp.l.pos
 have c4:=f' ha.e.pos hb.pos
 have e1:=xq c1.pos c2.pos
 have e2:=xq c3.pos c4.pos
 rw[q1,q2] at e1
 rw[q3,q4] at e2
 unfold gB
 rw[M3,decide_eq_true_eq,decide_eq_true_eq]
 unfold Sl at *
 constructor
 ·rintro⟨g1,g2⟩
  refine⟨g1,?_⟩
  have:=NV val g2
  rw[e1,e2] at this
  have w:p.E-a.E≠0:=by grind
  have:(a.H-a.L-s*(a.E-val b))*(p.E-a.E)=0:=by grind
  have:=PU.mp this
  grind
 ·rintro⟨g1,g2⟩
  refine⟨g1,ft (uu c1.pos c2.pos) (uu c3.pos c4.pos) ?_⟩
  rw[e1,e2]
  grind
theorem uM {a p:Pc}(ha:a.Ok)(hp:p.Ok):(a.mg p).Ok:=⟨hp.e,ha.l,hp.h⟩
noncomputable def NG:Nat × Nat->List Pc->Prop
 | _,[]=>True
 | _,[_]=>True
 | b,a::p::r=>gB b a p=false/\NG a.e (p::r)
theorem xH:∀ {b:Nat × Nat}{a:Pc}{r:List Pc},NG b (a::r)->aH b a r=a::r
 | b,a,[],h=>rfl
 | b,a,p::r,h=>by
  rw[aH,MJ (by rw[h.1];decide),xH h.2]
theorem xT:∀ {b:Nat × Nat}{a:Pc}{r:List Pc},Cop b->a.Ok->val b<a.E->a.L<=a.H->Ch a.E r->∃e' h' r',aH b a r=⟨e',a.l,h'⟩::r'/\Cop e'/\Cop h'/\a.E<=val e'/\a.L<=val h'/\∀s,Sl (val b) a s->val h'-a.L=s*(val e'-val b)
 | b,a,[],hb,ha,h1,h3,_=>⟨a.e,a.h,[],rfl,ha.e,ha.h,MV,h3,fun s hs=>hs⟩
 | b,a,p::r,hb,ha,h1,h3,⟨hp,h2,h4,hr⟩=>by
  rw[aH]
  by_cases g:gB b a p=true
  ·rw[ML g]
   obtain⟨s,hs⟩:=Sl.ex h2
   obtain⟨g1,g2⟩:=(oC hb ha hp (NB h1) h2 h3 h4 hs).mp g
   have ev:p.L=a.H:=by unfold Pc.L Pc.H;rw[g1]
   obtain⟨e',h',r',k1,k2,k3,k4,k5,k6⟩:=xT (a:=a.mg p) hb (uM ha hp) (by show val b<p.E;grind) (by show a.L<=p.H;grind) hr
   refine⟨e',h',r',k1,k2,k3,?_,k5,fun t ht=>?_⟩
   ·show a.E<=val e'
    have:p.E<=val e':=k4
    grind
   ·refine k6 t ?_
    unfold Sl at *
    show p.H-a.L=t*(p.E-val b)
    have:(s-t)*(a.E-val b)=0:=by grind
    have:=PU.mp this
    grind
  ·rw[MJ g]
   exact⟨a.e,a.h,_,rfl,ha.e,ha.h,MV,h3,fun s hs=>hs⟩
theorem Bm:∀ {b:Nat × Nat}{a:Pc}{r:List Pc},Cop b->a.Ok->val b<=a.E->a.L<=a.H->Ch a.E r->NG b (aH b a r)
 | b,a,[],hb,ha,h1,h3,_=>trivial
 | b,a,p::r,hb,ha,h1,h3,⟨hp,h2,h4,hr⟩=>by
  rw[aH]
  by_cases g:gB b a p=true
  ·rw[ML g]
   obtain⟨s,hs⟩:=Sl.ex h2
   obtain⟨g1,g2⟩:=(oC hb ha hp h1 h2 h3 h4 hs).mp g
   have ev:p.L=a.H:=by unfold Pc.L Pc.H;rw[g1]
   exact Bm hb (uM ha hp) (by show val b<=p.E;grind) (by show a.L<=p.H;grind) hr
  ·rw[MJ g]
   have ng:=Bm (b:=a.e) (a:=p) ha.e hp (NB h2) h4 hr
   obtain⟨e',h',r',k1,k2,k3,k4,k5,k6⟩:=xT (b:=a.e) (a:=p) ha.e hp h2 h4 hr
   rw[k1] at ng |-
   refine⟨?_,ng⟩
   rw[Bool.eq_false_iff]
   intro z
   obtain⟨s,hs⟩:=Sl.ex h2
   have hs':Sl a.E ⟨e',p.l,h'⟩ s:=k6 s hs
   obtain⟨z1,z2⟩:=(oC (p:=⟨e',p.l,h'⟩) hb ha ⟨k2,hp.l,k3⟩ h1 (show a.E<val e' by grind) h3 k5 hs').mp z
   exact g ((oC hb ha hp h1 h2 h3 h4 hs).mpr ⟨z1,z2⟩)
inductive Bh:Nat × Nat->List Pc->List Pc->Prop
 | nil {b}:Bh b [] []
 | keep {b p r' r}:Bh p.e r' r->Bh b (p::r') (p::r)
 | cut {b p m c s r' r}:Cop m->Cop c->val b<val m->val m<p.E->p.L<=val c->val c<=p.H->Sl (val b) p s->val c-p.L=s*(val m-val b)->p.H-val c=s*(p.E-val m)->Bh p.e r' r->Bh b (⟨m,p.l,c⟩::⟨p.e,c,p.h⟩::r') (p::r)
noncomputable def cm (b:Rat):List Pc->Rat->Option Rat
 | [],_=>none
 | p::r,t=>if t<=p.E then some (if b=p.E then p.L else p.L+(p.H-p.L)*((t-b)/(p.E-b))) else cm p.E r t
theorem Ic {b:Rat}{a p:Pc}{r:List Pc}{t s:Rat}(h1:b<=a.E)(h2:a.E<p.E)(h0:b=a.E->a.L=a.H)(hl:p.L=a.H)(hs:Sl a.E p s)(ha:Sl b a s)(ht:b<=t):cm b (a.mg p::r) t=cm b (a::p::r) t:=by
 unfold Sl at *
 simp only[cm]
 have hb:b<p.E:=by grind
 by_cases t1:t<=p.E
 ·rw[ML t1,MJ (show ¬b=p.E by grind)]
  by_cases t2:t<=a.E
  ·rw[ML t2]
   by_cases z:b=a.E
   ·rw[ML z]
    have:t=b:=by grind
    subst this
    congr 1
    grind
   ·rw[MJ z]
    congr 1
    have:p.H-a.L=s*(p.E-b):=by grind
    have e1:(p.H-a.L)*((t-b)/(p.E-b))=s*(t-b):=by grind
    have e2:(a.H-a.L)*((t-b)/(a.E-b))=s*(t-b):=by grind
    rw[e1,e2]
  ·rw[MJ t2,ML t1,MJ (show ¬a.E=p.E by grind)]
   congr 1
   have:p.H-a.L=s*(p.E-b):=by grind
   have e1:(p.H-a.L)*((t-b)/(p.E-b))=s*(t-b):=by grind
   have e2:(p.H-p.L)*((t-a.E)/(p.E-a.E))=s*(t-a.E):=by grind
   rw[e1,e2]
   grind
 ·rw[MJ t1,MJ (show ¬t<=a.E by grind),MJ t1]
theorem Ak:∀ {r:List Pc}{b:Nat × Nat}{a:Pc}{t:Rat},Cop b->a.Ok->val b<=a.E->(val b=a.E->a.L=a.H)->a.L<=a.H->Ch a.E r->val b<=t->cm (val b) (aH b a r) t=cm (val b) (a::r) t
 | [],b,a,t,hb,ha,h1,h0,h3,_,ht=>rfl
 | p::r,b,a,t,hb,ha,h1,h0,h3,⟨hp,h2,h4,hr⟩,ht=>by
  rw[aH]
  by_cases g:gB b a p=true
  ·rw[ML g]
   obtain⟨s,hs⟩:=Sl.ex h2
   obtain⟨g1,g2⟩:=(oC hb ha hp h1 h2 h3 h4 hs).mp g
   have ev:p.L=a.H:=by unfold Pc.L Pc.H;rw[g1]
   rw[Ak hb (uM ha hp) (by show val b<=p.E;grind) (by show val b=p.E->a.L=p.H;grind) (by show a.L<=p.H;grind) hr ht]
   exact Ic h1 h2 h0 ev hs g2 ht
  ·rw[MJ g]
   by_cases t1:t<=a.E
   ·simp only[cm,if_pos t1]
   ·have e1:∀X:List Pc,cm (val b) (a::X) t=cm a.E X t:=fun X=>by simp only[cm,if_neg t1]
    rw[e1,e1]
    exact Ak ha.e hp (NB h2) (fun z=>by grind) h4 hr (by grind)
noncomputable def Rt (b hh:Rat):List Pc->Prop
 | []=>True
 | p::r=>p.Ok/\b<p.E/\hh<=p.L/\p.L<=p.H/\p.E<=p.H/\Rt p.E p.H r
theorem Rt.ch:∀ {r:List Pc}{b hh:Rat},Rt b hh r->Ch b r
 | [],_,_,_=>trivial
 | p::r,b,hh,⟨h1,h2,h3,h4,h5,h6⟩=>⟨h1,h2,h4,h6.ch⟩
noncomputable def RtF:List Pc->Prop
 | []=>True
 | p::r=>p.Ok/\p.L<=p.H/\p.E<=p.H/\(0=p.E->p.L=p.H)/\Rt p.E p.H r
theorem Bl:∀ {r:List Pc}{b:Nat × Nat}{a:Pc}{hh:Rat},Cop b->a.Ok->val b<a.E->hh<=a.L->a.L<=a.H->a.E<=a.H->Rt a.E a.H r->Rt (val b) hh (aH b a r)
 | [],b,a,hh,hb,ha,h1,h2,h3,h4,_=>⟨ha,h1,h2,h3,h4,trivial⟩
 | p::r,b,a,hh,hb,ha,h1,h2,h3,h4,⟨hp,k1,k2,k3,k4,hr⟩=>by
  rw[aH]
  by_cases g:gB b a p=true
  ·rw[ML g]
   exact Bl hb (uM ha hp) (by show val b<p.E;grind) h2 (by show a.L<=p.H;grind) k4 hr
  ·rw[MJ g]
   exact⟨ha,h1,h2,h3,h4,Bl ha.e hp k1 k2 k3 k4 hr⟩
theorem qU:Cop (0,1):=⟨by decide,by decide⟩
theorem AV:∀ {r:List Pc}{a:Pc},a.Ok->a.L<=a.H->a.E<=a.H->(0=a.E->a.L=a.H)->Rt a.E a.H r->RtF (aH (0,1) a r)
 | [],a,ha,h1,h2,h3,_=>⟨ha,h1,h2,h3,trivial⟩
 | p::r,a,ha,h1,h2,h3,⟨hp,k1,k2,k3,k4,hr⟩=>by
  have e0:0<=a.E:=aN ha.e.pos
  rw[aH]
  by_cases g:gB (0,1) a p=true
  ·rw[ML g]
   exact AV (uM ha hp) (by show a.L<=p.H;grind) k4 (by show 0=p.E->a.L=p.H;grind) hr
  ·rw[MJ g]
   exact⟨ha,h1,h2,h3,Bl ha.e hp k1 k2 k3 k4 hr⟩
theorem uf {L:List Pc}(h:RtF L):RtF (fR L):=by
 cases L with
 | nil=>trivial
 | cons a r=>exact AV h.1 h.2.1 h.2.2.1 h.2.2.2.1 h.2.2.2.2
theorem tj {L:List Pc}(h:RtF L):NG (0,1) (fR L):=by
 cases L with
 | nil=>trivial
 | cons a r =>
  have e0:0<=a.E:=aN h.1.e.pos
  exact Bm qU h.1 (by rw[ao];exact e0) h.2.1 h.2.2.2.2.ch
theorem AJ {L:List Pc}(h:NG (0,1) L):fR L=L:=by
 cases L with
 | nil=>rfl
 | cons a r=>exact xH h
theorem fV {L:List Pc}{t:Rat}(h:RtF L)(ht:0<=t):cm 0 (fR L) t=cm 0 L t:=by
 cases L with
 | nil=>rfl
 | cons a r =>
  have e0:0<=a.E:=aN h.1.e.pos
  have:=Ak (t:=t) qU h.1 (by rw[ao];exact e0) (by rw[ao];exact h.2.2.2.1) h.2.1 h.2.2.2.2.ch (by rw[ao];exact ht)
  rw[ao] at this
  exact this
theorem Bn {as st Q Q'}(h:∀v st,Q v st->Q' v st)(q:jz as st Q):jz as st Q':=by obtain⟨n,e,h1,q⟩:=q;exact⟨n,e,h1,fun z=>h _ _ (q z)⟩
theorem C_ {as st Q}(q:jz as st Q):as.length=1:=by obtain⟨n,rfl,_⟩:=q;rfl
noncomputable abbrev pcV (p:Pc):PV:=.tup [fr p.e,fr p.l,fr p.h]
noncomputable abbrev a8 (L:List Pc):PV:=.tup (L.map pcV)
structure Pc.Sz (k:Nat)(p:Pc):Prop where
 e:My.Sz k p.e
 l:My.Sz k p.l
 h:My.Sz k p.h
def SzL (k:Nat)(L:List Pc):Prop:=∀p∈L,p.Sz k
theorem Pc.Sz.mono {j k:Nat}{p:Pc}(h:p.Sz j)(hk:j<=k):p.Sz k:=⟨h.e.mono hk,h.l.mono hk,h.h.mono hk⟩
theorem SzL.mono {j k:Nat}{L:List Pc}(h:SzL j L)(hk:j<=k):SzL k L:=fun p hp=>(h p hp).mono hk
noncomputable def LOk:List Pc->Prop
 | []=>True
 | p::r=>p.Ok/\p.L<=p.H/\Ch p.E r
theorem RtF.lok {L:List Pc}(h:RtF L):LOk L:=by
 cases L with
 | nil=>trivial
 | cons a r=>exact⟨h.1,h.2.1,h.2.2.2.2.ch⟩
noncomputable abbrev Un3:=Nat × Nat × Nat
noncomputable def RU (b hh:Nat):List Un3->Prop
 | []=>True
 | u::r=>b<u.1/\hh<=u.2.1/\u.2.1<=u.2.2/\u.1<=u.2.2/\RU u.1 u.2.2 r
noncomputable def RUF:List Un3->Prop
 | []=>True
 | u::r=>u.2.1<=u.2.2/\u.1<=u.2.2/\(u.1=0->u.2.1=u.2.2)/\RU u.1 u.2.2 r
def BdU (N:Nat)(U:List Un3):Prop:=∀u∈U,u.1<=N/\u.2.1<=N/\u.2.2<=N
structure App (U:List Un3)(u:Un3):Prop where
 fst:U=[]->u.2.1<=u.2.2/\u.1<=u.2.2/\(u.1=0->u.2.1=u.2.2)
 nxt:∀v,U.getLast?=some v->v.1<u.1/\v.2.2<=u.2.1/\u.2.1<=u.2.2/\u.1<=u.2.2
noncomputable abbrev b8 (d:Nat)(u:Un3):Pc:=⟨aG u.1 d,aG u.2.1 d,aG u.2.2 d⟩
abbrev Mo (s:FSp):Prop:=∀ {as:List PV}{st:AH}{Q Q':EK},(∀v st,Q v st->Q' v st)->s as st Q->s as st Q'
abbrev Ln (s:FSp)(n:Nat):Prop:=∀ {as:List PV}{st:AH}{Q:EK},s as st Q->as.length=n
local macro_rules | `(tactic| walk_at "MO")=>`(tactic| (intro as st Q Q' h q;repeat (first|exact h _ _ q|(obtain ⟨a,q⟩:=q;first|refine Exists.intro a ?_|refine And.intro a ?_)|(intro a;replace q:=q a))))
local macro_rules | `(tactic| walk_at "LN")=>`(tactic| (intro as st Q q;repeat (obtain ⟨a,q⟩:=q;try exact congrArg List.length a)))
def eU:FSp:=fun as st Q=>∃b a p,as=[fr b,pcV a,pcV p]/\Sz 1400 b/\a.Sz 1400/\p.Sz 1400/\val b<=a.E/\a.E<p.E/\a.L<=a.H/\p.L<=p.H/\Q (.bl (gB b a p)) st
theorem s_:Mo eU:=by walk_at "MO"
theorem tZ:Ln eU 3:=by walk_at "LN"
def j6:FSp:=fun as st Q=>∃L,as=[a8 L]/\SzL 1400 L/\LOk L/\L.length<20000/\Q (a8 (fR L)) st
theorem ym:Mo j6:=by walk_at "MO"
theorem Ad:Ln j6 1:=by walk_at "LN"
noncomputable def uj:Option (Nat × Nat)->PV
 | none=>.non
 | some p=>fr p
noncomputable def bgx (L:List Pc):Nat->Nat × Nat
 | 0=>(0,1)
 | i+1=>((L[i]?).map Pc.e).getD (0,1)
noncomputable def stB (L:List Pc):Bool:=@decide (NG (0,1) L) (Classical.propDecidable _)
def cM:FSp:=fun as st Q=>∃p q:Nat × Nat,as=[fr p,fr q]/\Sz 3000 p/\Sz 3000 q/\Q (.int ((p.1:Int)*q.2-q.1*p.2)) st
theorem oy:Mo cM:=by walk_at "MO"
theorem pX:Ln cM 2:=by walk_at "LN"
def bQ:FSp:=fun as st Q=>∃(a b c d m:Nat) (nx ny fx fy x:Nat × Nat),as=[.tup [fr nx,fr ny],.tup [fr fx,fr fy],fr x]/\a+b+c+d+m+2<=2900/\(Sz a nx/\Sz b ny/\Sz c fx/\Sz d fy/\Sz m x)/\(val nx<val fx/\val nx<=val x/\val x<=val fx)/\∀r,Cop r->Sz (a+b+c+d+m+2) r->val r=val ny+(val fy-val ny)*((val x-val nx)/(val fx-val nx))->Q (fr r) st
theorem lF:Mo bQ:=by walk_at "MO"
theorem m5:Ln bQ 3:=by walk_at "LN"
def bC:FSp:=fun as st Q=>∃(L:List Pc) (i:Nat),as=[a8 L,.int i]/\i<=L.length/\Q (fr (bgx L i)) st
theorem ke:Mo bC:=by walk_at "MO"
theorem lJ:Ln bC 2:=by walk_at "LN"
def fU:FSp:=fun as st Q=>∃(j m:Nat) (L:List Pc) (i:Nat) (p:Pc) (t:Nat × Nat),as=[a8 L,.int i,fr t]/\(1<=j/\m+4*j+2<=2900)/\RtF L/\SzL j L/\L[i]?=some p/\Cop t/\Sz m t/\val (bgx L i)<=val t/\val t<=p.E/\∀r,Cop r->Sz (m+4*j+2) r->val r=(if val (bgx L i)=p.E then p.L else p.L+(p.H-p.L)*((val t-val (bgx L i))/(p.E-val (bgx L i))))->Q (fr r) st
theorem uT:Mo fU:=by walk_at "MO"
theorem wF:Ln fU 3:=by walk_at "LN"
def kP:FSp:=fun as st Q=>∃L,as=[a8 L]/\Q (uj (L.getLast?.map Pc.e)) st
theorem y_:Mo kP:=by walk_at "MO"
theorem As:Ln kP 1:=by walk_at "LN"
def cW:FSp:=fun as st Q=>∃(p:Nat) (many:Int),as=[.ref p,.int many]/\Pot st p/\0<many/\many<2 ^ 200/\∀x st',0<=x->x<many->Gr st p st'->Q (.int x) st'
theorem nU:Mo cW:=by walk_at "MO"
theorem pD:Ln cW 2:=by walk_at "LN"
def dw:FSp:=fun as st Q=>∃(ns:List Int) (k:Nat),as=[.rdl (ns.map .int),.int k]/\k<9/\∀q r,PK q r->Q (.ref st.length) (st++[pc q r])
theorem pQ:Mo dw:=by walk_at "MO"
theorem rF:Ln dw 2:=by walk_at "LN"
def bN:FSp:=fun as st Q=>∃n d:Nat,as=[.int n,.int d]/\0<d/\d<2 ^ 8000/\Q (low n d) st
theorem lr:Mo bN:=by walk_at "MO"
theorem nD:Ln bN 2:=by walk_at "LN"
noncomputable abbrev iV (n:Nat):PV:=.int n
def cP:FSp:=fun as st Q=>∃p:Nat,as=[.ref p]/\Pot st p/\∀(d:Nat) st',0<d->d<=10 ^ 11->Gr st p st'->Q (.int d) st'
theorem o6:Mo cP:=by walk_at "MO"
theorem qc:Ln cP 1:=by walk_at "LN"
structure Stz (k n:Nat)(L:List Pc):Prop where
 rt:RtF L
 ng:NG (0,1) L
 sz:SzL k L
 ln:L.length<=n
noncomputable def Mp (A B:List Pc)(t:Rat):Option Rat:=(cm 0 A t).bind (cm 0 B)
def dz:FSp:=fun as st Q=>∃p:Pc,as=[pcV p]/\p.Ok/\Q (.bl true) st
theorem pY:Mo dz:=by walk_at "MO"
theorem sh:Ln dz 1:=by walk_at "LN"
def bh:FSp:=fun as st Q=>∃p:Pc,as=[pcV p]/\p.Sz 1400/\p.L<=p.H/\p.E<=p.H/\Q (.bl true) st
theorem jr:Mo bh:=by walk_at "MO"
theorem jY:Ln bh 1:=by walk_at "LN"
def bf:FSp:=fun as st Q=>∃p:Pc,as=[pcV p]/\p.Ok/\(0=p.E->p.L=p.H)/\Q (.bl true) st
theorem jj:Mo bf:=by walk_at "MO"
theorem jO:Ln bf 1:=by walk_at "LN"
def a6:FSp:=fun as st Q=>∃a p:Pc,as=[pcV a,pcV p]/\a.Sz 1400/\p.Sz 1400/\a.E<p.E/\a.H<=p.L/\Q (.bl true) st
theorem iq:Mo a6:=by walk_at "MO"
theorem ji:Ln a6 2:=by walk_at "LN"
def fY:FSp:=fun as st Q=>∃L:List Pc,as=[a8 L]/\RtF L/\SzL 1400 L/\L.length<10000/\Q (.bl true) st
theorem tK:Mo fY:=by walk_at "MO"
theorem wu:Ln fY 1:=by walk_at "LN"
def dC:FSp:=fun as st Q=>∃L:List Pc,as=[a8 L]/\RtF L/\NG (0,1) L/\SzL 1400 L/\L.length<10000/\Q (.bl true) st
theorem pH:Mo dC:=by walk_at "MO"
theorem sP:Ln dC 1:=by walk_at "LN"
def eZ:FSp:=fun as st Q=>∃(j m:Nat) (L:List Pc) (t:Nat × Nat),as=[a8 L,fr t]/\(1<=j/\m+4*j+2<=2900)/\RtF L/\SzL j L/\Sz m t/\L.length<10000/\∀o,(∀p,o=some p->Sz (m+4*j+2) p)->cm 0 L (val t)=o.map val->Q (uj o) st
theorem sY:Mo eZ:=by walk_at "MO"
theorem uk:Ln eZ 2:=by walk_at "LN"
structure Ends (k:Nat)(T:List (Nat × Nat)):Prop where
 sr:T.Pairwise fun a b=>val a<val b
 ok:∀t∈T,Cop t/\Sz k t
noncomputable def bgT (T:List (Nat × Nat)):Nat->Nat × Nat
 | 0=>(0,1)
 | i+1=>(T[i]?).getD (0,1)
noncomputable abbrev Two:=(Nat × Nat) × (Nat × Nat)
noncomputable def cV:Option Two->PV
 | none=>.non
 | some c=>.tup [fr c.1,fr c.2]
structure SegOk (S:List Pc)(a e:Rat)(c:Two):Prop where
 cl:Cop c.1
 ch:Cop c.2
 le:val c.1<=val c.2
 at_:cm 0 S e=some (val c.2)
 zero:a=e->c.1=c.2
 mid:∀t,a<t->t<=e->cm 0 S t=some (val c.1+(val c.2-val c.1)*((t-a)/(e-a)))
noncomputable def mE (S:List Pc)(z:Nat)(a e:Rat):Option Two->Prop
 | none=>∀t,a<t\/t=e->cm 0 S t=none
 | some c=>SegOk S a e c/\Sz z c.1/\Sz z c.2
def f_:FSp:=fun as st Q=>∃(k n m:Nat) (T1 T2:List (Nat × Nat)),as=[.ref n,.ref m]/\k<=1400/\st[n]?=some (.lst (T1.map fr))/\st[m]?=some (.lst (T2.map fr))/\Ends k T1/\Ends k T2/\T1.length+T2.length<=20000/\∀(T:List (Nat × Nat)) (g:AH) (r:Nat),(st++g)[r]?=some (.lst (T.map fr))->Ends k T->(∀t,t∈T↔t∈T1\/t∈T2)->T.length<=T1.length+T2.length->Q (.ref r) (st++g)
theorem t5:Mo f_:=by walk_at "MO"
theorem vJ:Ln f_ 2:=by walk_at "LN"
def fT:FSp:=fun as st Q=>∃(j m:Nat) (S:List Pc) (n:Nat) (T:List (Nat × Nat)),as=[a8 S,.ref n]/\(1<=j/\m+4*j+2<=2900)/\RtF S/\SzL j S/\st[n]?=some (.lst (T.map fr))/\Ends m T/\T[0]?=some (0,1)/\(∀p∈S,p.e∈T)/\S.length<=10000/\T.length<=20000/\∀(C:List (Option Two)) (g:AH) (r:Nat),(st++g)[r]?=some (.lst (C.map cV))->C.length=T.length->(∀(k:Nat) c,C[k]?=some c->mE S (m+4*j+2) (val (bgT T k)) (val (bgT T (k+1))) c)->Q (.ref r) (st++g)
theorem uQ:Mo fT:=by walk_at "MO"
theorem ww:Ln fT 2:=by walk_at "LN"
noncomputable abbrev ldV (l:List Nat):PV:=.tup (l.map iV)
noncomputable def ldr (x y:Rat):List Nat:=if x=y then [0,1] else if x<y then [0] else [1]
def eR:FSp:=fun as st Q=>∃p q:Nat × Nat,as=[fr p,fr q]/\Cop p/\Cop q/\Sz 2900 p/\Sz 2900 q/\Q (ldV (ldr (val p) (val q))) st
theorem sD:Mo eR:=by walk_at "MO"
theorem uP:Ln eR 2:=by walk_at "LN"
def fX:FSp:=fun as st Q=>∃l l':List Nat,as=[ldV l,ldV l']/\l.length<=2/\Q (ldV (l.filter fun w=>l'.contains w)) st
theorem tM:Mo fX:=by walk_at "MO"
theorem v8:Ln fX 2:=by walk_at "LN"
def iw:FSp:=fun as st Q=>∃(k:Nat) (p q:Nat × Nat),as=[fr p,fr q]/\k<=1400/\Cop p/\Cop q/\Sz k p/\Sz k q/\∀r,Cop r->Sz (k+k) r->(val p<val q/\val r=val q-val p)\/(val q<=val p/\val r=val p-val q)->Q (fr r) st
theorem vA:Mo iw:=by walk_at "MO"
theorem xW:Ln iw 2:=by walk_at "LN"
def Lin (d k:Nat)(f:Rat->Option Rat):Prop:=∀e y,0<=e->f e=some y->∃(P Q:Nat) (R:Int) (x:Rat),(0<Q/\Q<2 ^ k/\P<2 ^ k)/\x<e/\∀t z,0<=t->x<t->t<=e->f t=some z->(d:Rat)*Q*z=P*d*t+R
structure SegF (f:Rat->Option Rat)(a e:Rat)(c:Two):Prop where
 cl:Cop c.1
 ch:Cop c.2
 le:val c.1<=val c.2
 at_:f e=some (val c.2)
 zero:a=e->c.1=c.2
 mid:∀t,a<t->t<=e->f t=some (val c.1+(val c.2-val c.1)*((t-a)/(e-a)))
noncomputable def les (A B:List Pc)(t:Rat):Option Rat:=match cm 0 A t with
 | none=>cm 0 B t
 | some x=>match cm 0 B t with
  | none=>some x
  | some y=>some (if x<=y then x else y)
structure Stl (d k e v n:Nat)(L:List Pc):Prop where
 rt:RtF L
 ng:NG (0,1) L
 en:∀p∈L,Sz e p.e
 lin:Lin d k (cm 0 L)
 hi:∀t y,0<=t->cm 0 L t=some y->y<=2 ^ v
 ln:L.length<=n
structure HY (d D k e e' v n:Nat):Prop where
 d0:0<d
 dD:d<2 ^ D
 e1:1<=e
 ee:e<=e'
 de:D+2*k+v<=e'
 r1:6*(D+k+e+v)+2*e+4<=2900
 r2:2*(D+k+e+v)+2*e+e'+2<=2900
 r3:D+k+e'+v<=1400
 nn:n<=2000
noncomputable abbrev Pw:=Pc × List Nat
noncomputable abbrev q2V (q:Pw):PV:=.tup [fr q.1.e,fr q.1.l,fr q.1.h,ldV q.2]
def HR (A B:List Pc)(a:Rat)(e:Nat × Nat)(w:Nat)(R:List Pw):Prop :=
 (∃q v,R=[(q,v)]/\q.e=e/\SegF (les A B) a (val e) (q.l,q.h))\/∃q1 q2 v1 v2,R=[(q1,v1),(q2,v2)]/\q2.e=e/\a<q1.E/\q1.E<val e/\Cop q1.e/\Sz w q1.e/\SegF (les A B) a q1.E (q1.l,q1.h)/\SegF (les A B) q1.E (val e) (q2.l,q2.h)
abbrev Crs (m y:Two):Prop:=(val m.1<val y.1/\val y.2<val m.2)\/(val y.1<val m.1/\val m.2<val y.2)
noncomputable abbrev crM (a e:Rat)(m y:Two):Rat:=a+(e-a)*((val m.1-val y.1)/(val m.1-val y.1+(val y.2-val m.2)))
def eS:FSp:=fun as st Q=>∃(k z w:Nat) (a e:Nat × Nat) (m y:Two),as=[fr a,fr e,cV (some m),cV (some y)]/\(1<=k/\6*z+2*k+4<=2900/\2*z+2*k+w+2<=2900)/\(Cop a/\Cop e/\Sz k a/\Sz k e)/\(Cop m.1/\Cop m.2/\Cop y.1/\Cop y.2)/\(Sz z m.1/\Sz z m.2/\Sz z y.1/\Sz z y.2)/\val a<val e/\Crs m y/\(∀r,Cop r->val r=crM (val a) (val e) m y->Sz w r)/\∀(r co:Nat × Nat),Cop r->Sz w r->val r=crM (val a) (val e) m y->Cop co->val co=val m.1+(val m.2-val m.1)*((val r-val a)/(val e-val a))->Q (.ref st.length) (st++[.lst ([(⟨r,if val m.1<val y.1 then m.1 else y.1,co⟩,[if val m.1<val y.1 then 0 else 1]),(⟨e,co,if val m.1<val y.1 then y.2 else m.2⟩,[if val m.1<val y.1 then 1 else 0])].map q2V)])
theorem sU:Mo eS:=by walk_at "MO"
theorem uY:Ln eS 4:=by walk_at "LN"
def aV:FSp:=fun as st Q=>∃(k z w:Nat) (A B:List Pc) (a e:Nat × Nat) (mi yo:Option Two),as=[fr a,fr e,cV mi,cV yo]/\(1<=k/\6*z+2*k+4<=2900/\2*z+2*k+w+2<=2900)/\(Cop a/\Cop e/\Sz k a/\Sz k e)/\val a<=val e/\mE A z (val a) (val e) mi/\mE B z (val a) (val e) yo/\(mi=none->yo≠none)/\(∀m y,mi=some m->yo=some y->val a<val e->Crs m y->∀r,Cop r->val r=crM (val a) (val e) m y->Sz w r)/\∀(R:List Pw) (g:AH) (n:Nat),(st++g)[n]?=some (.lst (R.map q2V))->HR A B (val a) e w R->R.length<=2->Q (.ref n) (st++g)
theorem hV:Mo aV:=by walk_at "MO"
theorem iI:Ln aV 4:=by walk_at "LN"
def dv:FSp:=fun as st Q=>∃(d D k e e' v n:Nat) (A B:List Pc),as=[a8 A,a8 B]/\HY d D k e e' v n/\Stl d k e v n A/\Stl d k e v n B/\∀(Z:List Pw) (g:AH) (r:Nat),(st++g)[r]?=some (.lst (Z.map q2V))->RtF (Z.map Prod.fst)->(∀t,0<=t->cm 0 (Z.map Prod.fst) t=les A B t)->(∀q∈Z,Sz e' q.1.e)->Z.length<=4*n+2->Q (.ref r) (st++g)
theorem qj:Mo dv:=by walk_at "MO"
theorem sI:Ln dv 2:=by walk_at "LN"
def f6:FSp:=fun as st Q=>∃(d D k e e' v n:Nat) (A B:List Pc),as=[a8 A,a8 B]/\HY d D k e e' v n/\Stl d k e v n A/\Stl d k e v n B/\∀R,Stl d k e' v (4*n+2) R->(∀t,0<=t->cm 0 R t=les A B t)->Q (a8 R) st
theorem u5:Mo f6:=by walk_at "MO"
theorem w4:Ln f6 2:=by walk_at "LN"
structure Rr where
 F:Rat
 L:Rat
 C:Rat
 D:Rat
structure Rr.Ok (r:Rr):Prop where
 fl:r.F<=r.L
 fc:r.F<=r.C
 ld:r.L<=r.D
 eq:r.F=r.L->r.C=r.D
def Rr.has (r:Rr)(t:Rat):Prop:=r.F<=t/\t<=r.L
noncomputable def Rr.to (r:Rr)(t:Rat):Rat:=if r.F=r.L then r.C else r.C+(r.D-r.C)*((t-r.F)/(r.L-r.F))
structure Rq where
 f:Nat × Nat
 l:Nat × Nat
 c:Nat × Nat
 d:Nat × Nat
noncomputable abbrev rqV (q:Rq):PV:=.tup [fr q.f,fr q.l,fr q.c,fr q.d]
noncomputable abbrev Rq.r (q:Rq):Rr:=⟨val q.f,val q.l,val q.c,val q.d⟩
structure FE (j:Nat)(q:Rq):Prop where
 cf:Cop q.f
 cl:Cop q.l
 cc:Cop q.c
 cd:Cop q.d
 zf:Sz j q.f
 zl:Sz j q.l
 zc:Sz j q.c
 zd:Sz j q.d
 ok:q.r.Ok
noncomputable def IsOff (X:List Rr)(t:Rat):Option Rat->Prop
 | none=>∀r∈X,¬r.has t
 | some y=>(∃r∈X,r.has t/\r.to t=y)/\∀r∈X,r.has t->y<=r.to t
noncomputable def IsOut (X:List Rr)(t:Rat):Option (Rat × Rat)->Prop
 | none=>∀r∈X,r.L<t
 | some p=>t<=p.1/\(∃r∈X,r.has p.1/\r.to p.1=p.2)/\∀r∈X,∀v,t<=v->r.has v->p.2<=r.to v/\(r.to v=p.2->p.1<=v)
noncomputable abbrev Fr2:=(Nat × Nat) × (Nat × Nat)
noncomputable abbrev f2V (p:Fr2):PV:=.tup [fr p.1,fr p.2]
noncomputable def o2V:Option Fr2->PV
 | none=>.non
 | some p=>f2V p
noncomputable abbrev v2 (p:Fr2):Rat × Rat:=(val p.1,val p.2)
structure Rd where
 f:Nat
 l:Nat
 c:Nat
 d:Nat
noncomputable abbrev rdV (r:Rd):PV:=.tup [.int r.f,.int r.l,.int r.c,.int r.d]
noncomputable abbrev Rd.r (r:Rd):Rr:=⟨r.f,r.l,r.c,r.d⟩
noncomputable abbrev Rd.q (e:Nat)(r:Rd):Rq:=⟨aG r.f e,aG r.l e,aG r.c e,aG r.d e⟩
structure RideN (f l c d:Nat):Prop where
 fl:f<=l
 fc:f<=c
 ld:l<=d
 eq:f=l->c=d
 big:d<130000000000
 bigc:c<130000000000
 bigl:l<130000000000
abbrev nX (r:Rd):Prop:=RideN r.f r.l r.c r.d
def RN (v:PV):Prop:=∃f l c d:Nat,v=.tup [.int f,.int l,.int c,.int d]/\RideN f l c d
def RNs (L:List PV):Prop:=∀v∈L,RN v
structure Pts (ns:List Int):Prop where
 ge:2<=ns.length
 le:ns.length<=6
 nn:∀x∈ns,0<=x/\x<10 ^ 11
 up:ns.Pairwise (·< ·)
def bU:FSp:=fun as st Q=>∃p:Nat,as=[.ref p]/\Pot st p/\∀n ns st',Gr st p st'->st.length<=n->st'[n]?=some (.lst (ns.map PV.int))->Pts ns->Q (.ref n) st'
theorem mq:Mo bU:=by walk_at "MO"
theorem nq:Ln bU 1:=by walk_at "LN"
def cQ:FSp:=fun as st Q=>∃p:Nat,as=[.ref p]/\Pot st p/\∀x st',0<=x->x<10 ^ 9->Gr st p st'->Q (.int x) st'
theorem on:Mo cQ:=by walk_at "MO"
theorem qt:Ln cQ 1:=by walk_at "LN"
def cN:FSp:=fun as st Q=>∃(p n:Nat) (ns:List Int),as=[.ref p,.ref n]/\Pot st p/\st[n]?=some (.lst (ns.map PV.int))/\n≠p/\Pts ns/\∀v st',RN v->Gr st p st'->Q v st'
theorem oR:Mo cN:=by walk_at "MO"
theorem p9:Ln cN 2:=by walk_at "LN"
def b_:FSp:=fun as st Q=>∃(p n:Nat) (ns:List Int),as=[.ref p,.ref n]/\Pot st p/\st[n]?=some (.lst (ns.map PV.int))/\n≠p/\ns.length<=6/\(∀x∈ns,0<=x/\x<10 ^ 11)/\(∀i x y,ns[i]?=some x->ns[i+1]?=some y->x<y)/\∀m L st',Gr st p st'->st.length<=m->st'[m]?=some (.lst L)->RNs L->L.length<=ns.length-1->Q (.ref m) st'
theorem nw:Mo b_:=by walk_at "MO"
theorem nO:Ln b_ 2:=by walk_at "LN"
def ci:FSp:=fun as st Q=>∃p:Nat,as=[.ref p]/\Pot st p/\∀m L st',Gr st p st'->st.length<=m->st'[m]?=some (.lst L)->RNs L->L.length<=5->Q (.ref m) st'
theorem nv:Mo ci:=by walk_at "MO"
theorem oq:Ln ci 1:=by walk_at "LN"
def bP:FSp:=fun as st Q=>∃(p n e:Nat) (R:List Rd),as=[.ref p,.ref n,.int e]/\Pot st p/\st[n]?=some (.lst (R.map rdV))/\n≠p/\(∀r∈R,nX r)/\R.length<=20/\0<e/\e<=10 ^ 11/\∀(M:List Rd) st',Gr st p st'->M.Perm R->Q (.tup (M.map fun r=>rqV (r.q e))) st'
theorem ly:Mo bP:=by walk_at "MO"
theorem na:Ln bP 3:=by walk_at "LN"
def cj:FSp:=fun as st Q=>∃(r:Rd) (t:Nat × Nat),as=[rdV r,fr t]/\nX r/\Sz 400 t/\r.r.has (val t)/\∀p,Sz 500 p->val p=r.r.to (val t)->Q (fr p) st
theorem nC:Mo cj:=by walk_at "MO"
theorem oQ:Ln cj 2:=by walk_at "LN"
def dE:FSp:=fun as st Q=>∃(n:Nat) (R:List Rd) (t:Nat × Nat),as=[.ref n,fr t]/\st[n]?=some (.lst (R.map rdV))/\(∀r∈R,nX r)/\Sz 400 t/\∀o:Option (Nat × Nat),(∀p,o=some p->Sz 500 p)->IsOff (R.map Rd.r) (val t) (o.map val)->Q (uj o) st
theorem pJ:Mo dE:=by walk_at "MO"
theorem rC:Ln dE 2:=by walk_at "LN"
def dA:FSp:=fun as st Q=>∃(n:Nat) (R:List Rd) (t:Nat × Nat),as=[.ref n,.bl true,fr t]/\st[n]?=some (.lst (R.map rdV))/\(∀r∈R,nX r)/\R.length<=20/\Sz 400 t/\∀o:Option Fr2,(∀p,o=some p->Sz 500 p.1/\Sz 500 p.2)->IsOut (R.map Rd.r) (val t) (o.map v2)->Q (o2V o) st
theorem pF:Mo dA:=by walk_at "MO"
theorem rL:Ln dA 3:=by walk_at "LN"
def WtF (X:List Rr)(f:Rat->Option Rat):Prop:=∀t,0<=t->∃o,IsOut X t o/\f t=o.map Prod.snd
def iK:FSp:=fun as st Q=>∃(k:Nat) (q:Rq),as=[rqV q]/\k<=2900/\FE k q/\∀b:Bool,(b=true↔q.r.D<q.r.C)->Q (.bl b) st
theorem wN:Mo iK:=by walk_at "MO"
theorem zy:Ln iK 1:=by walk_at "LN"
def bi:FSp:=fun as st Q=>∃(d:Nat) (r:Rd),as=[rqV (r.q d)]/\nX r/\0<d/\d<=10 ^ 11/\∀W,Stl d 38 150 37 2 W->WtF [(r.q d).r] (cm 0 W)->Q (a8 W) st
theorem jT:Mo bi:=by walk_at "MO"
theorem ka:Ln bi 1:=by walk_at "LN"
def du:FSp:=fun as st Q=>∃(d:Nat) (M:List Rd),as=[.tup (M.map fun r=>rqV (r.q d)),.bl true]/\(∀r∈M,nX r)/\M.length<=5/\0<d/\d<=10 ^ 11/\∀S,Stl d 38 150 37 2730 S->WtF (M.map fun r=>(r.q d).r) (cm 0 S)->Q (a8 S) st
theorem pG:Mo du:=by walk_at "MO"
theorem sF:Ln du 2:=by walk_at "LN"
structure StW (d:Nat)(R:List Rd)(S:List Pc):Prop where
 d0:0<d
 d1:d<=10 ^ 11
 ok:∀r∈R,nX r
 ln:R.length<=5
 st:Stl d 38 150 37 2730 S
 wt:WtF (R.map fun r=>(r.q d).r) (cm 0 S)
def bn:FSp:=fun as st Q=>∃(n d:Nat) (R:List Rd) (S:List Pc) (t:Nat × Nat),as=[a8 S,.ref n,.int d,fr t]/\st[n]?=some (.lst (R.map rdV))/\StW d R S/\Sz 303 t/\Q (.bl true) st
theorem jQ:Mo bn:=by walk_at "MO"
theorem kw:Ln bn 4:=by walk_at "LN"
def bG:FSp:=fun as st Q=>∃(n d:Nat) (R:List Rd) (S:List Pc),as=[a8 S,.ref n,.int d]/\st[n]?=some (.lst (R.map rdV))/\StW d R S/\∀(T:List (Nat × Nat)) (g:AH) (r:Nat),(st++g)[r]?=some (.lst (T.map fr))->(∀t∈T,Sz 303 t)->Q (.ref r) (st++g)
theorem kY:Mo bG:=by walk_at "MO"
theorem mo:Ln bG 3:=by walk_at "LN"
noncomputable abbrev a9:PV:=(.tup [(.int 0),(.int 1)])
noncomputable def Γ:Nat->FSp
 | 0=>cB
 | 1=>aT
 | 2=>bj
 | 3=>cA
 | 4=>jb
 | 5=>iU
 | 6=>fZ
 | 7=>cC
 | 8=>cM
 | 9=>bQ
 | 10=>dz
 | 11=>bh
 | 12=>bf
 | 13=>a6
 | 14=>fY
 | 15=>eU
 | 16=>j6
 | 17=>dC
 | 18=>bC
 | 19=>fU
 | 20=>kP
 | 21=>f_
 | 22=>fT
 | 23=>eR
 | 24=>fX
 | 25=>iw
 | 26=>eS
 | 27=>aV
 | 28=>dv
 | 29=>f6
 | 30=>iK
 | 31=>bi
 | 32=>du
 | 33=>dw
 | 34=>cW
 | 35=>bN
 | 36=>bU
 | 37=>cQ
 | 38=>cN
 | 39=>b_
 | 40=>ci
 | 41=>cP
 | 42=>bP
 | 43=>cj
 | 44=>dE
 | 45=>dA
 | 46=>eZ
 | 47=>bn
 | 48=>bG
 | 49=>jz
 | _=>fun _ _ _=>False
theorem Γ_0:Γ 0=cB:=id rfl
theorem Γ_1:Γ 1=aT:=id rfl
theorem Γ_2:Γ 2=bj:=id rfl
theorem Γ_3:Γ 3=cA:=id rfl
theorem Γ_4:Γ 4=jb:=id rfl
theorem Γ_5:Γ 5=iU:=id rfl
theorem Γ_6:Γ 6=fZ:=id rfl
theorem Γ_7:Γ 7=cC:=id rfl
theorem Γ_8:Γ 8=cM:=id rfl
theorem Γ_9:Γ 9=bQ:=id rfl
theorem Ls:Γ 10=dz:=id rfl
theorem Mb:Γ 11=bh:=id rfl
theorem L3:Γ 12=bf:=id rfl
theorem LY:Γ 13=a6:=id rfl
theorem LO:Γ 14=fY:=id rfl
theorem Mn:Γ 15=eU:=id rfl
theorem Mg:Γ 16=j6:=id rfl
theorem Mq:Γ 17=dC:=id rfl
theorem L':Γ 18=bC:=id rfl
theorem Mj:Γ 19=fU:=id rfl
theorem Ma:Γ 20=kP:=id rfl
theorem Lu:Γ 21=f_:=id rfl
theorem Md:Γ 22=fT:=id rfl
theorem LR:Γ 23=eR:=id rfl
theorem Mx:Γ 24=fX:=id rfl
theorem Ms:Γ 25=iw:=id rfl
theorem LE:Γ 26=eS:=id rfl
theorem LF:Γ 27=aV:=id rfl
theorem L5:Γ 28=dv:=id rfl
theorem Mf:Γ 29=f6:=id rfl
theorem LM:Γ 30=iK:=id rfl
theorem L4:Γ 31=bi:=id rfl
theorem Mh:Γ 32=du:=id rfl
theorem Mz:Γ 33=dw:=id rfl
theorem Lv:Γ 34=cW:=id rfl
theorem L_:Γ 35=bN:=id rfl
theorem Lz:Γ 36=bU:=id rfl
theorem L1:Γ 37=cQ:=id rfl
theorem Ly:Γ 38=cN:=id rfl
theorem LC:Γ 39=b_:=id rfl
theorem LV:Γ 40=ci:=id rfl
theorem LX:Γ 41=cP:=id rfl
theorem LP:Γ 42=bP:=id rfl
theorem Mu:Γ 43=cj:=id rfl
theorem LG:Γ 44=dE:=id rfl
theorem Me:Γ 45=dA:=id rfl
theorem Mi:Γ 46=eZ:=id rfl
theorem Mr:Γ 47=bn:=id rfl
theorem Lw:Γ 48=bG:=id rfl
theorem LW:Γ 49=jz:=id rfl
theorem Γm:bu Γ:=by
 intro f vs st Q Q' h q
 match f,q with
 | 0,q=>exact p_ (st:=st) h q
 | 1,q=>exact jm (st:=st) h q
 | 2,q=>exact mw (st:=st) h q
 | 3,q=>exact pV (st:=st) h q
 | 4,q=>exact yF (st:=st) h q
 | 5,q=>exact xY (st:=st) h q
 | 6,q=>exact wP (st:=st) h q
 | 7,q=>exact p7 (st:=st) h q
 | 8,q=>exact oy (st:=st) h q
 | 9,q=>exact lF (st:=st) h q
 | 10,q=>exact pY (st:=st) h q
 | 11,q=>exact jr (st:=st) h q
 | 12,q=>exact jj (st:=st) h q
 | 13,q=>exact iq (st:=st) h q
 | 14,q=>exact tK (st:=st) h q
 | 15,q=>exact s_ (st:=st) h q
 | 16,q=>exact ym (st:=st) h q
 | 17,q=>exact pH (st:=st) h q
 | 18,q=>exact ke (st:=st) h q
 | 19,q=>exact uT (st:=st) h q
 | 20,q=>exact y_ (st:=st) h q
 | 21,q=>exact t5 (st:=st) h q
 | 22,q=>exact uQ (st:=st) h q
 | 23,q=>exact sD (st:=st) h q
 | 24,q=>exact tM (st:=st) h q
 | 25,q=>exact vA (st:=st) h q
 | 26,q=>exact sU (st:=st) h q
 | 27,q=>exact hV (st:=st) h q
 | 28,q=>exact qj (st:=st) h q
 | 29,q=>exact u5 (st:=st) h q
 | 30,q=>exact wN (st:=st) h q
 | 31,q=>exact jT (st:=st) h q
 | 32,q=>exact pG (st:=st) h q
 | 33,q=>exact pQ (st:=st) h q
 | 34,q=>exact nU (st:=st) h q
 | 35,q=>exact lr (st:=st) h q
 | 36,q=>exact mq (st:=st) h q
 | 37,q=>exact on (st:=st) h q
 | 38,q=>exact oR (st:=st) h q
 | 39,q=>exact nw (st:=st) h q
 | 40,q=>exact nv (st:=st) h q
 | 41,q=>exact o6 (st:=st) h q
 | 42,q=>exact ly (st:=st) h q
 | 43,q=>exact nC (st:=st) h q
 | 44,q=>exact pJ (st:=st) h q
 | 45,q=>exact pF (st:=st) h q
 | 46,q=>exact sY (st:=st) h q
 | 47,q=>exact jQ (st:=st) h q
 | 48,q=>exact kY (st:=st) h q
 | 49,q=>exact Bn (st:=st) h q
 | _+50,q=>exact q.elim
noncomputable def J4:List Str:=((["is_whole","common_divisor","is_fraction","fraction","plus","less","times","is_below","crosswise","on_straight","is_piece","is_right_alone","is_right_first","is_right_behind","is_row","goes_on","lean","is_stair","beginning_of","height","last","merged","cut_at","leaders","common","apart","crossed","compared_between","compared","lesser"]:List Str)++(["falls","waiting_stair","stair_of","_law_pot","_law_take","_law_moment","_law_points","_law_late","_law_ride","_law_chain","_law_rides","_law_part","_law_handed","_law_comes","_law_raw","_law_due","_law_on","_law_comes_so","_law_moments","law"]:List Str))
noncomputable def Fh:List Str:=["isinstance","bool","int","len","tuple","all","zip","enumerate","abs","max","divmod","range","sorted","set","min"]
noncomputable def glL:List (Str × PV):=[("NOUGHT",a9)]
noncomputable def mkc (N:List Str)(s:Stmt)(k:Nat):Cfg:={ N:=N,names:=(ab s).names,fns:=J4,lim:=k,blts:=Fh,gl:=glL }
local macro_rules | `(tactic| walk_at "SC")=>`(tactic| exact ⟨rfl,rfl,rfl,by decide +kernel,rfl,by decide +kernel,by decide +kernel⟩)
noncomputable abbrev gw:Stmt:=top 4
theorem uh:ag ["thing"] ["thing"] (ab gw):=by walk_at "SC"
noncomputable def oi:Cfg:=mkc ["thing"] gw 0
noncomputable def fL:Ss:=(.cons (.ret (.bop true (.cons (.inst (.var 0) "int") (.cons (.not (.inst (.var 0) "bool")) .nil)))) .nil)
theorem wQ:ax oi fL (af gw)=true:=by decide +kernel
noncomputable abbrev bV:Stmt:=top 5
theorem kG:ag ["n","d"] ["n","d"] (ab bV):=by walk_at "SC"
noncomputable def f7:Cfg:=mkc ["n","d"] bV 1
noncomputable def bZ:Ss:=(.cons (.whileS (.cmp .NotEq (.var 1) (.int 0)) (.cons (.par 0 1 (.var 1) (.bin .Mod (.var 0) (.var 1))) .nil)) (.cons (.ret (.var 0)) .nil))
theorem lP:ax f7 bZ (af bV)=true:=by decide +kernel
noncomputable abbrev dh:Stmt:=top 6
theorem nS:ag ["thing","n","d"] ["thing"] (ab dh):=by walk_at "SC"
noncomputable def ju:Cfg:=mkc ["thing","n","d"] dh 2
noncomputable def db:Ss:=(.cons (.ifS (.bop false (.cons (.not (.inst (.var 0) "tuple")) (.cons (.cmp .NotEq (.blt .len (.cons (.var 0) .nil)) (.int 2)) .nil))) (.cons (.ret (.bl false)) .nil) .nil) (.cons (.set (.tup (.cons (.name 1) (.cons (.name 2) .nil))) (.var 0)) (.cons (.ifS (.bop false (.cons (.not (.call 0 (.cons (.var 1) .nil))) (.cons (.not (.call 0 (.cons (.var 2) .nil))) .nil))) (.cons (.ret (.bl false)) .nil) .nil) (.cons (.ret (.bop true (.cons (.cmp .GtE (.var 1) (.int 0)) (.cons (.cmp .GtE (.var 2) (.int 1)) (.cons (.cmp .Eq (.call 1 (.cons (.var 1) (.cons (.var 2) .nil))) (.int 1)) .nil))))) .nil))))
theorem qa:ax ju db (af dh)=true:=by decide +kernel
noncomputable abbrev gG:Stmt:=top 7
theorem uB:ag ["n","d","divisor"] ["n","d"] (ab gG):=by walk_at "SC"
noncomputable def oB:Cfg:=mkc ["n","d","divisor"] gG 3
noncomputable def fB:Ss:=(.cons (.set (.name 2) (.call 1 (.cons (.var 0) (.cons (.var 1) .nil)))) (.cons (.ret (.tup (.cons (.bin .FloorDiv (.var 0) (.var 2)) (.cons (.bin .FloorDiv (.var 1) (.var 2)) .nil)))) .nil))
theorem wX:ax oB fB (af gG)=true:=by decide +kernel
noncomputable abbrev sX:Stmt:=top 8
theorem Dh:ag ["one","other"] ["one","other"] (ab sX):=by walk_at "SC"
noncomputable def AK:Cfg:=mkc ["one","other"] sX 4
noncomputable def mn:Ss:=(.cons (.ret (.call 3 (.cons (.bin .Add (.bin .Mult (.ix (.var 0) (.int 0)) (.ix (.var 1) (.int 1))) (.bin .Mult (.ix (.var 1) (.int 0)) (.ix (.var 0) (.int 1)))) (.cons (.bin .Mult (.ix (.var 0) (.int 1)) (.ix (.var 1) (.int 1))) .nil)))) .nil)
theorem EH:ax AK mn (af sX)=true:=by decide +kernel
noncomputable abbrev sV:Stmt:=top 9
theorem C5:ag ["one","other"] ["one","other"] (ab sV):=by walk_at "SC"
noncomputable def BZ:Cfg:=mkc ["one","other"] sV 5
noncomputable def lW:Ss:=(.cons (.ret (.call 3 (.cons (.bin .Sub (.bin .Mult (.ix (.var 0) (.int 0)) (.ix (.var 1) (.int 1))) (.bin .Mult (.ix (.var 1) (.int 0)) (.ix (.var 0) (.int 1)))) (.cons (.bin .Mult (.ix (.var 0) (.int 1)) (.ix (.var 1) (.int 1))) .nil)))) .nil)
theorem Gf:ax BZ lW (af sV)=true:=by decide +kernel
noncomputable abbrev nF:Stmt:=top 10
theorem A9:ag ["one","other"] ["one","other"] (ab nF):=by walk_at "SC"
noncomputable def xP:Cfg:=mkc ["one","other"] nF 6
noncomputable def jL:Ss:=(.cons (.ret (.call 3 (.cons (.bin .Mult (.ix (.var 0) (.int 0)) (.ix (.var 1) (.int 0))) (.cons (.bin .Mult (.ix (.var 0) (.int 1)) (.ix (.var 1) (.int 1))) .nil)))) .nil)
theorem CP:ax xP jL (af nF)=true:=by decide +kernel
noncomputable abbrev gZ:Stmt:=top 11
theorem uL:ag ["one","other"] ["one","other"] (ab gZ):=by walk_at "SC"
noncomputable def oK:Cfg:=mkc ["one","other"] gZ 7
noncomputable def fF:Ss:=(.cons (.ret (.cmp .Lt (.bin .Mult (.ix (.var 0) (.int 0)) (.ix (.var 1) (.int 1))) (.bin .Mult (.ix (.var 1) (.int 0)) (.ix (.var 0) (.int 1))))) .nil)
theorem v6:ax oK fF (af gZ)=true:=by decide +kernel
noncomputable abbrev fm:Stmt:=top 13
theorem sm:ag ["one","other"] ["one","other"] (ab fm):=by walk_at "SC"
noncomputable def mV:Cfg:=mkc ["one","other"] fm 8
noncomputable def eC:Ss:=(.cons (.ret (.bin .Sub (.bin .Mult (.ix (.var 0) (.int 0)) (.ix (.var 1) (.int 1))) (.bin .Mult (.ix (.var 1) (.int 0)) (.ix (.var 0) (.int 1))))) .nil)
theorem vn:ax mV eC (af fm)=true:=by decide +kernel
noncomputable abbrev dj:Stmt:=top 14
theorem o8:ag ["near","far","x","near_x","near_y","far_x","far_y","done","left","above"] ["near","far","x"] (ab dj):=by walk_at "SC"
noncomputable def jC:Cfg:=mkc ["near","far","x","near_x","near_y","far_x","far_y","done","left","above"] dj 9
noncomputable def cY:Ss:=(.cons (.set (.tup (.cons (.tup (.cons (.name 3) (.cons (.name 4) .nil))) (.cons (.tup (.cons (.name 5) (.cons (.name 6) .nil))) .nil))) (.tup (.cons (.var 0) (.cons (.var 1) .nil)))) (.cons (.set (.name 7) (.bin .Mult (.call 8 (.cons (.var 2) (.cons (.var 3) .nil))) (.ix (.var 5) (.int 1)))) (.cons (.set (.name 8) (.bin .Mult (.call 8 (.cons (.var 5) (.cons (.var 2) .nil))) (.ix (.var 3) (.int 1)))) (.cons (.set (.name 9) (.bin .Add (.bin .Mult (.bin .Mult (.ix (.var 4) (.int 0)) (.ix (.var 6) (.int 1))) (.var 8)) (.bin .Mult (.bin .Mult (.ix (.var 6) (.int 0)) (.ix (.var 4) (.int 1))) (.var 7)))) (.cons (.ret (.call 3 (.cons (.var 9) (.cons (.bin .Mult (.bin .Mult (.ix (.var 4) (.int 1)) (.ix (.var 6) (.int 1))) (.bin .Add (.var 8) (.var 7))) .nil)))) .nil)))))
theorem pN:ax jC cY (af dj)=true:=by decide +kernel
noncomputable abbrev gF:Stmt:=top 17
theorem uI:ag ["thing"] ["thing"] (ab gF):=by walk_at "SC"
noncomputable def nP:Cfg:=mkc ["thing"] gF 10
noncomputable def fC:Ss:=(.cons (.ret (.bop true (.cons (.inst (.var 0) "tuple") (.cons (.cmp .Eq (.blt .len (.cons (.var 0) .nil)) (.int 3)) (.cons (.tmp (.blt .all1 (.cons (.comp (.call 2 (.cons (.var 0) .nil)) (.name 0) (.seq (.var 0)) .nil ["part"] []) .nil))) .nil))))) .nil)
theorem wl:ax nP fC (af gF)=true:=by decide +kernel
noncomputable abbrev bW:Stmt:=top 18
theorem kH:ag ["piece","end","low","high"] ["piece"] (ab bW):=by walk_at "SC"
noncomputable def f8:Cfg:=mkc ["piece","end","low","high"] bW 11
noncomputable def b9:Ss:=(.cons (.set (.tup (.cons (.name 1) (.cons (.name 2) (.cons (.name 3) .nil)))) (.var 0)) (.cons (.ret (.bop true (.cons (.not (.call 7 (.cons (.var 3) (.cons (.var 2) .nil)))) (.cons (.not (.call 7 (.cons (.var 3) (.cons (.var 1) .nil)))) .nil)))) .nil))
theorem mf:ax f8 b9 (af bW)=true:=by decide +kernel
noncomputable abbrev bY:Stmt:=top 19
theorem kW:ag ["piece","end","low","high"] ["piece"] (ab bY):=by walk_at "SC"
noncomputable def fQ:Cfg:=mkc ["piece","end","low","high"] bY 12
noncomputable def b7:Ss:=(.cons (.set (.tup (.cons (.name 1) (.cons (.name 2) (.cons (.name 3) .nil)))) (.var 0)) (.cons (.ret (.bop false (.cons (.cmp .NotEq (.var 1) (.gv "NOUGHT" a9)) (.cons (.cmp .Eq (.var 2) (.var 3)) .nil)))) .nil))
theorem l_:ax fQ b7 (af bY)=true:=by decide +kernel
noncomputable abbrev bM:Stmt:=top 20
theorem jP:ag ["ahead","piece"] ["ahead","piece"] (ab bM):=by walk_at "SC"
noncomputable def fk:Cfg:=mkc ["ahead","piece"] bM 13
noncomputable def bO:Ss:=(.cons (.ret (.bop true (.cons (.call 7 (.cons (.ix (.var 0) (.int 0)) (.cons (.ix (.var 1) (.int 0)) .nil))) (.cons (.not (.call 7 (.cons (.ix (.var 1) (.int 1)) (.cons (.ix (.var 0) (.int 2)) .nil)))) .nil)))) .nil)
theorem kC:ax fk bO (af bM)=true:=by decide +kernel
noncomputable abbrev k8:Stmt:=top 21
theorem yv:ag ["thing"] ["thing"] (ab k8):=by walk_at "SC"
noncomputable def vk:Cfg:=mkc ["thing"] k8 14
noncomputable def iE:Ss:=(.cons (.ifS (.bop false (.cons (.not (.inst (.var 0) "tuple")) (.cons (.not (.tmp (.blt .all1 (.cons (.comp (.call 10 (.cons (.var 0) .nil)) (.name 0) (.seq (.var 0)) .nil ["piece"] []) .nil)))) .nil))) (.cons (.ret (.bl false)) .nil) .nil) (.cons (.ifS (.not (.tmp (.blt .all1 (.cons (.comp (.call 11 (.cons (.var 0) .nil)) (.name 0) (.seq (.var 0)) .nil ["piece"] []) .nil)))) (.cons (.ret (.bl false)) .nil) .nil) (.cons (.ifS (.bop true (.cons (.cmp .NotEq (.var 0) (.tup .nil)) (.cons (.not (.call 12 (.cons (.ix (.var 0) (.int 0)) .nil))) .nil))) (.cons (.ret (.bl false)) .nil) .nil) (.cons (.ret (.tmp (.blt .all1 (.cons (.comp (.call 13 (.cons (.var 0) (.cons (.var 1) .nil))) (.tup (.cons (.name 0) (.cons (.name 1) .nil))) (.zip (.var 0) (.sl (.var 0) (.yes (.int 1)) .no)) .nil ["ahead","piece"] []) .nil)))) .nil))))
theorem Bt:ax vk iE (af k8)=true:=by decide +kernel
noncomputable abbrev iX:Stmt:=top 22
theorem wf:ag ["beginning","ahead","piece","rise","width","next_rise","next_width"] ["beginning","ahead","piece"] (ab iX):=by walk_at "SC"
noncomputable def qN:Cfg:=mkc ["beginning","ahead","piece","rise","width","next_rise","next_width"] iX 15
noncomputable def gJ:Ss:=(.cons (.ifS (.cmp .NotEq (.ix (.var 2) (.int 1)) (.ix (.var 1) (.int 2))) (.cons (.ret (.bl false)) .nil) .nil) (.cons (.par 3 4 (.call 5 (.cons (.ix (.var 1) (.int 2)) (.cons (.ix (.var 1) (.int 1)) .nil))) (.call 5 (.cons (.ix (.var 1) (.int 0)) (.cons (.var 0) .nil)))) (.cons (.par 5 6 (.call 5 (.cons (.ix (.var 2) (.int 2)) (.cons (.ix (.var 2) (.int 1)) .nil))) (.call 5 (.cons (.ix (.var 2) (.int 0)) (.cons (.ix (.var 1) (.int 0)) .nil)))) (.cons (.ret (.cmp .Eq (.call 6 (.cons (.var 3) (.cons (.var 6) .nil))) (.call 6 (.cons (.var 5) (.cons (.var 4) .nil))))) .nil))))
theorem yY:ax qN gJ (af iX)=true:=by decide +kernel
noncomputable abbrev rT:Stmt:=top 23
theorem D0:ag ["row","pieces","beginning","piece"] ["row"] (ab rT):=by walk_at "SC"
noncomputable def Cm:Cfg:=mkc ["row","pieces","beginning","piece"] rT 16
noncomputable def lO:Ss:=(.cons (.set (.name 1) (.lst .nil)) (.cons (.set (.name 2) (.gv "NOUGHT" a9)) (.cons (.forS (.name 3) (.seq (.var 0)) (.cons (.ifS (.bop true (.cons (.cmp .NotEq (.var 1) (.lst .nil)) (.cons (.call 15 (.cons (.var 2) (.cons (.ix (.var 1) (.neg (.int 1))) (.cons (.var 3) .nil)))) .nil))) (.cons (.set (.sub (.var 1) (.neg (.int 1))) (.tup (.cons (.ix (.var 3) (.int 0)) (.cons (.ix (.ix (.var 1) (.neg (.int 1))) (.int 1)) (.cons (.ix (.var 3) (.int 2)) .nil))))) .nil) (.cons (.set (.name 2) (.ite (.cmp .Eq (.var 1) (.lst .nil)) (.gv "NOUGHT" a9) (.ix (.ix (.var 1) (.neg (.int 1))) (.int 0)))) (.cons (.expr (.met .append (.var 1) (.cons (.var 3) .nil))) .nil))) .nil)) (.cons (.ret (.blt .tuple1 (.cons (.var 1) .nil))) .nil))))
theorem E3:ax Cm lO (af rT)=true:=by decide +kernel
noncomputable abbrev gk:Stmt:=top 24
theorem u6:ag ["thing"] ["thing"] (ab gk):=by walk_at "SC"
noncomputable def oD:Cfg:=mkc ["thing"] gk 17
noncomputable def fJ:Ss:=(.cons (.ret (.bop true (.cons (.call 14 (.cons (.var 0) .nil)) (.cons (.cmp .Eq (.call 16 (.cons (.var 0) .nil)) (.var 0)) .nil)))) .nil)
theorem vG:ax oD fJ (af gk)=true:=by decide +kernel
noncomputable abbrev cH:Stmt:=top 26
theorem nA:ag ["stair","at"] ["stair","at"] (ab cH):=by walk_at "SC"
noncomputable def iO:Cfg:=mkc ["stair","at"] cH 18
noncomputable def cT:Ss:=(.cons (.ret (.ite (.cmp .Eq (.var 1) (.int 0)) (.gv "NOUGHT" a9) (.ix (.ix (.var 0) (.bin .Sub (.var 1) (.int 1))) (.int 0)))) .nil)
theorem oH:ax iO cT (af cH)=true:=by decide +kernel
noncomputable abbrev ki:Stmt:=top 27
theorem zC:ag ["stair","at","t","end","low","high"] ["stair","at","t"] (ab ki):=by walk_at "SC"
noncomputable def uA:Cfg:=mkc ["stair","at","t","end","low","high"] ki 19
noncomputable def ig:Ss:=(.cons (.set (.tup (.cons (.name 3) (.cons (.name 4) (.cons (.name 5) .nil)))) (.ix (.var 0) (.var 1))) (.cons (.ifS (.cmp .Eq (.var 2) (.var 3)) (.cons (.ret (.var 5)) .nil) .nil) (.cons (.ret (.call 9 (.cons (.tup (.cons (.call 18 (.cons (.var 0) (.cons (.var 1) .nil))) (.cons (.var 4) .nil))) (.cons (.tup (.cons (.var 3) (.cons (.var 5) .nil))) (.cons (.var 2) .nil))))) .nil)))
theorem A5:ax uA ig (af ki)=true:=by decide +kernel
noncomputable abbrev rH:Stmt:=top 29
theorem CV:ag ["stair"] ["stair"] (ab rH):=by walk_at "SC"
noncomputable def Bd:Cfg:=mkc ["stair"] rH 20
noncomputable def lI:Ss:=(.cons (.ret (.ite (.cmp .Eq (.var 0) (.tup .nil)) .non (.ix (.ix (.var 0) (.neg (.int 1))) (.int 0)))) .nil)
theorem Gk:ax Bd lI (af rH)=true:=by decide +kernel
noncomputable abbrev j0:Stmt:=top 31
theorem xV:ag ["one","other","moments","mine","yours","moment"] ["one","other"] (ab j0):=by walk_at "SC"
noncomputable def vj:Cfg:=mkc ["one","other","moments","mine","yours","moment"] j0 21
noncomputable def iD:Ss:=(.cons (.set (.name 2) (.lst .nil)) (.cons (.set2 3 4 (.int 0)) (.cons (.whileS (.bop false (.cons (.cmp .Lt (.var 3) (.blt .len (.cons (.var 0) .nil))) (.cons (.cmp .Lt (.var 4) (.blt .len (.cons (.var 1) .nil))) .nil))) (.cons (.ifS (.bop false (.cons (.cmp .Eq (.var 4) (.blt .len (.cons (.var 1) .nil))) (.cons (.bop true (.cons (.cmp .Lt (.var 3) (.blt .len (.cons (.var 0) .nil))) (.cons (.call 7 (.cons (.ix (.var 0) (.var 3)) (.cons (.ix (.var 1) (.var 4)) .nil))) .nil))) .nil))) (.cons (.set (.name 5) (.ix (.var 0) (.var 3))) (.cons (.aug 3 .Add (.int 1)) .nil)) (.cons (.set (.name 5) (.ix (.var 1) (.var 4))) (.cons (.aug 4 .Add (.int 1)) .nil))) (.cons (.ifS (.bop false (.cons (.cmp .Eq (.var 2) (.lst .nil)) (.cons (.cmp .NotEq (.ix (.var 2) (.neg (.int 1))) (.var 5)) .nil))) (.cons (.expr (.met .append (.var 2) (.cons (.var 5) .nil))) .nil) .nil) .nil))) (.cons (.ret (.var 2)) .nil))))
theorem AN:ax vj iD (af j0)=true:=by decide +kernel
noncomputable abbrev kd:Stmt:=top 32
theorem zR:ag ["stair","ends","told","at","piece","low","high"] ["stair","ends"] (ab kd):=by walk_at "SC"
noncomputable def tJ:Cfg:=mkc ["stair","ends","told","at","piece","low","high"] kd 22
noncomputable def io:Ss:=(.cons (.set (.name 2) (.lst .nil)) (.cons (.forS (.tup (.cons (.name 3) (.cons (.name 4) .nil))) (.enum (.var 0)) (.cons (.set (.name 5) (.ix (.var 4) (.int 1))) (.cons (.whileS (.bop true (.cons (.cmp .Lt (.blt .len (.cons (.var 2) .nil)) (.blt .len (.cons (.var 1) .nil))) (.cons (.not (.call 7 (.cons (.ix (.var 4) (.int 0)) (.cons (.ix (.var 1) (.blt .len (.cons (.var 2) .nil))) .nil)))) .nil))) (.cons (.set (.name 6) (.call 19 (.cons (.var 0) (.cons (.var 3) (.cons (.ix (.var 1) (.blt .len (.cons (.var 2) .nil))) .nil))))) (.cons (.expr (.met .append (.var 2) (.cons (.tup (.cons (.var 5) (.cons (.var 6) .nil))) .nil))) (.cons (.set (.name 5) (.var 6)) .nil)))) .nil))) (.cons (.ret (.bin .Add (.var 2) (.bin .Mult (.lst (.cons .non .nil)) (.bin .Sub (.blt .len (.cons (.var 1) .nil)) (.blt .len (.cons (.var 2) .nil)))))) .nil)))
theorem Cf:ax tJ io (af kd)=true:=by decide +kernel
noncomputable abbrev i4:Stmt:=top 33
theorem v9:ag ["one","other"] ["one","other"] (ab i4):=by walk_at "SC"
noncomputable def qJ:Cfg:=mkc ["one","other"] i4 23
noncomputable def gj:Ss:=(.cons (.ifS (.cmp .Eq (.var 0) (.var 1)) (.cons (.ret (.tup (.cons (.int 0) (.cons (.int 1) .nil)))) .nil) .nil) (.cons (.ret (.ite (.call 7 (.cons (.var 0) (.cons (.var 1) .nil))) (.tup (.cons (.int 0) .nil)) (.tup (.cons (.int 1) .nil)))) .nil))
theorem zF:ax qJ gj (af i4)=true:=by decide +kernel
noncomputable abbrev k7:Stmt:=top 34
theorem yf:ag ["some","others"] ["some","others"] (ab k7):=by walk_at "SC"
noncomputable def uG:Cfg:=mkc ["some","others"] k7 24
noncomputable def iz:Ss:=(.cons (.ret (.tmp (.blt .tuple1 (.cons (.comp (.var 0) (.name 0) (.seq (.var 0)) (.cons (.cmp .In (.var 0) (.var 1)) .nil) ["who"] [1]) .nil)))) .nil)
theorem AL:ax uG iz (af k7)=true:=by decide +kernel
noncomputable abbrev nH:Stmt:=top 35
theorem BS:ag ["one","other"] ["one","other"] (ab nH):=by walk_at "SC"
noncomputable def xu:Cfg:=mkc ["one","other"] nH 25
noncomputable def jW:Ss:=(.cons (.ret (.ite (.call 7 (.cons (.var 0) (.cons (.var 1) .nil))) (.call 5 (.cons (.var 1) (.cons (.var 0) .nil))) (.call 5 (.cons (.var 0) (.cons (.var 1) .nil))))) .nil)
theorem CO:ax xu jW (af nH)=true:=by decide +kernel
noncomputable abbrev i6:Stmt:=top 36
theorem we:ag ["beginning","end","mine","yours","gap","next_gap","moment","come"] ["beginning","end","mine","yours"] (ab i6):=by walk_at "SC"
noncomputable def qT:Cfg:=mkc ["beginning","end","mine","yours","gap","next_gap","moment","come"] i6 26
noncomputable def gU:Ss:=(.cons (.par 4 5 (.call 25 (.cons (.ix (.var 2) (.int 0)) (.cons (.ix (.var 3) (.int 0)) .nil))) (.call 25 (.cons (.ix (.var 2) (.int 1)) (.cons (.ix (.var 3) (.int 1)) .nil)))) (.cons (.set (.name 6) (.call 9 (.cons (.tup (.cons (.gv "NOUGHT" a9) (.cons (.var 0) .nil))) (.cons (.tup (.cons (.call 4 (.cons (.var 4) (.cons (.var 5) .nil))) (.cons (.var 1) .nil))) (.cons (.var 4) .nil))))) (.cons (.set (.name 7) (.call 9 (.cons (.tup (.cons (.var 0) (.cons (.ix (.var 2) (.int 0)) .nil))) (.cons (.tup (.cons (.var 1) (.cons (.ix (.var 2) (.int 1)) .nil))) (.cons (.var 6) .nil))))) (.cons (.ifS (.call 7 (.cons (.ix (.var 2) (.int 0)) (.cons (.ix (.var 3) (.int 0)) .nil))) (.cons (.ret (.lst (.cons (.tup (.cons (.var 6) (.cons (.ix (.var 2) (.int 0)) (.cons (.var 7) (.cons (.tup (.cons (.int 0) .nil)) .nil))))) (.cons (.tup (.cons (.var 1) (.cons (.var 7) (.cons (.ix (.var 3) (.int 1)) (.cons (.tup (.cons (.int 1) .nil)) .nil))))) .nil)))) .nil) .nil) (.cons (.ret (.lst (.cons (.tup (.cons (.var 6) (.cons (.ix (.var 3) (.int 0)) (.cons (.var 7) (.cons (.tup (.cons (.int 1) .nil)) .nil))))) (.cons (.tup (.cons (.var 1) (.cons (.var 7) (.cons (.ix (.var 2) (.int 1)) (.cons (.tup (.cons (.int 0) .nil)) .nil))))) .nil)))) .nil)))))
theorem zD:ax qT gU (af i6)=true:=by decide +kernel
noncomputable abbrev bw:Stmt:=top 37
theorem jk:ag ["beginning","end","mine","yours","low","high","leading"] ["beginning","end","mine","yours"] (ab bw):=by walk_at "SC"
noncomputable def eG:Cfg:=mkc ["beginning","end","mine","yours","low","high","leading"] bw 27
noncomputable def bK:Ss:=(.cons (.ifS (.bop false (.cons (.cmp .Is (.var 2) .non) (.cons (.cmp .Is (.var 3) .non) .nil))) (.cons (.set (.tup (.cons (.name 4) (.cons (.name 5) .nil))) (.ite (.cmp .Is (.var 2) .non) (.var 3) (.var 2))) (.cons (.ret (.lst (.cons (.tup (.cons (.var 1) (.cons (.var 4) (.cons (.var 5) (.cons (.ite (.cmp .Is (.var 2) .non) (.tup (.cons (.int 1) .nil)) (.tup (.cons (.int 0) .nil))) .nil))))) .nil))) .nil)) .nil) (.cons (.set (.name 6) (.call 24 (.cons (.call 23 (.cons (.ix (.var 2) (.int 0)) (.cons (.ix (.var 3) (.int 0)) .nil))) (.cons (.call 23 (.cons (.ix (.var 2) (.int 1)) (.cons (.ix (.var 3) (.int 1)) .nil))) .nil)))) (.cons (.ifS (.cmp .Eq (.var 6) (.tup .nil)) (.cons (.ret (.call 26 (.cons (.var 0) (.cons (.var 1) (.cons (.var 2) (.cons (.var 3) .nil)))))) .nil) .nil) (.cons (.set (.tup (.cons (.name 4) (.cons (.name 5) .nil))) (.ite (.cmp .Eq (.ix (.var 6) (.int 0)) (.int 0)) (.var 2) (.var 3))) (.cons (.ret (.lst (.cons (.tup (.cons (.var 1) (.cons (.var 4) (.cons (.var 5) (.cons (.var 6) .nil))))) .nil))) .nil)))))
theorem jI:ax eG bK (af bw)=true:=by decide +kernel
noncomputable abbrev gD:Stmt:=top 38
theorem tD:ag ["one","other","ends","told","beginning","end","mine","yours"] ["one","other"] (ab gD):=by walk_at "SC"
noncomputable def oV:Cfg:=mkc ["one","other","ends","told","beginning","end","mine","yours"] gD 28
noncomputable def fA:Ss:=(.cons (.ifS (.bop true (.cons (.cmp .Eq (.var 0) (.tup .nil)) (.cons (.cmp .Eq (.var 1) (.tup .nil)) .nil))) (.cons (.ret (.lst .nil)) .nil) .nil) (.cons (.set (.name 2) (.call 21 (.cons (.lst (.cons (.gv "NOUGHT" a9) .nil)) (.cons (.call 21 (.cons (.comp (.ix (.var 0) (.int 0)) (.name 0) (.seq (.var 0)) .nil ["piece"] []) (.cons (.comp (.ix (.var 0) (.int 0)) (.name 0) (.seq (.var 1)) .nil ["piece"] []) .nil))) .nil)))) (.cons (.set (.name 3) (.lst .nil)) (.cons (.set (.name 4) (.gv "NOUGHT" a9)) (.cons (.forS (.tup (.cons (.name 5) (.cons (.name 6) (.cons (.name 7) .nil)))) (.zip3 (.var 2) (.call 22 (.cons (.var 0) (.cons (.var 2) .nil))) (.call 22 (.cons (.var 1) (.cons (.var 2) .nil)))) (.cons (.aug 3 .Add (.call 27 (.cons (.var 4) (.cons (.var 5) (.cons (.var 6) (.cons (.var 7) .nil)))))) (.cons (.set (.name 4) (.var 5)) .nil))) (.cons (.ret (.var 3)) .nil))))))
theorem wT:ax oV fA (af gD)=true:=by decide +kernel
noncomputable abbrev kJ:Stmt:=top 39
theorem zN:ag ["one","other"] ["one","other"] (ab kJ):=by walk_at "SC"
noncomputable def tR:Cfg:=mkc ["one","other"] kJ 29
noncomputable def iy:Ss:=(.cons (.ret (.call 16 (.cons (.tmp (.blt .tuple1 (.cons (.comp (.tup (.cons (.var 0) (.cons (.var 1) (.cons (.var 2) .nil)))) (.tup (.cons (.name 0) (.cons (.name 1) (.cons (.name 2) (.cons (.name 3) .nil))))) (.seq (.call 28 (.cons (.var 0) (.cons (.var 1) .nil)))) .nil ["end","low","high","leading"] []) .nil))) .nil))) .nil)
theorem A1:ax tR iy (af kJ)=true:=by decide +kernel
noncomputable abbrev nJ:Stmt:=top 45
theorem B5:ag ["ride"] ["ride"] (ab nJ):=by walk_at "SC"
noncomputable def xR:Cfg:=mkc ["ride"] nJ 30
noncomputable def jR:Ss:=(.cons (.ret (.call 7 (.cons (.ix (.var 0) (.int 3)) (.cons (.ix (.var 0) (.int 2)) .nil)))) .nil)
theorem DS:ax xR jR (af nJ)=true:=by decide +kernel
noncomputable abbrev cu:Stmt:=top 49
theorem lD:ag ["ride","first","last","come","comes"] ["ride"] (ab cu):=by walk_at "SC"
noncomputable def hJ:Cfg:=mkc ["ride","first","last","come","comes"] cu 31
noncomputable def cy:Ss:=(.cons (.set (.tup (.cons (.name 1) (.cons (.name 2) (.cons (.name 3) (.cons (.name 4) .nil))))) (.var 0)) (.cons (.ifS (.call 30 (.cons (.var 0) .nil)) (.cons (.ret (.tup (.cons (.tup (.cons (.var 2) (.cons (.var 4) (.cons (.var 4) .nil)))) .nil))) .nil) .nil) (.cons (.ifS (.cmp .Eq (.var 1) (.var 2)) (.cons (.ret (.tup (.cons (.tup (.cons (.var 1) (.cons (.var 3) (.cons (.var 3) .nil)))) .nil))) .nil) .nil) (.cons (.ret (.call 16 (.cons (.tup (.cons (.tup (.cons (.var 1) (.cons (.var 3) (.cons (.var 3) .nil)))) (.cons (.tup (.cons (.var 2) (.cons (.var 3) (.cons (.var 4) .nil)))) .nil))) .nil))) .nil))))
theorem nh:ax hJ cy (af cu)=true:=by decide +kernel
noncomputable abbrev gO:Stmt:=top 53
theorem tW:ag ["rides","wait","stair","ride"] ["rides","wait"] (ab gO):=by walk_at "SC"
noncomputable def o0:Cfg:=mkc ["rides","wait","stair","ride"] gO 32
noncomputable def fG:Ss:=(.cons (.set (.name 2) (.tup .nil)) (.cons (.forS (.name 3) (.seq (.var 0)) (.cons (.set (.name 2) (.call 29 (.cons (.var 2) (.cons (.call 31 (.cons (.var 3) .nil)) .nil)))) .nil)) (.cons (.ifS (.not (.var 1)) (.cons .bad .nil) .nil) (.cons (.ret (.var 2)) .nil))))
theorem vL:ax o0 fG (af gO)=true:=by decide +kernel
noncomputable abbrev gq:Stmt:=top 55
theorem uD:ag ["_law_script","_law_k","_law_cell"] ["_law_script","_law_k"] (ab gq):=by walk_at "SC"
noncomputable def oP:Cfg:=mkc ["_law_script","_law_k","_law_cell"] gq 33
noncomputable def fK:Ss:=(.cons (.set (.name 2) (.ite (.cmp .Lt (.var 1) (.blt .len (.cons (.var 0) .nil))) (.ix (.var 0) (.var 1)) (.int 0))) (.cons (.ret (.lst (.cons (.blt .max2 (.cons (.int 0) (.cons (.bin .Sub (.blt .abs1 (.cons (.var 2) .nil)) (.bin .Pow (.int 10) (.int 18))) .nil))) (.cons (.bin .Add (.bin .Add (.bin .Mod (.blt .abs1 (.cons (.var 2) .nil)) (.int 2147483629)) (.bin .Mult (.int 97) (.var 1))) (.int 1)) .nil)))) .nil))
theorem vQ:ax oP fK (af gq)=true:=by decide +kernel
noncomputable abbrev e_:Stmt:=top 56
theorem rZ:ag ["_law_pot_here","_law_many","_law_digit"] ["_law_pot_here","_law_many"] (ab e_):=by walk_at "SC"
noncomputable def mI:Cfg:=mkc ["_law_pot_here","_law_many","_law_digit"] e_ 34
noncomputable def eM:Ss:=(.cons (.ifS (.cmp .Gt (.ix (.var 0) (.int 0)) (.int 0)) (.cons (.set (.tup (.cons (.sub (.var 0) (.int 0)) (.cons (.name 2) .nil))) (.blt .divmod (.cons (.ix (.var 0) (.int 0)) (.cons (.var 1) .nil)))) (.cons (.ret (.var 2)) .nil)) .nil) (.cons (.set (.sub (.var 0) (.int 1)) (.bin .Mod (.bin .Add (.bin .Mult (.ix (.var 0) (.int 1)) (.int 48271)) (.int 12345)) (.int 2147483647))) (.cons (.ret (.bin .Mod (.bin .FloorDiv (.bin .Mod (.bin .Mult (.ix (.var 0) (.int 1)) (.ix (.var 0) (.int 1))) (.int 2147483629)) (.int 5)) (.var 1))) .nil)))
theorem t9:ax mI eM (af e_)=true:=by decide +kernel
noncomputable abbrev dr:Stmt:=top 57
theorem oT:ag ["_law_n","_law_d","_law_left","_law_right"] ["_law_n","_law_d"] (ab dr):=by walk_at "SC"
noncomputable def jv:Cfg:=mkc ["_law_n","_law_d","_law_left","_law_right"] dr 35
noncomputable def df:Ss:=(.cons (.par 2 3 (.var 0) (.var 1)) (.cons (.whileS (.cmp .Gt (.var 3) (.int 0)) (.cons (.par 2 3 (.var 3) (.bin .Mod (.var 2) (.var 3))) .nil)) (.cons (.ret (.tup (.cons (.bin .FloorDiv (.var 0) (.var 2)) (.cons (.bin .FloorDiv (.var 1) (.var 2)) .nil)))) .nil)))
theorem qo:ax jv df (af dr)=true:=by decide +kernel
noncomputable abbrev dq:Stmt:=top 58
theorem oM:ag ["_law_pot_here","_law_found","_law_k"] ["_law_pot_here"] (ab dq):=by walk_at "SC"
noncomputable def jB:Cfg:=mkc ["_law_pot_here","_law_found","_law_k"] dq 36
noncomputable def c8:Ss:=(.cons (.set (.name 1) (.lst (.cons (.tmp (.ix (.lst (.cons (.int 0) (.cons (.call 34 (.cons (.var 0) (.cons (.int 4) .nil))) (.cons (.call 34 (.cons (.var 0) (.cons (.bin .Pow (.int 10) (.int 9)) .nil))) .nil)))) (.call 34 (.cons (.var 0) (.cons (.int 3) .nil))))) .nil))) (.cons (.forS (.name 2) (.range1 (.bin .Add (.int 1) (.call 34 (.cons (.var 0) (.cons (.int 5) .nil))))) (.cons (.expr (.met .append (.var 1) (.cons (.bin .Add (.bin .Add (.ix (.var 1) (.neg (.int 1))) (.int 1)) (.call 34 (.cons (.var 0) (.cons (.ix (.tup (.cons (.int 2) (.cons (.int 7) (.cons (.bin .Pow (.int 10) (.int 9)) .nil)))) (.call 34 (.cons (.var 0) (.cons (.int 3) .nil)))) .nil)))) .nil))) .nil)) (.cons (.ret (.var 1)) .nil)))
theorem qd:ax jB c8 (af dq)=true:=by decide +kernel
noncomputable abbrev fh:Stmt:=top 59
theorem rX:ag ["_law_pot_here"] ["_law_pot_here"] (ab fh):=by walk_at "SC"
noncomputable def mH:Cfg:=mkc ["_law_pot_here"] fh 37
noncomputable def eD:Ss:=(.cons (.ret (.tmp (.ix (.lst (.cons (.int 0) (.cons (.call 34 (.cons (.var 0) (.cons (.int 3) .nil))) (.cons (.call 34 (.cons (.var 0) (.cons (.int 9) .nil))) (.cons (.call 34 (.cons (.var 0) (.cons (.bin .Pow (.int 10) (.int 9)) .nil))) .nil))))) (.call 34 (.cons (.var 0) (.cons (.int 4) .nil)))))) .nil)
theorem tP:ax mH eD (af fh)=true:=by decide +kernel
noncomputable abbrev fu:Stmt:=top 60
theorem sR:ag ["_law_pot_here","_law_points_here","_law_a","_law_b","_law_come"] ["_law_pot_here","_law_points_here"] (ab fu):=by walk_at "SC"
noncomputable def mL:Cfg:=mkc ["_law_pot_here","_law_points_here","_law_a","_law_b","_law_come"] fu 38
noncomputable def eY:Ss:=(.cons (.set (.name 2) (.call 34 (.cons (.var 0) (.cons (.blt .len (.cons (.var 1) .nil)) .nil)))) (.cons (.set (.name 3) (.bin .Add (.var 2) (.call 34 (.cons (.var 0) (.cons (.bin .Sub (.blt .len (.cons (.var 1) .nil)) (.var 2)) .nil))))) (.cons (.set (.name 4) (.bin .Add (.ix (.var 1) (.var 2)) (.call 37 (.cons (.var 0) .nil)))) (.cons (.ifS (.cmp .Eq (.var 2) (.var 3)) (.cons (.ret (.tup (.cons (.ix (.var 1) (.var 2)) (.cons (.ix (.var 1) (.var 2)) (.cons (.var 4) (.cons (.var 4) .nil)))))) .nil) .nil) (.cons (.ret (.tup (.cons (.ix (.var 1) (.var 2)) (.cons (.ix (.var 1) (.var 3)) (.cons (.var 4) (.cons (.bin .Add (.ix (.var 1) (.var 3)) (.call 37 (.cons (.var 0) .nil))) .nil)))))) .nil)))))
theorem ub:ax mL eY (af fu)=true:=by decide +kernel
noncomputable abbrev d_:Stmt:=top 61
theorem qi:ag ["_law_pot_here","_law_points_here","_law_found","_law_height","_law_first","_law_final","_law_come"] ["_law_pot_here","_law_points_here"] (ab d_):=by walk_at "SC"
noncomputable def kX:Cfg:=mkc ["_law_pot_here","_law_points_here","_law_found","_law_height","_law_first","_law_final","_law_come"] d_ 39
noncomputable def dG:Ss:=(.cons (.set (.name 2) (.lst .nil)) (.cons (.set (.name 3) (.int 0)) (.cons (.forS (.tup (.cons (.name 4) (.cons (.name 5) .nil))) (.zip (.var 1) (.sl (.var 1) (.yes (.int 1)) .no)) (.cons (.set (.name 6) (.bin .Add (.blt .max2 (.cons (.var 3) (.cons (.var 4) .nil))) (.bin .Mult (.call 37 (.cons (.var 0) .nil)) (.call 34 (.cons (.var 0) (.cons (.int 2) .nil)))))) (.cons (.set (.name 3) (.bin .Add (.blt .max2 (.cons (.var 6) (.cons (.var 5) .nil))) (.bin .Mult (.call 37 (.cons (.var 0) .nil)) (.call 34 (.cons (.var 0) (.cons (.int 2) .nil)))))) (.cons (.expr (.met .append (.var 2) (.cons (.tup (.cons (.var 4) (.cons (.var 5) (.cons (.var 6) (.cons (.var 3) .nil))))) .nil))) .nil)))) (.cons (.ret (.var 2)) .nil))))
theorem rW:ax kX dG (af d_)=true:=by decide +kernel
noncomputable abbrev dQ:Stmt:=top 62
theorem pP:ag ["_law_pot_here","_law_points_here","_law_way","_law_found"] ["_law_pot_here"] (ab dQ):=by walk_at "SC"
noncomputable def k_:Cfg:=mkc ["_law_pot_here","_law_points_here","_law_way","_law_found"] dQ 40
noncomputable def dF:Ss:=(.cons (.set (.name 1) (.call 36 (.cons (.var 0) .nil))) (.cons (.set (.name 2) (.call 34 (.cons (.var 0) (.cons (.int 4) .nil)))) (.cons (.ifS (.cmp .Eq (.var 2) (.int 0)) (.cons (.ret (.call 39 (.cons (.var 0) (.cons (.bin .Add (.lst (.cons (.int 0) .nil)) (.sl (.var 1) (.yes (.int 1)) .no)) .nil)))) .nil) .nil) (.cons (.set (.name 3) (.comp (.call 38 (.cons (.var 1) (.cons (.var 2) .nil))) (.name 0) (.range1 (.call 34 (.cons (.var 0) (.cons (.int 6) .nil)))) .nil ["_law_k"] [0,1])) (.cons (.ifS (.cmp .Eq (.var 2) (.int 1)) (.cons (.set (.name 3) (.bin .Add (.sl (.var 3) .no (.yes (.int 2))) (.call 39 (.cons (.var 0) (.cons (.bin .Add (.lst (.cons (.int 0) .nil)) (.sl (.var 1) (.yes (.int 1)) (.yes (.int 4)))) .nil))))) .nil) .nil) (.cons (.ret (.var 3)) .nil))))))
theorem rQ:ax k_ dF (af dQ)=true:=by decide +kernel
noncomputable abbrev fv:Stmt:=top 63
theorem sk:ag ["_law_pot_here"] ["_law_pot_here"] (ab fv):=by walk_at "SC"
noncomputable def mP:Cfg:=mkc ["_law_pot_here"] fv 41
noncomputable def eV:Ss:=(.cons (.ret (.bin .Add (.int 1) (.call 34 (.cons (.var 0) (.cons (.ix (.tup (.cons (.int 1) (.cons (.int 2) (.cons (.int 12) (.cons (.bin .Pow (.int 10) (.int 11)) .nil))))) (.call 34 (.cons (.var 0) (.cons (.int 4) .nil)))) .nil))))) .nil)
theorem tL:ax mP eV (af fv)=true:=by decide +kernel
noncomputable abbrev di:Stmt:=top 64
theorem oG:ag ["_law_pot_here","_law_rides_here","_law_part_here","_law_found","_law_ride_here"] ["_law_pot_here","_law_rides_here","_law_part_here"] (ab di):=by walk_at "SC"
noncomputable def jt:Cfg:=mkc ["_law_pot_here","_law_rides_here","_law_part_here","_law_found","_law_ride_here"] di 42
noncomputable def c9:Ss:=(.cons (.set (.name 3) (.lst .nil)) (.cons (.forS (.name 4) (.seq (.var 1)) (.cons (.expr (.met .insert (.var 3) (.cons (.call 34 (.cons (.var 0) (.cons (.bin .Add (.blt .len (.cons (.var 3) .nil)) (.int 1)) .nil))) (.cons (.tmp (.blt .tuple1 (.cons (.comp (.call 35 (.cons (.var 0) (.cons (.var 1) .nil))) (.name 0) (.seq (.var 4)) .nil ["_law_number"] [2]) .nil))) .nil)))) .nil)) (.cons (.ret (.blt .tuple1 (.cons (.var 3) .nil))) .nil)))
theorem qg:ax jt c9 (af di)=true:=by decide +kernel
noncomputable abbrev dZ:Stmt:=top 65
theorem qf:ag ["_law_ride_here","_law_t","_law_first","_law_final","_law_come","_law_comes_here","_law_left","_law_done"] ["_law_ride_here","_law_t"] (ab dZ):=by walk_at "SC"
noncomputable def j7:Cfg:=mkc ["_law_ride_here","_law_t","_law_first","_law_final","_law_come","_law_comes_here","_law_left","_law_done"] dZ 43
noncomputable def dH:Ss:=(.cons (.set (.tup (.cons (.name 2) (.cons (.name 3) (.cons (.name 4) (.cons (.name 5) .nil))))) (.var 0)) (.cons (.ifS (.cmp .Eq (.var 2) (.var 3)) (.cons (.ret (.tup (.cons (.var 4) (.cons (.int 1) .nil)))) .nil) .nil) (.cons (.par 6 7 (.bin .Sub (.bin .Mult (.var 3) (.ix (.var 1) (.int 1))) (.ix (.var 1) (.int 0))) (.bin .Sub (.ix (.var 1) (.int 0)) (.bin .Mult (.var 2) (.ix (.var 1) (.int 1))))) (.cons (.ret (.tup (.cons (.bin .Add (.bin .Mult (.var 4) (.var 6)) (.bin .Mult (.var 5) (.var 7))) (.cons (.bin .Mult (.bin .Sub (.var 3) (.var 2)) (.ix (.var 1) (.int 1))) .nil)))) .nil))))
theorem sN:ax j7 dH (af dZ)=true:=by decide +kernel
noncomputable abbrev gu:Stmt:=top 66
theorem uZ:ag ["_law_rides_here","_law_t","_law_found","_law_ride_here","_law_one"] ["_law_rides_here","_law_t"] (ab gu):=by walk_at "SC"
noncomputable def oA:Cfg:=mkc ["_law_rides_here","_law_t","_law_found","_law_ride_here","_law_one"] gu 44
noncomputable def fI:Ss:=(.cons (.set (.name 2) .non) (.cons (.forS (.name 3) (.seq (.var 0)) (.cons (.ifS (.bop true (.cons (.cmp .LtE (.bin .Mult (.ix (.var 3) (.int 0)) (.ix (.var 1) (.int 1))) (.ix (.var 1) (.int 0))) (.cons (.cmp .LtE (.ix (.var 1) (.int 0)) (.bin .Mult (.ix (.var 3) (.int 1)) (.ix (.var 1) (.int 1)))) .nil))) (.cons (.set (.name 4) (.call 43 (.cons (.var 3) (.cons (.var 1) .nil)))) (.cons (.ifS (.bop false (.cons (.cmp .Is (.var 2) .non) (.cons (.cmp .Lt (.bin .Mult (.ix (.var 4) (.int 0)) (.ix (.var 2) (.int 1))) (.bin .Mult (.ix (.var 2) (.int 0)) (.ix (.var 4) (.int 1)))) .nil))) (.cons (.set (.name 2) (.var 4)) .nil) .nil) .nil)) .nil) .nil)) (.cons (.ret (.var 2)) .nil)))
theorem wg:ax oA fI (af gu)=true:=by decide +kernel
noncomputable abbrev gI:Stmt:=top 67
theorem uc:ag ["_law_rides_here","_law_wait","_law_t","_law_moments_here","_law_ends","_law_found","_law_moment_here","_law_one"] ["_law_rides_here","_law_wait","_law_t"] (ab gI):=by walk_at "SC"
noncomputable def n8:Cfg:=mkc ["_law_rides_here","_law_wait","_law_t","_law_moments_here","_law_ends","_law_found","_law_moment_here","_law_one"] gI 45
noncomputable def fM:Ss:=(.cons (.set (.name 3) (.lst (.cons (.var 2) .nil))) (.cons (.ifS (.var 1) (.cons (.set (.name 4) (.bin .Add (.comp (.ix (.var 0) (.int 0)) (.name 0) (.seq (.var 0)) .nil ["_law_ride_here"] []) (.comp (.ix (.var 0) (.int 1)) (.name 0) (.seq (.var 0)) .nil ["_law_ride_here"] []))) (.cons (.set (.name 3) (.bin .Add (.var 3) (.comp (.tup (.cons (.var 0) (.cons (.int 1) .nil))) (.name 0) (.seq (.sset (.var 4))) .nil ["_law_end"] []))) .nil)) .nil) (.cons (.set (.name 5) .non) (.cons (.forS (.name 6) (.seq (.var 3)) (.cons (.set (.name 7) (.call 44 (.cons (.var 0) (.cons (.var 6) .nil)))) (.cons (.ifS (.bop true (.cons (.cmp .IsNot (.var 7) .non) (.cons (.cmp .GtE (.bin .Mult (.ix (.var 6) (.int 0)) (.ix (.var 2) (.int 1))) (.bin .Mult (.ix (.var 2) (.int 0)) (.ix (.var 6) (.int 1)))) .nil))) (.cons (.ifS (.bop false (.cons (.cmp .Is (.var 5) .non) (.cons (.cmp .Lt (.bin .Mult (.ix (.var 7) (.int 0)) (.ix (.ix (.var 5) (.int 1)) (.int 1))) (.bin .Mult (.ix (.ix (.var 5) (.int 1)) (.int 0)) (.ix (.var 7) (.int 1)))) .nil))) (.cons (.set (.name 5) (.tup (.cons (.var 6) (.cons (.var 7) .nil)))) .nil) .nil) .nil) .nil) .nil))) (.cons (.ret (.var 5)) .nil)))))
theorem vI:ax n8 fM (af gI)=true:=by decide +kernel
noncomputable abbrev jf:Stmt:=top 69
theorem vW:ag ["_law_stair","_law_t","_law_begin","_law_end","_law_low","_law_high","_law_wide","_law_left","_law_done","_law_number"] ["_law_stair","_law_t"] (ab jf):=by walk_at "SC"
noncomputable def rA:Cfg:=mkc ["_law_stair","_law_t","_law_begin","_law_end","_law_low","_law_high","_law_wide","_law_left","_law_done","_law_number"] jf 46
noncomputable def gH:Ss:=(.cons (.set (.name 2) (.tup (.cons (.int 0) (.cons (.int 1) .nil)))) (.cons (.forS (.tup (.cons (.name 3) (.cons (.name 4) (.cons (.name 5) .nil)))) (.seq (.var 0)) (.cons (.ifS (.cmp .LtE (.bin .Mult (.ix (.var 1) (.int 0)) (.ix (.var 3) (.int 1))) (.bin .Mult (.ix (.var 3) (.int 0)) (.ix (.var 1) (.int 1)))) (.cons (.set (.name 6) (.bin .Sub (.bin .Mult (.ix (.var 3) (.int 0)) (.ix (.var 2) (.int 1))) (.bin .Mult (.ix (.var 2) (.int 0)) (.ix (.var 3) (.int 1))))) (.cons (.ifS (.cmp .Eq (.var 6) (.int 0)) (.cons (.ret (.var 4)) .nil) .nil) (.cons (.set (.name 7) (.bin .Sub (.bin .Mult (.ix (.var 3) (.int 0)) (.ix (.var 1) (.int 1))) (.bin .Mult (.ix (.var 1) (.int 0)) (.ix (.var 3) (.int 1))))) (.cons (.set (.name 8) (.bin .Sub (.bin .Mult (.ix (.var 1) (.int 0)) (.ix (.var 2) (.int 1))) (.bin .Mult (.ix (.var 2) (.int 0)) (.ix (.var 1) (.int 1))))) (.cons (.set (.name 9) (.bin .Mult (.bin .Mult (.bin .Mult (.ix (.var 4) (.int 0)) (.ix (.var 5) (.int 1))) (.var 7)) (.ix (.var 2) (.int 1)))) (.cons (.set (.name 9) (.bin .Add (.var 9) (.bin .Mult (.bin .Mult (.bin .Mult (.ix (.var 5) (.int 0)) (.ix (.var 4) (.int 1))) (.var 8)) (.ix (.var 3) (.int 1))))) (.cons (.ret (.tup (.cons (.var 9) (.cons (.bin .Mult (.bin .Mult (.bin .Mult (.ix (.var 4) (.int 1)) (.ix (.var 5) (.int 1))) (.ix (.var 1) (.int 1))) (.var 6)) .nil)))) .nil))))))) .nil) (.cons (.set (.name 2) (.var 3)) .nil))) (.cons (.ret .non) .nil)))
theorem xX:ax rA gH (af jf)=true:=by decide +kernel
noncomputable abbrev cw:Stmt:=top 70
theorem lg:ag ["_law_stair","_law_rides_here","_law_part_here","_law_t","_law_found","_law_on_here"] ["_law_stair","_law_rides_here","_law_part_here","_law_t"] (ab cw):=by walk_at "SC"
noncomputable def g9:Cfg:=mkc ["_law_stair","_law_rides_here","_law_part_here","_law_t","_law_found","_law_on_here"] cw 47
noncomputable def cz:Ss:=(.cons (.set (.name 4) (.call 45 (.cons (.var 1) (.cons (.bl true) (.cons (.tup (.cons (.bin .Mult (.ix (.var 3) (.int 0)) (.var 2)) (.cons (.ix (.var 3) (.int 1)) .nil))) .nil))))) (.cons (.set (.name 5) (.call 46 (.cons (.var 0) (.cons (.var 3) .nil)))) (.cons (.ifS (.bop false (.cons (.cmp .Is (.var 4) .non) (.cons (.cmp .Is (.var 5) .non) .nil))) (.cons (.ret (.bop true (.cons (.cmp .Is (.var 4) .non) (.cons (.cmp .Is (.var 5) .non) .nil)))) .nil) .nil) (.cons (.ret (.cmp .Eq (.bin .Mult (.bin .Mult (.ix (.var 5) (.int 0)) (.ix (.ix (.var 4) (.int 1)) (.int 1))) (.var 2)) (.bin .Mult (.ix (.ix (.var 4) (.int 1)) (.int 0)) (.ix (.var 5) (.int 1))))) .nil))))
theorem nk:ax g9 cz (af cw)=true:=by decide +kernel
noncomputable abbrev cO:Stmt:=top 71
theorem nB:ag ["_law_stair","_law_rides_here","_law_part_here","_law_ends","_law_found","_law_begin","_law_end","_law_low","_law_high"] ["_law_stair","_law_rides_here","_law_part_here"] (ab cO):=by walk_at "SC"
noncomputable def iQ:Cfg:=mkc ["_law_stair","_law_rides_here","_law_part_here","_law_ends","_law_found","_law_begin","_law_end","_law_low","_law_high"] cO 48
noncomputable def cG:Ss:=(.cons (.set (.name 3) (.sset (.bin .Add (.bin .Add (.lst (.cons (.int 0) .nil)) (.comp (.ix (.var 0) (.int 0)) (.name 0) (.seq (.var 1)) .nil ["_law_ride_here"] [])) (.comp (.ix (.var 0) (.int 1)) (.name 0) (.seq (.var 1)) .nil ["_law_ride_here"] [])))) (.cons (.set (.name 4) (.comp (.tup (.cons (.var 0) (.cons (.var 1) .nil))) (.name 0) (.seq (.bin .Add (.var 3) (.lst (.cons (.bin .Add (.ix (.var 3) (.neg (.int 1))) (.int 1)) .nil)))) .nil ["_law_end"] [2])) (.cons (.expr (.met .extend (.var 4) (.cons (.comp (.tup (.cons (.bin .Add (.var 0) (.var 1)) (.cons (.bin .Mult (.int 2) (.var 2)) .nil))) (.tup (.cons (.name 0) (.cons (.name 1) .nil))) (.zip (.var 3) (.sl (.var 3) (.yes (.int 1)) .no)) .nil ["_law_one","_law_other"] [2]) .nil))) (.cons (.set (.name 5) (.tup (.cons (.int 0) (.cons (.int 1) .nil)))) (.cons (.forS (.tup (.cons (.name 6) (.cons (.name 7) (.cons (.name 8) .nil)))) (.seq (.var 0)) (.cons (.expr (.met .extend (.var 4) (.cons (.lst (.cons (.tup (.cons (.bin .Add (.bin .Mult (.ix (.var 5) (.int 0)) (.ix (.var 6) (.int 1))) (.bin .Mult (.ix (.var 6) (.int 0)) (.ix (.var 5) (.int 1)))) (.cons (.bin .Mult (.bin .Mult (.int 2) (.ix (.var 5) (.int 1))) (.ix (.var 6) (.int 1))) .nil))) (.cons (.var 6) .nil))) .nil))) (.cons (.set (.name 5) (.var 6)) .nil))) (.cons (.ret (.var 4)) .nil))))))
theorem n5:ax iQ cG (af cO)=true:=by decide +kernel
noncomputable abbrev mW:Stmt:=top 72
theorem Fn:ag ["_law_script","_law_k","_law_pot_here","_law_rides_here","_law_part_here","_law_stair","_law_ends","_law_t"] ["_law_script"] (ab mW):=by walk_at "SC"
noncomputable def Ex:Cfg:=mkc ["_law_script","_law_k","_law_pot_here","_law_rides_here","_law_part_here","_law_stair","_law_ends","_law_t"] mW 49
noncomputable def o_:Ss:=(.cons (.forS (.name 1) (.range1 (.blt .max2 (.cons (.int 1) (.cons (.blt .min2 (.cons (.blt .len (.cons (.var 0) .nil)) (.cons (.int 2) .nil))) .nil)))) (.cons (.set (.name 2) (.call 33 (.cons (.var 0) (.cons (.var 1) .nil)))) (.cons (.set (.name 3) (.call 40 (.cons (.var 2) .nil))) (.cons (.set (.name 4) (.call 41 (.cons (.var 2) .nil))) (.cons (.set (.name 5) (.call 32 (.cons (.call 42 (.cons (.var 2) (.cons (.var 3) (.cons (.var 4) .nil)))) (.cons (.bl true) .nil)))) (.cons (.ifS (.bop false (.cons (.not (.call 17 (.cons (.var 5) .nil))) (.cons (.cmp .NotEq (.call 32 (.cons (.tup .nil) (.cons (.bl true) .nil))) (.tup .nil)) (.cons (.cmp .NotEq (.cmp .Eq (.var 3) (.lst .nil)) (.cmp .Eq (.var 5) (.tup .nil))) .nil)))) (.cons (.ret (.bl false)) .nil) .nil) (.cons (.set (.name 6) (.comp (.ix (.var 0) (.int 1)) (.name 0) (.seq (.var 3)) .nil ["_law_ride_here"] [])) (.cons (.ifS (.bop true (.cons (.cmp .NotEq (.var 6) (.lst .nil)) (.cons (.cmp .NotEq (.call 20 (.cons (.var 5) .nil)) (.call 35 (.cons (.blt .max1 (.cons (.var 6) .nil)) (.cons (.var 4) .nil)))) .nil))) (.cons (.ret (.bl false)) .nil) .nil) (.cons (.forS (.name 7) (.seq (.call 48 (.cons (.var 5) (.cons (.var 3) (.cons (.var 4) .nil))))) (.cons (.ifS (.not (.call 47 (.cons (.var 5) (.cons (.var 3) (.cons (.var 4) (.cons (.var 7) .nil)))))) (.cons (.ret (.bl false)) .nil) .nil) .nil)) .nil))))))))) (.cons (.ret (.bl true)) .nil))
theorem G':ax Ex o_ (af mW)=true:=by decide +kernel
local macro_rules | `(tactic| walk_at "WP")=>do
 let l<-(("GM Ju JL Em KP Kn IY Kq JX Jn Js JV K2 JN KC Km Mt Lm K4 L8 Ko Ld K1 Li Lp KD KA Mv Lo Lr LS IZ La IT KZ Jc K' JH Iq LH K3 Kl L9 Ky Ll KQ IL Kv JM KF L0 Jq Iw Ji IF Fa IJ IB Jt IA JG KR Jf ID Ir nL vC vD IC Hk JW IV Jr Ka Ix KG KL Kk Kp JU KW KI IN CA IE Lb Jp Kx Ku Lf KJ KO Lj Jh JP J3 Kh LU MA Kr KH Jg JE Lx Ml LZ LI KS Le KU GI GU GG GJ GH GB Iv Iu Iy Iz Hs GX Hc GK GE EF GD Hd GC GL GN GF K5 Lk KB K0 t_ tG Ev Er Lg K9 KY Kw JF L7 K7 K8 Kt Lc Ja JJ Kf Lq Kz Hz J7 I0 KM JK HG K6 Ks KN L6 LJ Mm LA Mc Lh JC J' Je Γ_0 Γ_1 Γ_2 Γ_3 Γ_4 Γ_5 Γ_6 Γ_7 Γ_8 Γ_9 Ls Mb L3 LY LO Mn Mg Mq L' Mj Ma Lu Md LR Mx Ms LE LF L5 Mf LM L4 Mh Mz Lv L_ Lz L1 Ly LC LV LX LP Mu LG Me Mi Mr Lw LW frame Nat.add_assoc bc ck List.append_assoc List.length_append List.length_set List.map_cons List.map_nil List.length_cons List.length_nil List.replicate List.cons_append List.nil_append List.append_nil List.getElem?_cons_zero List.getElem?_cons_succ List.set_cons_zero List.set_cons_succ Option.some.injEq Cell.lst.injEq PV.int.injEq PV.bl.injEq PV.ref.injEq PV.str.injEq PV.tup.injEq PV.rdl.injEq List.cons.injEq and_true true_and exists_eq_left exists_eq_left' exists_eq_right exists_and_left exists_and_right exists_const Bool.not_true Bool.not_false Bool.not_not Bool.not_eq_true' decide_eq_true_eq decide_eq_false_iff_not false_and and_false false_or or_false if_true if_false Bool.false_eq_true reduceCtorEq reduceIte not_false_eq_true Nat.add_zero Nat.zero_add Nat.reduceAdd Nat.reduceSub Nat.reduceLeDiff Int.reduceToNat Int.reducePow Int.reduceLT Int.reduceLE Int.reduceNeg Int.reduceAdd Int.reduceSub Int.reduceMul gy dN exists_eq exists_eq' exists_false ne_eq not_true_eq_false and_assoc Option.join_some Option.join_none decide_true decide_false gm gA gC gL gR gY gT Int.reduceEq Nat.reduceEqDiff Bool.not_eq_false Bool.not_eq_true Bool.and_true Bool.true_and Bool.and_false Bool.false_and Bool.or_false Bool.or_true".splitOn " ").toArray.mapM fun s=>`(Lean.Parser.Tactic.simpLemma|$(Lean.mkIdent s.toName):ident))
 `(tactic|simp only[↓ko,↓ky,↓j8,↓kU,$l,*])
local macro_rules | `(tactic| walk_at "WPO")=>`(tactic| ((try walk_at "WP");repeat (simp only [uj];try walk_at "WP")))
theorem vz {as st Q}(h:cB as st Q):au Γ fL (frame 1 as) st (ad st Q):=by
 obtain⟨v,rfl,hb,k⟩:=h
 obtain⟨n,hn⟩:=mD hb
 unfold fL
 walk_at "WP"
 rw[wM hn] at k
 refine⟨n,hn,?_⟩
 cases e:cK "int" n with
 | false =>
  rw[e] at k
  exact .inl k
 | true =>
  rw[e] at k
  exact IG ⟨n,hn,.inl k⟩
theorem lE {as st Q}(h:aT as st Q):au Γ bZ (frame 2 as) st (ad st Q):=by
 obtain⟨n,d,rfl,k⟩:=h
 unfold bZ
 walk_at "WP"
 refine o9 Γm (fun m ρ s=>∃a b:Nat,ρ=[some (.int a),some (.int b)]/\s=st/\Nat.gcd a b=Nat.gcd n d/\m=b) (n:=d) ⟨n,d,rfl,rfl,rfl,rfl⟩ ?_
 rintro m ρ s ⟨a,b,rfl,rfl,hg,rfl⟩
 walk_at "WP"
 by_cases hb:(m:Int)=0
 ·rw[MJ (fun z=>z hb)]
  have:m=0:=by omega
  subst this
  rw[Nat.gcd_zero_right] at hg
  rw[hg]
  exact .inl k
 ·rw[ML hb]
  refine⟨by omega,a % m,Q7 _ (by omega),m,rfl,a % m,?_,?_,rfl⟩
  ·simp
  ·rw[<-hg,PJ a m,Nat.gcd_rec m a,PJ]
theorem Gw {xs:List PV}(h:xs.length=2):∃x y,xs=[x,y]:=by
 match xs,h with
 | [x,y],_=>exact⟨x,y,rfl⟩
theorem zX {k:Nat}{x y:PV}(h:(PV.tup [x,y]).bel k=true):x.bel k=true/\y.bel k=true:=by
 rw[PV.bel,PV.bels,PV.bels,PV.bels,Bool.and_true,M3] at h
 exact h
theorem pM {as st Q}(h:bj as st Q):au Γ db (frame 3 as) st (ad st Q):=by
 obtain⟨v,rfl,hb,k⟩:=h
 obtain⟨n,hn⟩:=mD hb
 unfold db
 walk_at "WP"
 refine⟨n,hn,?_⟩
 obtain⟨kt,kf⟩:=vY hn
 cases e:cK "tuple" n with
 | false =>
  rw[kf e] at k
  exact .inl k
 | true =>
  obtain⟨xs,rfl⟩:=kt e
  walk_at "WP"
  by_cases hl:xs.length=2
  ·obtain⟨x,y,rfl⟩:=Gw hl
   obtain⟨bx,by'⟩:=zX hb
   rw[ur] at k
   walk_at "WP"
   refine⟨x,rfl,bx,?_⟩
   cases x with
   | int i =>
    simp only[lw];walk_at "WP"
    refine⟨y,rfl,by',?_⟩
    cases y with
    | int j =>
     simp only[lw];walk_at "WP"
     by_cases h0:0<=i
     ·rw[ML h0]
      by_cases h1:1<=j
      ·rw[ML h1]
       refine⟨i.toNat,j.toNat,?_,?_⟩
       ·rw[Int.toNat_of_nonneg h0,Int.toNat_of_nonneg (by exact Int.le_of_lt ‹_›)]
       ·walk_at "WP"
        rw[tI h0 h1]
        exact .inl k
      ·rw[MJ h1]
       simp only[h1,false_and,and_false,decide_false] at k
       exact .inl k
     ·rw[MJ h0]
      simp only[h0,false_and,decide_false] at k
      exact .inl k
    | _=>simp only[lw];walk_at "WP";exact .inl k
   | _=>simp only[lw];walk_at "WP";exact .inl k
  ·rw[BA hl] at k
   rw[ML (by omega)]
   exact .inl k
theorem wc {as st Q}(h:cA as st Q):au Γ fB (frame 3 as) st (ad st Q):=by
 obtain⟨n,d,rfl,h1,h2,k⟩:=h
 unfold fB
 walk_at "WP"
 refine⟨n,d,rfl,?_⟩
 walk_at "WP"
 refine⟨nM h1 h2,nM h1 h2,?_⟩
 rw[<-QA,<-QA]
 exact .inl k
theorem F7 {as st Q}(h:jb as st Q):au Γ mn (frame 2 as) st (ad st Q):=by
 obtain⟨p,q,rfl,hp,hq,k⟩:=h
 unfold mn
 walk_at "WP"
 refine⟨aS hp.a hq.b,aS hq.a hp.b,aS hp.b hq.b,p.1*q.2+q.1*p.2,p.2*q.2,?_,NP hp.pos hq.pos,Fp hp.b hq.b,.inl k⟩
 rw[Q1,MR,MR,MR]
theorem F3 {as st Q}(h:iU as st Q):au Γ lW (frame 2 as) st (ad st Q):=by
 obtain⟨p,q,rfl,hp,hq,hle,k⟩:=h
 unfold lW
 walk_at "WP"
 refine⟨aS hp.a hq.b,aS hq.a hp.b,aS hp.b hq.b,p.1*q.2-q.1*p.2,p.2*q.2,?_,NP hp.pos hq.pos,Fp hp.b hq.b,.inl k⟩
 rw[OX hle,MR,MR,MR]
theorem Cw {as st Q}(h:fZ as st Q):au Γ jL (frame 2 as) st (ad st Q):=by
 obtain⟨p,q,rfl,hp,hq,k⟩:=h
 unfold jL
 walk_at "WP"
 refine⟨aS hp.a hq.a,aS hp.b hq.b,p.1*q.1,p.2*q.2,?_,NP hp.pos hq.pos,Fp hp.b hq.b,.inl k⟩
 rw[MR,MR]
theorem i_ {s:AH}{n m:Nat}{xs:List PV}{k:Bool->Prop}(h1:s[n]?=some (.lst xs))(h2:s[m]?=some (.lst []))(hd:bT 5 xs=true)(q:k xs.isEmpty):eqW s (.ref n) (.ref m) k:=by
 obtain⟨ds,e,d1,d2⟩:=bI hd
 refine⟨.list ds,.list [],by simp[pj,h1,e],by simp[pj,h2,PV.toDs],by simp[SeqAt.shaped,PyData.canLay0,PyData.depth,d1];omega,by simp[SeqAt.shaped,PyData.canLay0,PyData.canLayAll0,PyData.depth,PyData.depthAll],?_⟩
 have:PyData.eqv (.list ds) (.list [])=xs.isEmpty:=by
  cases xs with
  | nil=>simp[PV.toDs] at e;subst e;simp[PyData.eqv,PyData.eqvAll]
  | cons y ys =>
   cases ds with
   | nil=>rw[PV.toDs] at e;split at e <;> simp at e
   | cons=>simp[PyData.eqv,PyData.eqvAll]
 rw[this]
 exact q
theorem u7 {X:List Pc}:bT 5 (X.map pcV)=true:=ej fun v hv=>by
 obtain⟨p,_,rfl⟩:=MZ.mp hv
 rfl
theorem bA {st g:AH}{c:Cell}:(st++c::g)[st.length]?=some c:=by simp
theorem iT {st g:AH}{c c':Cell}:(st++c::g).set st.length c'=st++c'::g:=by
 rw[O7 _ _ (MM _),QS]
 rfl
theorem sub_le {p q:Nat × Nat}(hp:Sz 3000 p)(hq:Sz 3000 q)(h:val q<=val p):q.1*p.2<=p.1*q.2:=(cI hq.pos hp.pos).mpr h
theorem yT {as st Q}(h:eU as st Q):au Γ gJ (frame 7 as) st (ad st Q):=by
 obtain⟨b,a,p,rfl,hb,ha,hp,h1,h2,h3,h4,k⟩:=h
 unfold gJ
 walk_at "WP"
 refine ir ?_
 by_cases q:p.l=a.h
 ·rw[NW q]
  walk_at "WP"
  have c1:=ha.h.mono (k:=3000) (by decide)
  have c2:=ha.l.mono (k:=3000) (by decide)
  have c3:=ha.e.mono (k:=3000) (by decide)
  have c4:=hb.mono (k:=3000) (by decide)
  have c5:=hp.h.mono (k:=3000) (by decide)
  have c6:=hp.l.mono (k:=3000) (by decide)
  have c7:=hp.e.mono (k:=3000) (by decide)
  refine⟨a.h,a.l,rfl,c1,c2,sub_le c1 c2 h3,a.e,b,rfl,c3,c4,sub_le c3 c4 h1,p.h,p.l,rfl,c5,c6,sub_le c5 c6 h4,p.e,a.e,rfl,c7,c3,sub_le c7 c3 (NB h2),?_⟩
  have d1:=(i5 ha.h ha.l).mono (k:=3000) (by decide)
  have d2:=(i5 ha.e hb).mono (k:=3000) (by decide)
  have d3:=(i5 hp.h hp.l).mono (k:=3000) (by decide)
  have d4:=(i5 hp.e ha.e).mono (k:=3000) (by decide)
  refine⟨_,_,rfl,d1,d4,_,_,rfl,d3,d2,ir (.inl ?_)⟩
  unfold gB at k
  rw[NW q,Bool.true_and] at k
  exact k
 ·rw[NO q]
  walk_at "WP"
  unfold gB at k
  rw[NO q,Q5] at k
  exact .inl k
def LnI (st:AH)(L:List Pc)(i:Nat)(ρ:Fr)(s:AH):Prop:=∃(X:List Pc) (b:Nat × Nat) (g:AH) (a:Option PV),s=st++.lst (X.map pcV)::g/\ρ=[some (a8 L),some (.ref st.length),some (fr b),a]/\X.length<=i /\
  ((X=[]/\b=(0,1)/\i=0)\/∃Y c,X=Y++[c]/\fR L=Y++aH b c (L.drop i)/\Sz 1400 b/\c.Sz 1400/\val b<=c.E/\c.L<=c.H/\Ch c.E (L.drop i))
theorem kN {Y:List Pc}{c:Pc}:(Y++[c]).map pcV=Y.map pcV++[pcV c]:=by simp
theorem uN {Y:List Pc}{c:Pc}:((Y++[c]).map pcV).isEmpty=false:=by simp
theorem A_ {n:Nat}:ixN (n+1) (-1)=some n:=by
 unfold ixN
 simp
 omega
theorem Fd {as st Q}(h:j6 as st Q):au Γ lO (frame 4 as) st (ad st Q):=by
 obtain⟨L,rfl,hz,hL,hl,k⟩:=h
 unfold lO
 walk_at "WP"
 have s01:Sz 1400 (0,1):=⟨QE (by decide),O3 (by decide),by decide⟩
 refine c_ Γm (LnI st L) ⟨[],(0,1),[],none,rfl,rfl,MM _,.inl ⟨rfl,rfl,rfl⟩⟩ ?_ ?_
 ·rintro i v ρ s hi ⟨X,b,g,a,rfl,rfl,hXi,hX⟩
  refine⟨trivial,?_⟩
  rw[MN] at hi
  obtain⟨p,hp,rfl⟩:=M0.mp hi
  have il:=(MC.mp hp).1
  have hd:L.drop i=p::L.drop (i+1):=by rw[NU il,(MC.mp hp).2]
  have pz:=hz p (MQ hp)
  walk_at "WP"
  refine i_ (xs:=X.map pcV) (by simp) (by simp) u7 ?_
  rcases hX with⟨rfl,rfl,rfl⟩|⟨Y,c,rfl,hF,zb,zc,o1,o2,hc⟩
  ·rw[MJ (by simp)]
   refine i_ (xs:=[]) (by simp) (by simp) (by rw[bT]) ?_
   rw[ML (show ([]:List PV).isEmpty=true from rfl)]
   refine⟨⟨_,aw bA⟩,by simp,[p],(0,1),g++[.lst [],.lst []],some (pcV p),?_,rfl,by simp,.inr ⟨[],p,rfl,?_,s01,pz,?_⟩⟩
   ·rw[iT];rfl
   ·have:L=p::L.drop 1:=by simpa using hd
    rw[this]
    rfl
   ·have e:L=p::L.drop 1:=by simpa using hd
    rw[e] at hL
    exact⟨by rw[ao];exact aN hL.1.e.pos,hL.2.1,hL.2.2⟩
  ·rw[ML uN]
   rw[hd] at hc hF
   obtain⟨pok,c1,c2,c3⟩:=hc
   refine⟨_,ac bA,pcV c,by rw[kN];exact eJ,b,c,p,rfl,zb,zc,pz,o1,c1,o2,c2,?_⟩
   rw[aH] at hF
   have len:((Y++[c]).map pcV).length=Y.length+1:=by simp
   have lY:Y.length+1<=i:=by simpa using hXi
   cases gb:gB b c p with
   | true =>
    rw[ML gb] at hF
    walk_at "WP"
    refine⟨_,ac bA,pcV c,by rw[kN];exact eJ,?_⟩
    walk_at "WP"
    refine⟨Y.length,by rw[MS,NF];exact A_,Y++[c.mg p],b,g++[.lst []],some (pcV p),?_,rfl,by simp;exact Nat.le_of_lt ‹_›,.inr ⟨Y,c.mg p,rfl,hF,zb,⟨pz.e,zc.l,pz.h⟩,?_,?_,c3⟩⟩
    ·rw[iT,kN]
     simp
    ·show val b<=p.E
     grind
    ·show c.L<=p.H
     have e:p.l=c.h:=by
      unfold gB at gb
      rw[M3,decide_eq_true_eq] at gb
      exact gb.1
     have:p.L=c.H:=by unfold Pc.L Pc.H;rw[e]
     grind
   | false =>
    rw[MJ (by rw[gb];decide)] at hF
    walk_at "WP"
    refine i_ (xs:=(Y++[c]).map pcV) (by simp) (by simp) u7 ?_
    rw[uN,MJ (by decide)]
    refine⟨_,ac bA,pcV c,by rw[kN];exact eJ,?_⟩
    walk_at "WP"
    refine⟨⟨_,aw bA⟩,by rw[len];omega,Y++[c]++[p],c.e,g++[.lst [],.lst []],some (pcV p),?_,rfl,by simp;assumption,.inr ⟨Y++[c],p,rfl,?_,zc.e,pz,NB c1,c2,c3⟩⟩
    ·rw[iT]
     simp
    ·rw[hF]
     simp
 ·rintro ρ s ⟨X,b,g,a,rfl,rfl,hXi,hX⟩
  refine⟨trivial,?_⟩
  walk_at "WP"
  have fin:fR L=X:=by
   rw[MS] at hX
   rcases hX with⟨rfl,_,h0⟩|⟨Y,c,rfl,hF,_⟩
   ·rw[N1.mp h0];rfl
   ·rw[hF,P_];rfl
  refine⟨_,ac bA,.inr (.app ?_ ?_)⟩
  ·refine PV.bel_le (N5 _) ?_
   rw[PV.bel]
   clear hX fin hXi
   induction X with
   | nil=>rw[OH,PV.bels]
   | cons x xs ih=>rw[M7,PV.bels,ih];rfl
  ·rw[fin] at k
   exact k
theorem dS {α:Type}(U:List α):U=[]\/∃Y c,U=Y++[c]:=by
 rcases List.eq_nil_or_concat U with h|⟨Y,c,h⟩
 ·exact .inl h
 ·exact .inr ⟨Y,c,by rw[h,List.concat_eq_append]⟩
theorem dJ {p:Prop}{inst:Decidable p}{A B:Prop}(h1:p->A)(h2:¬p->B):@ite Prop p inst A B:=by
 by_cases h:p
 ·rw[ML h];exact h1 h
 ·rw[MJ h];exact h2 h
theorem BdU.mono {N M:Nat}{U:List Un3}(h:BdU N U)(hm:N<=M):BdU M U:=fun u hu=>⟨NI (h u hu).1 hm,NI (h u hu).2.1 hm,NI (h u hu).2.2 hm⟩
theorem Rt.at_:∀ {r:List Pc}{b hh:Rat}{i:Nat}{p:Pc},Rt b hh r->r[i]?=some p->p.Ok/\p.L<=p.H/\p.E<=p.H/\b<p.E/\hh<=p.L
 | q::r,b,hh,0,p,⟨h1,h2,h3,h4,h5,h6⟩,e=>by cases e;exact⟨h1,h4,h5,h2,h3⟩
 | q::r,b,hh,i+1,p,⟨h1,h2,h3,h4,h5,h6⟩,e=>by
  obtain⟨k1,k2,k3,k4,k5⟩:=h6.at_ (i:=i) (by simpa using e)
  exact⟨k1,k2,k3,by grind,by grind⟩
theorem Rt.two:∀ {r:List Pc}{b hh:Rat}{i:Nat}{q p:Pc},Rt b hh r->r[i]?=some q->r[i+1]?=some p->q.E<p.E/\q.H<=p.L
 | a::r,b,hh,0,q,p,⟨h1,h2,h3,h4,h5,h6⟩,e1,e2=>by
  cases e1
  have:=h6.at_ (i:=0) (by simpa using e2)
  exact⟨this.2.2.2.1,this.2.2.2.2⟩
 | a::r,b,hh,i+1,q,p,⟨h1,h2,h3,h4,h5,h6⟩,e1,e2=>h6.two (i:=i) (by simpa using e1) (by simpa using e2)
theorem RtF.at_ {L:List Pc}{i:Nat}{p:Pc}(h:RtF L)(e:L[i]?=some p):p.Ok/\p.L<=p.H/\p.E<=p.H:=by
 cases L with
 | nil=>simp at e
 | cons a r =>
  cases i with
  | zero=>cases e;exact⟨h.1,h.2.1,h.2.2.1⟩
  | succ i =>
   obtain⟨k1,k2,k3,k4,k5⟩:=h.2.2.2.2.at_ (i:=i) (by simpa using e)
   exact⟨k1,k2,k3⟩
theorem RtF.two {L:List Pc}{i:Nat}{q p:Pc}(h:RtF L)(e1:L[i]?=some q)(e2:L[i+1]?=some p):q.E<p.E/\q.H<=p.L:=by
 cases L with
 | nil=>simp at e1
 | cons a r =>
  cases i with
  | zero =>
   cases e1
   obtain⟨k1,k2,k3,k4,k5⟩:=h.2.2.2.2.at_ (i:=0) (by simpa using e2)
   exact⟨k4,k5⟩
  | succ i=>exact h.2.2.2.2.two (i:=i) (by simpa using e1) (by simpa using e2)
noncomputable def bg (L:List Pc):Nat->Nat × Nat
 | 0=>(0,1)
 | i+1=>((L[i]?).map Pc.e).getD (0,1)
noncomputable def hg (L:List Pc):Nat->Nat × Nat
 | 0=>(0,1)
 | i+1=>((L[i]?).map Pc.h).getD (0,1)
theorem iM {p q:Nat × Nat}{j:Nat}(hp:Sz j p)(hq:Sz j q)(h:val q<=val p):decide (p.1*q.2<q.1*p.2)=false:=NO fun z=>by
 have:=(iA hp.pos hq.pos).mp z
 grind
theorem jd {p q:Nat × Nat}{j:Nat}(hp:Sz j p)(hq:Sz j q)(h:val p<val q):decide (p.1*q.2<q.1*p.2)=true:=NW ((iA hp.pos hq.pos).mpr h)
theorem uz {α:Type}{L:List α}:(L.map fun _=>true).all id=true:=by simp
theorem NG.at_:∀ {L:List Pc}{b:Nat × Nat}{i:Nat}{a p:Pc},NG b L->L[i]?=some a->L[i+1]?=some p->gB (if i=0 then b else bg L i) a p=false
 | [],_,_,_,_,_,e,_=>by simp at e
 | [_],_,i,_,_,_,_,e=>by simp at e
 | x::y::r,b,0,a,p,h,e1,e2=>by
  cases e1
  cases e2
  exact h.1
 | x::y::r,b,i+1,a,p,h,e1,e2=>by
  have:=h.2.at_ (i:=i) (by simpa using e1) (by simpa using e2)
  rw[MJ (by exact Nat.succ_ne_zero _)]
  cases i with
  | zero=>simpa[bg] using this
  | succ i=>rw[MJ (by exact Nat.succ_ne_zero _)] at this;simpa[bg] using this
theorem bgS {L:List Pc}{i:Nat}{q:Pc}(h:L[i]?=some q):bg L (i+1)=q.e:=by show ((L[i]?).map Pc.e).getD (0,1)=_;rw[h];rfl
theorem nb {L:List Pc}{i:Nat}{q:Pc}(hR:RtF L)(hq:L[i]?=some q):Cop (bg L i)/\val (bg L i)<=q.E/\(val (bg L i)=q.E->q.L=q.H)/\(i≠0->val (bg L i)<q.E):=by
 obtain⟨qok,q1,q2⟩:=hR.at_ hq
 cases i with
 | zero =>
  refine⟨qU,?_,?_,fun z=>absurd rfl z⟩
  ·show val (0,1)<=_;rw[ao];exact aN qok.e.pos
  ·show val (0,1)=_->_
   rw[ao]
   cases L with
   | nil=>simp at hq
   | cons a r=>cases hq;exact hR.2.2.2.1
 | succ i =>
  have il:=(MC.mp hq).1
  have ha:L[i]?=some L[i]:=MK (by exact Nat.le_of_lt ‹_›)
  obtain⟨k1,k2⟩:=hR.two ha hq
  rw[bgS ha]
  exact⟨(hR.at_ ha).1.e,NB k1,fun z=>absurd z (by grind),fun _=>k1⟩
theorem bgZ {L:List Pc}{i k:Nat}(hz:SzL k L)(h:i<=L.length)(h1:1<=k):Sz k (bg L i):=by
 cases i with
 | zero=>exact(⟨QE (by decide),O3 (by exact Nat.ne_of_gt ‹_›),by decide⟩:Sz k (0,1))
 | succ i =>
  have ha:L[i]?=some L[i]:=MK (by assumption)
  rw[bgS ha]
  exact(hz _ (MQ ha)).e
theorem Ct {X:List Pc}{n:Nat}:(a8 X).bel n=true:=by
 refine PV.bel_le (N5 _) ?_
 rw[PV.bel]
 induction X with
 | nil=>rw[OH,PV.bels]
 | cons x xs ih=>rw[M7,PV.bels,ih];rfl
theorem gQ {X:List Pc}:aP 4 (a8 X)=true:=qP fun v hv=>by
 obtain⟨p,_,rfl⟩:=MZ.mp hv
 rfl
theorem fW {M:List PV}:PV.same (.tup M) (.tup [])=M.isEmpty:=by cases M <;> simp[PV.same,PV.sames]
theorem RU.rt {d:Nat}(h0:0<d):∀ {U:List Un3}{b hh:Nat},RU b hh U->Rt ((b:Rat)/d) ((hh:Rat)/d) (U.map (b8 d))
 | [],_,_,_=>trivial
 | u::r,b,hh,⟨h1,h2,h3,h4,h5⟩=>by
  have dp:=av h0
  have lt:∀ {x y:Nat},x<y->(x:Rat)/d<(y:Rat)/d:=fun h=>by
   rw[QN dp]
   have e:∀y:Rat,y/d*d=y:=fun y=>by grind
   rw[e]
   exact O2.mpr h
  have le:∀ {x y:Nat},x<=y->(x:Rat)/d<=(y:Rat)/d:=fun {x y} h=>by
   by_cases e:x=y
   ·rw[e];exact MV
   ·exact NB (lt (by omega))
  have ih:=RU.rt h0 h5
  refine⟨⟨.low h0,.low h0,.low h0⟩,?_,?_,?_,?_,?_⟩
  ·show _<val (aG u.1 d);rw[aA h0];exact lt h1
  ·show _<=val (aG u.2.1 d);rw[aA h0];exact le h2
  ·show val (aG u.2.1 d)<=val (aG u.2.2 d);rw[aA h0,aA h0];exact le h3
  ·show val (aG u.1 d)<=val (aG u.2.2 d);rw[aA h0,aA h0];exact le h4
  ·show Rt (val (aG u.1 d)) (val (aG u.2.2 d)) _
   rw[aA h0,aA h0]
   exact ih
theorem RUF.rt {d:Nat}(h0:0<d){U:List Un3}(h:RUF U):RtF (U.map (b8 d)):=by
 cases U with
 | nil=>trivial
 | cons u r =>
  obtain⟨h1,h2,h3,h4⟩:=h
  have dp:=av h0
  have le:∀ {x y:Nat},x<=y->(x:Rat)/d<=(y:Rat)/d:=fun {x y} h=>by
   rw[<-QU,QN dp]
   have e:∀y:Rat,y/d*d=y:=fun y=>by grind
   rw[e,QU]
   exact NJ.mpr h
  refine⟨⟨.low h0,.low h0,.low h0⟩,?_,?_,?_,?_⟩
  ·show val (aG u.2.1 d)<=val (aG u.2.2 d);rw[aA h0,aA h0];exact le h1
  ·show val (aG u.1 d)<=val (aG u.2.2 d);rw[aA h0,aA h0];exact le h2
  ·show 0=val (aG u.1 d)->val (aG u.2.1 d)=val (aG u.2.2 d)
   rw[aA h0,aA h0,aA h0]
   intro z
   have:u.1=0:=by
    have e:(u.1:Rat)=0:=by grind
    exact Rat.natCast_eq_zero_iff.mp e
   rw[h3 this]
  ·show Rt (val (aG u.1 d)) (val (aG u.2.2 d)) _
   rw[aA h0,aA h0]
   exact h4.rt h0
theorem wV:∀ {r:List Pc}{b:Nat × Nat}{a:Pc},(aH b a r).length<=r.length+1
 | [],b,a=>MM _
 | q::r,b,a=>by
  rw[aH]
  by_cases g:gB b a q=true
  ·rw[ML g]
   have:=wV (r:=r) (b:=b) (a:=a.mg q)
   simp;exact Nat.le_succ_of_le ‹_›
  ·rw[MJ g]
   have:=wV (r:=r) (b:=a.e) (a:=q)
   simp;assumption
theorem me {L:List Pc}:(fR L).length<=L.length:=by
 cases L with
 | nil=>exact MM _
 | cons a r=>exact wV
theorem rS {L:List Pc}{t:Rat}(hR:RtF L):∀ {i:Nat},i<=L.length->(i=0\/val (bg L i)<t)->cm 0 L t=cm (val (bg L i)) (L.drop i) t
 | 0,_,_=>by
  show _=cm (val (0,1)) (L.drop 0) t
  rw[ao,QM]
 | i+1,hi,h=>by
  have ha:L[i]?=some L[i]:=MK (by assumption)
  have h':val (bg L (i+1))<t:=h.resolve_left (by exact Nat.succ_ne_zero _)
  rw[bgS ha] at h' |-
  obtain⟨n1,n2,n3,n4⟩:=nb hR ha
  rw[rS hR (i:=i) (by exact Nat.le_of_lt ‹_›) (by grind),NU (show i<L.length by assumption)]
  rw[cm,MJ (show ¬t<=(L[i]).E by grind)]
theorem ox {L:List Pc}{i:Nat}:bgx L i=bg L i:=by cases i <;> rfl
theorem tV {as st Q}(h:cM as st Q):au Γ eC (frame 2 as) st (ad st Q):=by
 obtain⟨p,q,rfl,hp,hq,k⟩:=h
 unfold eC
 walk_at "WP"
 exact⟨aS hp.a hq.b,aS hq.a hp.b,.inl k⟩
theorem vS {as st Q}(h:cC as st Q):au Γ fF (frame 2 as) st (ad st Q):=by
 obtain⟨p,q,rfl,hp,hq,k⟩:=h
 unfold fF
 walk_at "WP"
 refine⟨aS hp.a hq.b,aS hq.a hp.b,?_⟩
 rw[<-MR,<-MR]
 simp only[Int.ofNat_lt]
 exact .inl k
theorem dt {p:Nat × Nat}(h:0<p.2):(p.1:Rat)=val p*(p.2:Rat):=by
 have:(p.2:Rat)≠0:=by simpa using Nat.pos_iff_ne_zero.mp h
 unfold val
 grind
theorem xy {N Y F G X c:Rat}(hc:c≠0)(h:N<F):(c*(Y*(F-X)+G*(X-N)))/(c*(F-N))=Y+(G-Y)*((X-N)/(F-N)):=by
 have:F-N≠0:=by grind
 grind
theorem FV {as st Q}(h:kP as st Q):au Γ lI (frame 1 as) st (ad st Q):=by
 obtain⟨L,rfl,k⟩:=h
 unfold lI
 walk_at "WP"
 refine dP (n:=4) (by decide) gQ rfl ?_
 rcases List.eq_nil_or_concat L with rfl|⟨r,p,rfl⟩
 ·exact .inl k
 ·rw[List.concat_eq_append] at k |-
  have e:PV.same (a8 (r++[p])) (PV.tup [])=false:=by
   rw[fW]
   simp
  rw[OZ] at k
  rw[e,MJ MF]
  refine⟨pcV p,by rw[M8];exact eJ,?_⟩
  walk_at "WP"
  exact .inl k
theorem pC {as st Q}(h:bC as st Q):au Γ cT (frame 2 as) st (ad st Q):=by
 obtain⟨L,i,rfl,hi,k⟩:=h
 unfold cT
 walk_at "WP"
 cases i with
 | zero=>rw[ML (by rfl)];exact .inl k
 | succ i =>
  rw[MJ (by omega)]
  have ha:L[i]?=some L[i]:=MK (by assumption)
  have e:((i+1:Nat):Int)-1=(i:Int):=by omega
  rw[e]
  refine⟨pcV L[i],bB (by rw[MN,ha];rfl),?_⟩
  walk_at "WP"
  rw[ox,bgS ha] at k
  exact .inl k
theorem pS {as st Q}(h:bQ as st Q):au Γ cY (frame 10 as) st (ad st Q):=by
 obtain⟨sa,sb,sc,sd,m,nx,ny,fx,fy,x,rfl,j2,⟨z1,z2,z3,z4,z5⟩,⟨v1,v2,v3⟩,k⟩:=h
 unfold cY
 walk_at "WP"
 have hD:nx.1*x.2<=x.1*nx.2:=(cI z1.pos z5.pos).mpr v2
 have hE:x.1*fx.2<=fx.1*x.2:=(cI z5.pos z3.pos).mpr v3
 have cD:(x.1:Int)*nx.2-nx.1*x.2=((x.1*nx.2-nx.1*x.2:Nat):Int):=by rw[OX hD,MR,MR]
 have cE:(fx.1:Int)*x.2-x.1*fx.2=((fx.1*x.2-x.1*fx.2:Nat):Int):=by rw[OX hE,MR,MR]
 refine⟨_,_,rfl,z5.mono (by omega),z1.mono (by omega),?_⟩
 rw[cD]
 walk_at "WP"
 refine⟨?_,_,_,rfl,z3.mono (by omega),z5.mono (by omega),?_⟩
 rotate_left
 rw[cE]
 walk_at "WP"
 simp only[<-Int.natCast_mul,<-Int.natCast_add]
 generalize hDd:x.1*nx.2-nx.1*x.2=D
 generalize hEe:fx.1*x.2-x.1*fx.2=E
 have p1:=av z1.pos
 have p2:=av z2.pos
 have p3:=av z3.pos
 have p4:=av z4.pos
 have p5:=av z5.pos
 have qD:(D:Rat)=(val x-val nx)*(x.2*nx.2):=by
  have:=NV (fun k:Nat=>(k:Rat)) (N6 hD)
  rw[hDd] at this
  simp only[Rat.natCast_add,Rat.natCast_mul] at this
  rw[dt z1.pos,dt z5.pos] at this
  grind
 have qE:(E:Rat)=(val fx-val x)*(fx.2*x.2):=by
  have:=NV (fun k:Nat=>(k:Rat)) (N6 hE)
  rw[hEe] at this
  simp only[Rat.natCast_add,Rat.natCast_mul] at this
  rw[dt z3.pos,dt z5.pos] at this
  grind
 have bD:D<2 ^ (m+sa):=by rw[<-hDd];exact M4 (PX _ _) (ay z5.a z1.b)
 have bE:E<2 ^ (sc+m):=by rw[<-hEe];exact M4 (PX _ _) (ay z3.a z5.b)
 have b1:D*fx.2<2 ^ (m+sa+sc):=ay bD z3.b
 have b2:E*nx.2<2 ^ (m+sa+sc):=by
  have:=ay bE z1.b
  rwa [show sc+m+sa=m+sa+sc by omega] at this
 have a1:ny.1*fy.2<2 ^ (sb+sd):=ay z2.a z4.b
 have a2:fy.1*ny.2<2 ^ (sb+sd):=by
  have:=ay z4.a z2.b
  rwa [QH sd sb] at this
 have a3:ny.2*fy.2<2 ^ (sb+sd):=ay z2.b z4.b
 have b3:E*nx.2+D*fx.2<2 ^ (m+sa+sc+1):=by
  have:(2:Nat) ^ (m+sa+sc+1)=2 ^ (m+sa+sc)+2 ^ (m+sa+sc):=by rw[QT];omega
  omega
 have c1:=ay a1 b2
 have c2:=ay a2 b1
 have c3:=ay a3 b3
 have c4:ny.1*fy.2*(E*nx.2)+fy.1*ny.2*(D*fx.2)<2 ^ (sa+sb+sc+sd+m+2):=by
  have h1:(2:Nat) ^ (sb+sd+(m+sa+sc))+2 ^ (sb+sd+(m+sa+sc))<=2 ^ (sa+sb+sc+sd+m+2):=by
   have e:2 ^ (sb+sd+(m+sa+sc)+1)<=2 ^ (sa+sb+sc+sd+m+2):=bp (by omega)
   rw[QT] at e
   omega
  omega
 have up:∀ {a j:Nat},a<2 ^ j->j<=3000->a<2 ^ 3000:=fun h hj=>MG h (bp hj)
 have dpos:0<E*nx.2+D*fx.2:=by
  refine QK fun z=>?_
  have e:((E*nx.2+D*fx.2:Nat):Rat)=0:=by rw[z];rfl
  simp only[Rat.natCast_add,Rat.natCast_mul] at e
  rw[qD,qE] at e
  have:(val fx-val nx)*((fx.2:Rat)*x.2*nx.2)=0:=by grind
  have w:0<(val fx-val nx)*((fx.2:Rat)*x.2*nx.2):=NC (by grind) (NC (NC p3 p5) p1)
  grind
 have hpos:=NP (NP z2.pos z4.pos) dpos
 refine⟨aS (up bE (by omega)) (up z1.b (by omega)),aS (up z2.a (by omega)) (up z4.b (by omega)),aS (up a1 (by omega)) (up b2 (by omega)),aS (up z4.a (by omega)) (up z2.b (by omega)),aS (up a2 (by omega)) (up b1 (by omega)),aS (up z2.b (by omega)) (up z4.b (by omega)),aS (up a3 (by omega)) (up b3 (by omega)),
  _,_,rfl,hpos,MG c3 (bp (by omega)),.inl ?_⟩
 rw[y7]
 refine k _ ⟨bF hpos,t3 hpos⟩ ⟨M4 (ga _ _) c4,M4 (fS _ _) (MG c3 (bp (by omega))),bF hpos⟩ ?_
 rw[aA hpos]
 simp only[Rat.natCast_add,Rat.natCast_mul]
 rw[qD,qE,dt z2.pos,dt z4.pos]
 have hc:(ny.2:Rat)*fy.2*fx.2*x.2*nx.2≠0:=by
  have:=NC (NC (NC (NC p2 p4) p3) p5) p1
  grind
 rw[<-xy (Y:=val ny) (G:=val fy) (X:=val x) hc v1]
 congr 1 <;> grind
 exact aS (MG (M4 (PX _ _) (ay z5.a z1.b)) (bp (by omega))) (MG z3.b (bp (by omega)))
theorem w_ {L:List Pc}{i:Nat}{p:Pc}{t:Rat}(hR:RtF L)(hp:L[i]?=some p)(hb:i=0\/val (bg L i)<t)(ht:t<=p.E):cm 0 L t=some (if val (bg L i)=p.E then p.L else p.L+(p.H-p.L)*((t-val (bg L i))/(p.E-val (bg L i)))):=by
 have il:=(MC.mp hp).1
 rw[rS hR (OA il) hb,NU il,(MC.mp hp).2,cm,ML ht]
theorem AX {as st Q}(h:fU as st Q):au Γ ig (frame 6 as) st (ad st Q):=by
 obtain⟨j,m,L,i,p,t,rfl,⟨j1,j2⟩,hR,hz,hp,ct,zt,bt,ht,k⟩:=h
 rw[ox] at bt k
 unfold ig
 walk_at "WP"
 have il:=(MC.mp hp).1
 have pz:=hz p (MQ hp)
 obtain⟨pok,p1,p2⟩:=hR.at_ hp
 obtain⟨n1,n2,n3,n4⟩:=nb hR hp
 have bz:Sz j (bg L i):=bgZ hz (by exact Nat.le_of_lt ‹_›) j1
 refine⟨pcV p,bB (by rw[MN,hp];rfl),?_⟩
 walk_at "WP"
 refine ir ?_
 by_cases q:t=p.e
 ·rw[NW q,ML rfl]
  refine .inl (k p.h pok.h (pz.h.mono (by omega)) ?_)
  rw[q]
  by_cases z:val (bg L i)=p.E
  ·rw[ML z];exact(n3 z).symm
  ·rw[MJ z]
   have:val p.e-val (bg L i)≠0:=by grind
   grind
 ·rw[NO q,MJ MF]
  have lt:val t<p.E:=by
   have:val t≠p.E:=fun z=>q (ft ct pok.e z)
   grind
  refine⟨L,i,rfl,by exact Nat.le_of_lt ‹_›,?_⟩
  rw[ox]
  walk_at "WP"
  refine⟨j,j,j,j,m,_,_,_,_,_,rfl,by omega,⟨bz,pz.l,pz.e,pz.h,zt⟩,⟨by grind,bt,ht⟩,fun r cr sr vr=>.inl (k r cr (sr.mono (by omega)) ?_)⟩
  rw[MJ (by grind),vr]
theorem oJ {a w:Rat}(hw:0<w)(h0:0<=a)(h1:a<=w):∃q,a/w=q/\q*w=a/\0<=q/\q<=1:=by
 have w0:w≠0:=by grind
 have e:a/w*w=a:=by grind
 refine⟨a/w,rfl,e,?_,?_⟩
 ·refine MH fun z=>?_
  have:=NC (a:=-(a/w)) (b:=w) (by grind) hw
  grind
 ·refine MH fun z=>?_
  have:=NC (a:=a/w-1) (b:=w) (by grind) hw
  grind
theorem seg {b E L H t:Rat}(hb:b<E)(h0:b<=t)(h1:t<=E)(hL:L<=H):L<=L+(H-L)*((t-b)/(E-b))/\L+(H-L)*((t-b)/(E-b))<=H:=by
 obtain⟨q,e,e1,e2,e3⟩:=oJ (a:=t-b) (w:=E-b) (by grind) (by grind) (by grind)
 rw[e]
 have m1:=M5 (a:=H-L) (b:=q) (by grind) e2
 have m2:=M5 (a:=H-L) (b:=1-q) (by grind) (by grind)
 constructor <;> grind
theorem B1 {b E L H t:Rat}(hb:b<E)(h0:b<=t)(h1:t<=E)(hL:b<=L)(hH:E<=H):t<=L+(H-L)*((t-b)/(E-b)):=by
 obtain⟨q,e,e1,e2,e3⟩:=oJ (a:=t-b) (w:=E-b) (by grind) (by grind) (by grind)
 rw[e]
 have m1:=M5 (a:=L-b) (b:=1-q) (by grind) (by grind)
 have m2:=M5 (a:=H-E) (b:=q) (by grind) e2
 grind
theorem pv {b E L H t u:Rat}(hb:b<E)(h0:b<=t)(htu:t<=u)(h1:u<=E)(hL:L<=H):L+(H-L)*((t-b)/(E-b))<=L+(H-L)*((u-b)/(E-b)):=by
 obtain⟨q,e,e1,e2,e3⟩:=oJ (a:=u-t) (w:=E-b) (by grind) (by grind) (by grind)
 have s:(u-b)/(E-b)=(t-b)/(E-b)+q:=by
  rw[<-e]
  have:E-b≠0:=by grind
  grind
 rw[s]
 have m1:=M5 (a:=H-L) (b:=q) (by grind) e2
 grind
theorem xD:∀ {L:List Pc}{b hh t y:Rat},Rt b hh L->b<=hh->b<t->cm b L t=some y->hh<=y/\t<=y
 | [],_,_,_,_,_,_,_,e=>by cases e
 | p::r,b,hh,t,y,⟨h1,h2,h3,h4,h5,h6⟩,hb,ht,e=>by
  rw[cm] at e
  by_cases q:t<=p.E
  ·rw[ML q,MJ (by grind)] at e
   cases e
   have s1:=seg h2 (NB ht) q h4
   have s2:=B1 h2 (NB ht) q (show b<=p.L by grind) h5
   exact⟨by grind,s2⟩
  ·rw[MJ q] at e
   have:=xD h6 h5 (by grind) e
   exact⟨by grind,this.2⟩
theorem EC:∀ {L:List Pc}{b hh t u y z:Rat},Rt b hh L->b<=hh->b<t->t<=u->cm b L t=some y->cm b L u=some z->y<=z
 | [],_,_,_,_,_,_,_,_,_,_,e,_=>by cases e
 | p::r,b,hh,t,u,y,z,⟨h1,h2,h3,h4,h5,h6⟩,hb,ht,tu,e,e'=>by
  rw[cm] at e e'
  by_cases q:t<=p.E
  ·rw[ML q,MJ (by grind)] at e
   cases e
   by_cases q':u<=p.E
   ·rw[ML q',MJ (by grind)] at e'
    cases e'
    exact pv h2 (NB ht) tu q' h4
   ·rw[MJ q'] at e'
    have:=(xD h6 h5 (by grind) e').1
    have s1:=seg h2 (NB ht) q h4
    grind
  ·rw[MJ q] at e
   rw[MJ (by grind)] at e'
   exact EC h6 h5 (by grind) tu e e'
theorem wb {L:List Pc}{t y:Rat}(hR:RtF L)(h0:0<=t)(e:cm 0 L t=some y):t<=y:=by
 cases L with
 | nil=>cases e
 | cons p r =>
  obtain⟨h1,h2,h3,h4,h5⟩:=hR
  rw[cm] at e
  have pE:=aN h1.e.pos
  have pL:=aN h1.l.pos
  by_cases q:t<=p.E
  ·rw[ML q] at e
   by_cases z:0=p.E
   ·rw[ML z] at e
    cases e
    have:=h4 z
    grind
   ·rw[MJ z] at e
    cases e
    exact B1 (by grind) h0 q pL h3
  ·rw[MJ q] at e
   exact(xD h5 h3 (by grind) e).2
theorem Bw {L:List Pc}{t u y z:Rat}(hR:RtF L)(h0:0<=t)(tu:t<=u)(e:cm 0 L t=some y)(e':cm 0 L u=some z):y<=z:=by
 cases L with
 | nil=>cases e
 | cons p r =>
  obtain⟨h1,h2,h3,h4,h5⟩:=hR
  rw[cm] at e e'
  have pE:=aN h1.e.pos
  by_cases q:t<=p.E
  ·rw[ML q] at e
   have yH:y<=p.H:=by
    by_cases z:0=p.E
    ·rw[ML z] at e;cases e;exact h2
    ·rw[MJ z] at e;cases e;exact(seg (by grind) h0 q h2).2
   by_cases q':u<=p.E
   ·rw[ML q'] at e'
    by_cases z:0=p.E
    ·rw[ML z] at e e';cases e;cases e';exact MV
    ·rw[MJ z] at e e';cases e;cases e';exact pv (by grind) h0 tu q' h2
   ·rw[MJ q'] at e'
    have:=(xD h5 h3 (by grind) e').1
    grind
  ·rw[MJ q] at e
   rw[MJ (by grind)] at e'
   exact EC h5 h3 (by grind) tu e e'
theorem cx:∀ {L:List Pc}{b t:Rat},(∀p∈L,p.E<t)->cm b L t=none
 | [],b,t,_=>rfl
 | p::r,b,t,h=>by
  have:=h p (NH ..)
  rw[cm,MJ (by grind)]
  exact cx fun q hq=>h q (MT _ hq)
theorem mG {Y:List Pc}:∀ {X:List Pc}{b t y:Rat},cm b X t=some y->cm b (X++Y) t=some y
 | [],b,t,y,h=>by cases h
 | p::r,b,t,y,h=>by
  rw[P8,cm]
  rw[cm] at h
  by_cases q:t<=p.E
  ·rw[ML q] at h |-;exact h
  ·rw[MJ q] at h |-;exact mG h
noncomputable def li (b:Rat)(X:List Pc):Rat:=(X.getLast?.map Pc.E).getD b
theorem lf {b:Rat}{a:Pc}{Y:List Pc}:li b (a::Y)=li a.E Y:=by
 unfold li
 cases Y with
 | nil=>rfl
 | cons c Y=>simp[List.getLast?_cons]
theorem mN {Y:List Pc}:∀ {X:List Pc}{b t:Rat},cm b X t=none->cm b (X++Y) t=cm (li b X) Y t
 | [],b,t,h=>rfl
 | p::r,b,t,h=>by
  rw[P8,cm,lf]
  rw[cm] at h
  by_cases q:t<=p.E
  ·rw[ML q] at h;cases h
  ·rw[MJ q] at h |-;exact mN h
theorem fD:∀ {L:List Pc}{b t u z:Rat},t<=u->cm b L u=some z->∃y,cm b L t=some y
 | [],b,t,u,z,_,h=>by cases h
 | p::r,b,t,u,z,tu,h=>by
  rw[cm] at h |-
  by_cases q:t<=p.E
  ·rw[ML q];exact⟨_,rfl⟩
  ·rw[MJ (by grind)] at h
   rw[MJ q]
   exact fD tu h
theorem pcf {b E L H s t:Rat}(hb:b<E)(hs:H-L=s*(E-b)):L+(H-L)*((t-b)/(E-b))=L+s*(t-b):=by
 have:E-b≠0:=by grind
 rw[hs]
 grind
theorem jw {b t:Rat}{p:Pc}{r:List Pc}(ht:p.E<t):cm b (p::r) t=cm p.E r t:=by
 rw[cm,MJ (by grind)]
theorem uF {b E L H hh:Rat}(hb:b<E)(hL:L<=H)(h:∀t,b<t->t<=E->hh<=L+(H-L)*((t-b)/(E-b))):hh<=L:=by
 refine MH fun z=>?_
 obtain⟨s,hs⟩:∃s,H-L=s*(E-b):=⟨(H-L)/(E-b),by grind⟩
 have g:∀t,b<t->t<=E->hh<=L+s*(t-b):=fun t a c=>by have:=h t a c;rw[pcf hb hs] at this;exact this
 have gE:=g E hb (by grind)
 obtain⟨d,hd⟩:∃d,d=hh-L:=⟨_,rfl⟩
 have dp:0<d:=by grind
 have sp:0<s:=by
  refine MH fun z'=>?_
  have:=M5 (a:=-s) (b:=E-b) (by grind) (by grind)
  grind
 have s2:2*s≠0:=by grind
 obtain⟨q,hq⟩:∃q,q*(2*s)=d:=⟨d/(2*s),by grind⟩
 have qp:0<q:=by
  refine MH fun z'=>?_
  have:=M5 (a:=-q) (b:=2*s) (by grind) (by grind)
  grind
 have qE:q<=E-b:=by
  refine MH fun z'=>?_
  have:=NC (a:=q-(E-b)) (b:=s) (by grind) sp
  have:=NC qp sp
  grind
 have:=g (b+q) (by grind) (by grind)
 grind
theorem Ez:∀ {L:List Pc}{b hh:Rat},Ch b L->(∀t y,b<t->cm b L t=some y->hh<=y/\t<=y)->(∀t u y z,b<t->t<=u->cm b L t=some y->cm b L u=some z->y<=z)->Rt b hh L
 | [],b,hh,_,_,_=>trivial
 | p::r,b,hh,⟨k1,k2,k3,k4⟩,h1,h2=>by
  have cmp:∀t,b<t->t<=p.E->cm b (p::r) t=some (p.L+(p.H-p.L)*((t-b)/(p.E-b))):=fun t a c=>by rw[cm,ML c,MJ (by grind)]
  have eE:p.L+(p.H-p.L)*((p.E-b)/(p.E-b))=p.H:=by
   have:p.E-b≠0:=by grind
   grind
  have cE:=cmp p.E k2 MV
  rw[eE] at cE
  refine⟨k1,k2,uF k2 k3 (fun t a c=>(h1 t _ a (cmp t a c)).1),k3,(h1 _ _ k2 cE).2,Ez k4 (fun t y a c=>?_) (fun t u y z a c d e=>?_)⟩
  ·rw[<-jw (b:=b) a] at c
   exact⟨h2 p.E t p.H y k2 (NB a) cE c,(h1 t y (by grind) c).2⟩
  ·rw[<-jw (b:=b) a] at d
   rw[<-jw (b:=b) (by grind)] at e
   exact h2 t u y z (by grind) c d e
theorem Fm {L:List Pc}(h:LOk L)(h0:∀p r,L=p::r->0=p.E->p.L=p.H)(h1:∀t y,0<=t->cm 0 L t=some y->t<=y)(h2:∀t u y z,0<=t->t<=u->cm 0 L t=some y->cm 0 L u=some z->y<=z):RtF L:=by
 cases L with
 | nil=>trivial
 | cons p r =>
  obtain⟨k1,k3,k4⟩:=h
  have p0:0<=p.E:=aN k1.e.pos
  have cE:cm 0 (p::r) p.E=some p.H:=by
   rw[cm,ML MV]
   by_cases e:0=p.E
   ·rw[ML e,h0 p r rfl e]
   ·rw[MJ e]
    have:p.E-0≠0:=by grind
    congr 1
    grind
  refine⟨k1,k3,h1 _ _ p0 cE,h0 p r rfl,Ez k4 (fun t y a c=>?_) (fun t u y z a c d e=>?_)⟩
  ·rw[<-jw (b:=0) a] at c
   exact⟨h2 p.E t p.H y p0 (NB a) cE c,h1 t y (by grind) c⟩
  ·rw[<-jw (b:=0) a] at d
   rw[<-jw (b:=0) (by grind)] at e
   exact h2 t u y z (by grind) c d e
theorem Im {b:Rat}{p:Pc}{r:List Pc}:∃y,cm b (p::r) p.E=some y:=⟨_,by rw[cm,ML MV]⟩
theorem qh {as st Q}(h:bN as st Q):au Γ df (frame 4 as) st (ad st Q):=by
 obtain⟨n,d,rfl,h0,h1,k⟩:=h
 unfold df
 walk_at "WP"
 refine o9 Γm (fun j ρ s=>s=st/\∃a:Nat,ρ=[some (.int n),some (.int d),some (.int a),some (.int j)]/\Nat.gcd a j=Nat.gcd n d) (n:=d) ⟨rfl,n,rfl,rfl⟩ ?_
 rintro m ρ s ⟨rfl,a,rfl,hg⟩
 walk_at "WP"
 by_cases hb:(0:Int)<m
 ·rw[ML hb]
  exact⟨hb,a % m,Q7 _ (by omega),m,rfl,by simp,by rw[<-hg,PJ a m,Nat.gcd_rec m a,PJ]⟩
 ·rw[MJ hb]
  have:m=0:=by omega
  subst this
  rw[Nat.gcd_zero_right] at hg
  subst hg
  refine⟨nM h0 h1,nM h0 h1,?_⟩
  rw[<-QA,<-QA]
  exact .inl k
theorem uO {as st Q}(h:cW as st Q):au Γ eM (frame 3 as) st (ad st Q):=by
 obtain⟨p,many,rfl,⟨q,r,hp,hq,hr0,hr1⟩,hm,hm2,k⟩:=h
 have g0:Gr st p st:=.refl ⟨q,r,hp,hq,hr0,hr1⟩
 unfold eM
 walk_at "WP"
 refine⟨_,ac hp,_,t_,?_⟩
 walk_at "WP"
 by_cases hz:0<q
 ·rw[ML hz]
  refine⟨_,ac hp,_,t_,?_⟩
  walk_at "WP"
  refine⟨xc hm hm2,_,hp,0,rfl,?_⟩
  exact .inl (k _ _ (Int.emod_nonneg _ (by omega)) (Int.emod_lt_of_pos _ hm) (g0.set ⟨Int.ediv_nonneg (by assumption) (by exact Int.le_of_lt ‹_›),hr0,hr1⟩))
 ·rw[MJ hz]
  refine⟨_,ac hp,_,tG,?_⟩
  walk_at "WP"
  refine⟨AS (by decide) (by decide),_,hp,1,rfl,?_⟩
  have hs:∀z,(st.set p (pc q z))[p]?=some (pc q z):=fun z=>M_ (aK hp)
  refine⟨_,ac (hs _),_,tG,_,ac (hs _),_,tG,?_⟩
  walk_at "WP"
  refine⟨ip (by omega) (by omega),xc (by decide) (by decide),hm,?_⟩
  exact .inl (k _ _ (Int.emod_nonneg _ (by omega)) (Int.emod_lt_of_pos _ hm) (g0.set ⟨hq,by omega,by omega⟩))
theorem vK {as st Q}(h:dw as st Q):au Γ fK (frame 3 as) st (ad st Q):=by
 obtain⟨ns,m,rfl,hm,k⟩:=h
 unfold fK
 walk_at "WP"
 have fin:∀z:Int,wp 10 18/\CMB 97 (m:Int)/\Ret st Q (PV.ref (List.length st)) (st++[Cell.lst [PV.int (if 0<(z.natAbs:Int)-1000000000000000000 then (z.natAbs:Int)-1000000000000000000 else 0),PV.int ((z.natAbs:Int) % 2147483629+97*m+1)]]):=fun z =>
  ⟨HL,ip (by decide) (by decide),.inl (k _ _ ⟨by split <;> omega,by exact Int.natCast_nonneg _,by omega⟩)⟩
 rw[MS]
 by_cases hl:m<ns.length
 ·rw[ML (by exact Int.ofNat_le.mpr ‹_›)]
  refine⟨_,Bs hl,?_⟩
  walk_at "WP"
  exact fin _
 ·rw[MJ (by omega)]
  exact fin 0
theorem tX {as st Q}(h:cP as st Q):au Γ eV (frame 1 as) st (ad st Q):=by
 obtain⟨p,rfl,hp,k⟩:=h
 unfold eV
 walk_at "WP"
 refine⟨HB,p,4,rfl,hp,by decide,by decide,fun y s1 y0 y1 g1=>?_⟩
 obtain⟨v,ev,far,rfl,f0,f1⟩:=xI (L:=[PV.int 1,PV.int 2,PV.int 12,PV.int 100000000000]) (P:=fun v=>∃d:Nat,v=.int d/\0<d/\d<=10 ^ 11) (fun v hv=>by
  simp only[List.mem_cons,List.not_mem_nil,or_false] at hv
  rcases hv with rfl|rfl|rfl|rfl
  ·exact⟨1,rfl,by decide,by decide⟩
  ·exact⟨2,rfl,by decide,by decide⟩
  ·exact⟨12,rfl,by decide,by decide⟩
  ·exact⟨_,rfl,by decide,by decide⟩) y0 y1
 walk_at "WP"
 refine⟨_,ev,p,_,rfl,g1.pot,by exact Int.natCast_pos.mpr ‹_›,by omega,fun z s2 z0 z1 g2=>?_⟩
 walk_at "WP"
 obtain⟨d,hd⟩:∃d:Nat,1+z=d:=⟨(1+z).toNat,by omega⟩
 rw[hd]
 exact .inl (k d _ (by omega) (by omega) (g1.trans g2))
noncomputable def xw (b:Nat × Nat)(Y:List Pc):Nat × Nat:=(Y.getLast?.map Pc.e).getD b
theorem vo {b:Nat × Nat}{a:Pc}{Y:List Pc}:xw b (a::Y)=xw a.e Y:=by
 unfold xw
 cases Y with
 | nil=>rfl
 | cons c Y=>simp[List.getLast?_cons]
theorem ms {p:Pc}:∀ {r:List Pc}{b:Nat × Nat}{a:Pc},∃Y c,aH b a r=Y++[c]/\aH b a (r++[p])=(if gB (xw b Y) c p=true then Y++[c.mg p] else Y++[c,p]) /\
  (∀z,(a::r).getLast?=some z->c.e=z.e/\c.h=z.h)
 | [],b,a=>⟨[],a,rfl,by
   show aH b a [p]=_
   rw[aH]
   show (if gB b a p=true then aH b (a.mg p) [] else a::aH a.e p [])=if gB b a p=true then []++[a.mg p] else []++[a,p]
   rfl,fun z e=>by cases e;exact⟨rfl,rfl⟩⟩
 | q::r,b,a=>by
  rw[aH,P8,aH]
  by_cases g:gB b a q=true
  ·rw[ML g,ML g]
   obtain⟨Y,c,e1,e2,e3⟩:=ms (p:=p) (r:=r) (b:=b) (a:=a.mg q)
   refine⟨Y,c,e1,e2,fun z e=>?_⟩
   cases r with
   | nil =>
    have:z=q:=by simpa using e.symm
    subst this
    exact e3 (a.mg z) rfl
   | cons x r=>exact e3 z (by simpa[List.getLast?_cons_cons] using e)
  ·rw[MJ g,MJ g]
   obtain⟨Y,c,e1,e2,e3⟩:=ms (p:=p) (r:=r) (b:=a.e) (a:=q)
   refine⟨a::Y,c,by rw[e1];rfl,?_,fun z e=>e3 z (by simpa[List.getLast?_cons_cons] using e)⟩
   rw[e2,vo]
   split <;> rfl
theorem Rt.take:∀ {L:List Pc}{b hh:Rat} (i:Nat),Rt b hh L->Rt b hh (L.take i)
 | [],_,_,i,_=>by rw[List.take_nil];trivial
 | _::_,_,_,0,_=>trivial
 | _::_,_,_,i+1,⟨h1,h2,h3,h4,h5,h6⟩=>⟨h1,h2,h3,h4,h5,h6.take i⟩
theorem RtF.take {L:List Pc}(i:Nat)(h:RtF L):RtF (L.take i):=by
 cases L with
 | nil=>rw[List.take_nil];trivial
 | cons a r =>
  cases i with
  | zero=>trivial
  | succ i=>exact⟨h.1,h.2.1,h.2.2.1,h.2.2.2.1,h.2.2.2.2.take i⟩
structure Fnd (U:List Un3)(i:Nat)(V:List Un3):Prop where
 eq:∀d,0<d->V.map (b8 d)=fR ((U.take i).map (b8 d))
 ln:V.length<=i
 bd:BdU (2 ^ 37) V
theorem Fnd.nil {U:List Un3}{i:Nat}{V:List Un3}(h:Fnd U i V)(hi:i<U.length)(e:V=[]):i=0:=by
 have:=h.eq 1 (by decide)
 rw[e] at this
 cases i with
 | zero=>rfl
 | succ i =>
  cases U with
  | nil=>simp at hi
  | cons u U =>
   rw[PL,M7] at this
   obtain⟨Y,c,e1,_⟩:=ms (p:=b8 1 u) (r:=(U.take i).map (b8 1)) (b:=(0,1)) (a:=b8 1 u)
   rw[fR,e1] at this
   simp at this
noncomputable def nxE (P:Fr->AH->Prop):aO:={ nx:=P,rt:=fun _ _=>False }
theorem EO {P:Fr->AH->Prop}{ρ:Fr}{st:AH}:(nxE P).nx ρ st=P ρ st:=rfl
local macro_rules | `(tactic| walk_at "WPN")=>`(tactic| ((try walk_at "WP");repeat (simp only [EO];try walk_at "WP")))
theorem eP {s:S}{ss:Ss}{ρ:Fr}{st:AH}{D:aO}(P:Fr->AH->Prop)(h1:wpS Γ s ρ st (nxE P))(h2:∀ρ' st',P ρ' st'->au Γ ss ρ' st' D):au Γ (.cons s ss) ρ st D:=by
 cases ss with
 | nil=>exact gh (D:=nxE P) Γm s ⟨fun ρ st z=>h2 ρ st z,fun _ _ z=>False.elim z,fun _ _ z=>False.elim z,fun _ _ z=>False.elim z⟩ h1
 | cons s2 ss=>exact gh (D:=nxE P) (D':=aft Γ (.cons s2 ss) D) Γm s ⟨fun ρ st z=>h2 ρ st z,fun _ _ z=>False.elim z,fun _ _ z=>False.elim z,fun _ _ z=>False.elim z⟩ h1
theorem ifS {c:E}{x y:Ss}{ρ:Fr}{st:AH}{D:aO}(A B:AH->Prop)(h:wpT Γ c ρ st fun k st1=>if k=true then A st1 else B st1)(h1:∀st1,A st1->au Γ x ρ st1 D)(h2:∀st1,B st1->au Γ y ρ st1 D):wpS Γ (.ifS c x y) ρ st D:=by
 rw[Jn]
 refine aJ Γm c (fun k st1 z=>?_) h
 cases k with
 | true=>exact h1 _ z
 | false=>exact h2 _ z
noncomputable def tau (b:Rat)(p:Pc)(y:Rat):Rat:=b+(p.E-b)*((y-p.L)/(p.H-p.L))
noncomputable def xat (b:Rat)(p:Pc)(t:Rat):Rat:=p.L+(p.H-p.L)*((t-b)/(p.E-b))
theorem Ch.cutE {y:Rat}:∀ {L:List Pc}{b:Rat},Ch b L->∃k,k<=L.length/\(∀(i:Nat) p,L[i]?=some p->i<k->p.E<=y)/\∀(i:Nat) p,L[i]?=some p->k<=i->y<p.E
 | [],b,_=>⟨0,MM _,fun i p e=>by simp at e,fun i p e=>by simp at e⟩
 | p::r,b,⟨h1,h2,h3,h4⟩=>by
  by_cases q:p.E<=y
  ·obtain⟨k,k1,k2,k3⟩:=h4.cutE (y:=y)
   refine⟨k+1,by simp;assumption,fun i p' e h=>?_,fun i p' e h=>?_⟩
   ·cases i with
    | zero=>cases e;exact q
    | succ i=>exact k2 i p' (by simpa using e) (by exact Nat.le_of_lt_succ ‹_›)
   ·cases i with
    | zero=>contradiction
    | succ i=>exact k3 i p' (by simpa using e) (by exact Nat.le_of_lt_succ ‹_›)
  ·refine⟨0,N5 _,fun i p _ h=>absurd h (OW _),fun i p' e _=>?_⟩
   cases i with
   | zero=>cases e;grind
   | succ i =>
    have:∀ {r:List Pc}{b:Rat}{i:Nat}{p':Pc},Ch b r->r[i]?=some p'->b<p'.E:=by
     intro r
     induction r with
     | nil=>intro b i p' _ e;simp at e
     | cons a r ih =>
      intro b i p' ⟨g1,g2,g3,g4⟩ e
      cases i with
      | zero=>cases e;exact g2
      | succ i=>have:=ih g4 (by simpa using e);grind
    have:=this h4 (by simpa using e)
    grind
theorem RtF.cutE {L:List Pc}{y:Rat}(h:RtF L):∃k,k<=L.length/\(∀(i:Nat) p,L[i]?=some p->i<k->p.E<=y)/\∀(i:Nat) p,L[i]?=some p->k<=i->y<p.E:=by
 cases L with
 | nil=>exact⟨0,MM _,fun i p e=>by simp at e,fun i p e=>by simp at e⟩
 | cons a r=>exact Ch.cutE (b:=a.E-1) ⟨h.1,by grind,h.2.1,h.2.2.2.2.ch⟩
structure ThI (M:List Pc)(b:Rat)(p:Pc)(n:Nat)(a:Rat)(R:List Pc):Prop where
 ch:Ch b R
 en:∀q∈R,q.E<=tau b p a
 ls:li b R=tau b p a
 al:p.L<=a
 ah:a<=p.H
 bo:a=p.H\/val (bg M n)<=a
 nx:∀q,M[n]?=some q->a<p.H->a<q.E
 co:∀t,b<t->t<=tau b p a->cm b R t=cm 0 M (xat b p t)
theorem Cv {b:Rat}{p:Pc}{t:Rat}(h1:b<p.E)(h2:p.L<p.H):t=b+(p.E-b)/(p.H-p.L)*(xat b p t-p.L):=by
 unfold xat
 have:p.E-b≠0:=by grind
 have:p.H-p.L≠0:=by grind
 grind
theorem EM {b:Rat}{p:Pc}{y:Rat}(h2:p.L<p.H):tau b p y=b+(p.E-b)/(p.H-p.L)*(y-p.L):=by
 unfold tau
 have:p.H-p.L≠0:=by grind
 grind
theorem II {b:Rat}{p:Pc}(h1:b<p.E)(h2:p.L<p.H):0<(p.E-b)/(p.H-p.L):=by
 refine MH fun z=>?_
 have e:(p.E-b)/(p.H-p.L)*(p.H-p.L)=p.E-b:=by
  have:p.H-p.L≠0:=by grind
  grind
 have:=M5 (a:=-((p.E-b)/(p.H-p.L))) (b:=p.H-p.L) (by grind) (by grind)
 grind
theorem jG {w x y:Rat}(hw:0<w):w*x<w*y↔x<y:=by
 constructor
 ·intro h
  refine MH fun z=>?_
  have:=M5 (a:=w) (b:=x-y) (by grind) (by grind)
  grind
 ·intro h
  have:=NC (a:=w) (b:=y-x) hw (by grind)
  grind
theorem vq {w x y:Rat}(hw:0<w):w*x<=w*y↔x<=y:=by
 have:=jG (w:=w) (x:=y) (y:=x) hw
 grind
theorem K_ {b:Rat}{p:Pc}(h1:b<p.E)(h2:p.L<p.H)(t y:Rat):(t<tau b p y↔xat b p t<y)/\(t<=tau b p y↔xat b p t<=y)/\(tau b p y<t↔y<xat b p t):=by
 have w:=II h1 h2
 have e:=Cv (t:=t) h1 h2
 rw[EM h2]
 generalize (p.E-b)/(p.H-p.L)=w' at *
 generalize xat b p t=X at *
 subst e
 have a1:=jG (w:=w') (x:=X-p.L) (y:=y-p.L) w
 have a2:=vq (w:=w') (x:=X-p.L) (y:=y-p.L) w
 have a3:=jG (w:=w') (x:=y-p.L) (y:=X-p.L) w
 refine⟨?_,?_,?_⟩ <;> grind
theorem xf {M:List Pc}(hM:RtF M):∀q∈M,q.E<=val (bg M M.length):=by
 intro q hq
 rcases dS M with rfl|⟨Y,c,rfl⟩
 ·cases hq
 ·have hc:(Y++[c])[Y.length]?=some c:=by simp
  rw[show (Y++[c]).length=Y.length+1 by simp,bgS hc]
  obtain⟨k,k1,k2,k3⟩:=hM.cutE (y:=c.E)
  obtain⟨i,hi⟩:=NM hq
  have il:=(MC.mp hi).1
  have:Y.length<k:=by
   refine MH fun z=>?_
   have:=k3 Y.length c hc (by exact Nat.not_lt.mp ‹_›)
   grind
  exact k2 i q hi (by simp at il;omega)
theorem DG {T:List (Nat × Nat)}{x:Nat × Nat}(h:T.Pairwise fun a b=>val a<val b)(hx:∀t,T.getLast?=some t->val t<val x):(T++[x]).Pairwise fun a b=>val a<val b:=by
 rw[O_]
 refine⟨h,by simp,fun a ha b hb=>?_⟩
 rw[MI] at hb
 rw[hb]
 rcases dS T with rfl|⟨Y,c,rfl⟩
 ·cases ha
 ·have l:=hx c (by simp)
  rcases MW.mp ha with ha|ha
  ·have:=(O_.mp h).2.2 a ha c (by simp)
   grind
  ·rw[MI] at ha;rw[ha];exact l
structure MgI (T1 T2 Z:List (Nat × Nat))(i j:Nat):Prop where
 sr:Z.Pairwise fun a b=>val a<val b
 mem:∀t,t∈Z↔t∈T1.take i\/t∈T2.take j
 l1:∀z∈Z,∀t∈T1.drop i,val z<=val t
 l2:∀z∈Z,∀t∈T2.drop j,val z<=val t
 ln:Z.length<=i+j
theorem sW {T:List (Nat × Nat)}(h:T.Pairwise fun a b=>val a<val b){i:Nat}{x:Nat × Nat}(hx:T[i]?=some x):∀t∈T.drop i,val x<=val t:=by
 intro t ht
 have il:=(MC.mp hx).1
 rw[NU il,(MC.mp hx).2] at ht
 have hd:=List.Pairwise.sublist (QP i T) h
 rw[NU il,(MC.mp hx).2,QO] at hd
 rcases NA.mp ht with rfl|ht
 ·exact MV
 ·exact NB (hd.1 t ht)
theorem MgI.step {T1 T2 Z:List (Nat × Nat)}{i j:Nat}{x:Nat × Nat}(h:MgI T1 T2 Z i j)(s1:T1.Pairwise fun a b=>val a<val b)(c1:∀t∈T1,Cop t)(c2:∀t∈T2,Cop t)(hx:T1[i]?=some x)(h2:∀t∈T2.drop j,val x<=val t) :
  MgI T1 T2 (if Z.getLast?=some x then Z else Z++[x]) (i+1) j:=by
 have il:=(MC.mp hx).1
 have ed:T1.drop i=x::T1.drop (i+1):=by rw[NU il,(MC.mp hx).2]
 have et:T1.take (i+1)=T1.take i++[x]:=by rw[O0,hx];rfl
 have hd:=sW s1 hx
 have sub:∀t∈T1.drop (i+1),t∈T1.drop i:=fun t ht=>by rw[ed];exact MT _ ht
 have zx:∀z∈Z,val z<=val x:=fun z hz=>h.l1 z hz x (by rw[ed];simp)
 by_cases e:Z.getLast?=some x
 ·rw[ML e]
  have xm:=List.mem_of_getLast? e
  refine⟨h.sr,fun t=>?_,fun z hz t ht=>h.l1 z hz t (sub t ht),h.l2,by have:=h.ln;omega⟩
  rw[h.mem,et,MW,MI]
  constructor
  ·rintro (a|a)
   ·exact .inl (.inl a)
   ·exact .inr a
  ·rintro ((a|a)|a)
   ·exact .inl a
   ·rw[a];exact(h.mem x).mp xm
   ·exact .inr a
 ·rw[MJ e]
  refine⟨DG h.sr fun t ht=>?_,fun t=>?_,fun z hz t ht=>?_,fun z hz t ht=>?_,by have:=h.ln;simp;omega⟩
  ·have tm:=List.mem_of_getLast? ht
   have le:=zx t tm
   have ne:val t≠val x:=fun q=>by
    have ct:Cop t:=by
     rcases (h.mem t).mp tm with a|a
     ·exact c1 t (O9 a)
     ·exact c2 t (O9 a)
    exact e (by rw[ht,ft ct (c1 x (MQ hx)) q])
   grind
  ·rw[MW,h.mem,et,MW,MI]
   constructor
   ·rintro ((a|a)|a)
    ·exact .inl (.inl a)
    ·exact .inr a
    ·exact .inl (.inr a)
   ·rintro ((a|a)|a)
    ·exact .inl (.inl a)
    ·exact .inr a
    ·exact .inl (.inr a)
  ·rcases MW.mp hz with hz|hz
   ·exact h.l1 z hz t (sub t ht)
   ·rw[MI] at hz;rw[hz];exact hd t (sub t ht)
  ·rcases MW.mp hz with hz|hz
   ·exact h.l2 z hz t ht
   ·rw[MI] at hz;rw[hz];exact h2 t ht
theorem MgI.swap {T1 T2 Z:List (Nat × Nat)}{i j:Nat}(h:MgI T1 T2 Z i j):MgI T2 T1 Z j i:=⟨h.sr,fun t=>(h.mem t).trans or_comm,h.l2,h.l1,by have:=h.ln;omega⟩
def MgW (st:AH)(k n m:Nat)(T1 T2:List (Nat × Nat))(q:Nat)(ρ:Fr)(s:AH):Prop:=∃(Z:List (Nat × Nat)) (i j:Nat) (g:AH) (x:Option PV),q=T1.length+T2.length-(i+j)/\i<=T1.length/\j<=T2.length/\s=st++.lst (Z.map fr)::g/\MgI T1 T2 Z i j/\ρ=[some (.ref n),some (.ref m),some (.ref st.length),some (.int i),some (.int j),x]
theorem Az {X:List (Nat × Nat)}:bT 5 (X.map fr)=true:=ej fun v hv=>by
 obtain⟨w,_,rfl⟩:=MZ.mp hv
 rfl
noncomputable def fP (S:List Pc)(i:Nat)(p:Pc)(x:Rat):Rat:=if val (bg S i)=p.E then p.L else p.L+(p.H-p.L)*((x-val (bg S i))/(p.E-val (bg S i)))
theorem D4 {S:List Pc}{i:Nat}{p:Pc}(h:val (bg S i)<p.E):∃s,∀x,fP S i p x=p.L+s*(x-val (bg S i)):=by
 obtain⟨s,hs⟩:=Sl.ex (p:=p) h
 refine⟨s,fun x=>?_⟩
 unfold fP
 rw[MJ (by grind),pcf h hs]
theorem w5 {S:List Pc}{i:Nat}{p:Pc}{a e:Rat}{c:Two}(hS:RtF S)(hp:S[i]?=some p)(ha:val (bg S i)<=a)(ae:a<=e)(he:e<=p.E)(h0:i=0\/val (bg S i)<e)(c1:Cop c.1)(c2:Cop c.2)(v1:val c.1=fP S i p a)(v2:val c.2=fP S i p e):SegOk S a e c:=by
 obtain⟨pok,p1,p2⟩:=hS.at_ hp
 refine⟨c1,c2,?_,by rw[w_ hS hp h0 he,v2];rfl,fun q=>ft c1 c2 (by rw[v1,v2,q]),fun t t1 t2=>?_⟩
 ·rw[v1,v2]
  by_cases z:val (bg S i)=p.E
  ·unfold fP;rw[ML z,ML z];exact MV
  ·unfold fP
   rw[MJ z,MJ z]
   exact pv (by grind) ha ae he p1
 ·have lt:val (bg S i)<p.E:=by grind
  obtain⟨s,hs⟩:=D4 lt
  have e1:cm 0 S t=some (fP S i p t):=by rw[w_ hS hp (.inr (by grind)) (by grind)];rfl
  rw[e1,v1,v2,hs,hs,hs]
  congr 1
  have:e-a≠0:=by grind
  grind
theorem Ends.lt {k:Nat}{T:List (Nat × Nat)}(h:Ends k T){i j:Nat}{a b:Nat × Nat}(hi:T[i]?=some a)(hj:T[j]?=some b)(lt:i<j):val a<val b:=by
 obtain⟨h1,e1⟩:=MC.mp hi
 obtain⟨h2,e2⟩:=MC.mp hj
 have:=N3.mp h.sr i j h1 h2 lt
 rw[e1,e2] at this
 exact this
theorem nu {T:List (Nat × Nat)}{i:Nat}{t:Nat × Nat}(h:T[i]?=some t):bgT T (i+1)=t:=by show (T[i]?).getD (0,1)=t;rw[h];rfl
structure CutI (S:List Pc)(T:List (Nat × Nat))(z:Nat)(i:Nat)(C:List (Option Two)):Prop where
 cnt:∀(k:Nat) t,T[k]?=some t->(k<C.length↔i≠0/\val t<=val (bg S i))
 ok:∀(k:Nat) c,C[k]?=some c->mE S z (val (bgT T k)) (val (bgT T (k+1))) c
 ln:C.length<=T.length
structure CutJ (S:List Pc)(T:List (Nat × Nat))(z:Nat)(i:Nat)(p:Pc)(C:List (Option Two))(lo:Nat × Nat):Prop where
 ge:val (bg S i)<=val (bgT T C.length)
 lov:val lo=fP S i p (val (bgT T C.length))
 nx:∀(k:Nat) t,T[k]?=some t->C.length<=k->i=0\/val (bg S i)<val t
 pr:∀(k:Nat) t,T[k]?=some t->k<C.length->val t<=p.E
 ok:∀(k:Nat) c,C[k]?=some c->mE S z (val (bgT T k)) (val (bgT T (k+1))) c
 ln:C.length<=T.length
theorem CutI.start {S:List Pc}{T:List (Nat × Nat)}{z i j:Nat}{p:Pc}{C:List (Option Two)}(h:CutI S T z i C)(hS:RtF S)(hE:Ends j T)(hp:S[i]?=some p)(hin:∀p∈S,p.e∈T):CutJ S T z i p C p.l:=by
 obtain⟨n1,n2,n3,n4⟩:=nb hS hp
 have eb:val (bgT T C.length)=val (bg S i):=by
  cases i with
  | zero =>
   have:C.length=0:=MH fun q=>by
    have hl:0<T.length:=by have:=h.ln;omega
    have:=(h.cnt 0 T[0] (MK hl)).mp (by exact Nat.pos_of_ne_zero ‹_›)
    exact this.1 rfl
   rw[this]
   rfl
  | succ i =>
   have il:=(MC.mp hp).1
   have ha:S[i]?=some S[i]:=MK (by exact Nat.le_of_lt ‹_›)
   obtain⟨k0,hk0⟩:=NM (hin S[i] (NN _))
   rw[bgS ha]
   have k1:k0<C.length:=(h.cnt k0 _ hk0).mpr ⟨by exact Nat.succ_ne_zero _,by rw[bgS ha];exact MV⟩
   have hl:C.length-1<T.length:=by have:=h.ln;omega
   have hk:=MK hl
   have le:=((h.cnt (C.length-1) _ hk).mp (by omega)).2
   rw[bgS ha] at le
   have e:bgT T C.length=T[C.length-1]:=by
    have:=nu hk
    rwa [N6 (by omega)] at this
   rw[e]
   by_cases q:k0=C.length-1
   ·subst q
    rw[hk] at hk0
    rw[NE hk0]
   ·have:=hE.lt hk0 hk (by omega)
    grind
 refine⟨by rw[eb];exact MV,?_,fun k t hk hC=>?_,fun k t hk hC=>?_,h.ok,h.ln⟩
 ·rw[eb]
  unfold fP
  by_cases q:val (bg S i)=p.E
  ·rw[ML q]
  ·rw[MJ q]
   show val p.l=val p.l+_
   grind
 ·by_cases q:i=0
  ·exact .inl q
  ·right
   have:=(h.cnt k t hk)
   have:¬(i≠0/\val t<=val (bg S i)):=fun w=>by have:=this.mpr w;omega
   grind
 ·have:=((h.cnt k t hk).mp hC).2
  grind
theorem CutJ.step {S:List Pc}{T:List (Nat × Nat)}{z i j:Nat}{p:Pc}{C:List (Option Two)}{lo hi t:Nat × Nat}(h:CutJ S T z i p C lo)(hS:RtF S)(hE:Ends j T)(hp:S[i]?=some p)(ht:T[C.length]?=some t)(le:val t<=p.E)(t0:T[0]?=some (0,1))(cl:Cop lo)(ch:Cop hi)(zl:Sz z lo)(zh:Sz z hi)(hv:val hi=fP S i p (val t)):CutJ S T z i p (C++[some (lo,hi)]) hi:=by
 have il:=(MC.mp ht).1
 have eb:bgT T (C.length+1)=t:=nu ht
 have le1:val (bgT T C.length)<=val t:=by
  cases e:C.length with
  | zero=>rw[e,t0] at ht;cases ht;exact MV
  | succ k =>
   rw[e] at ht
   have hk:T[k]?=some T[k]:=MK (by omega)
   rw[nu hk]
   exact NB (hE.lt hk ht (by exact Nat.le_refl _))
 have ln:(C++[some (lo,hi)]).length=C.length+1:=by simp
 have nx:=h.nx C.length t ht (MM _)
 refine⟨?_,by rw[ln,eb];exact hv,fun k u hu hk=>h.nx k u hu (by omega),fun k u hu hk=>?_,fun k c hc=>?_,by omega⟩
 ·rw[ln,eb]
  have:=h.ge
  grind
 ·by_cases q:k<C.length
  ·exact h.pr k u hu q
  ·have:k=C.length:=by omega
   subst this
   rw[ht] at hu
   cases hu
   exact le
 ·by_cases q:k<C.length
  ·rw[M1 q] at hc
   exact h.ok k c hc
  ·have hk:k=C.length:=by
    have:=(MC.mp hc).1
    omega
   subst hk
   have:c=some (lo,hi):=by simpa using hc.symm
   subst this
   rw[eb]
   exact⟨w5 hS hp h.ge le1 le nx cl ch h.lov hv,zl,zh⟩
theorem CutJ.done {S:List Pc}{T:List (Nat × Nat)}{z i j:Nat}{p:Pc}{C:List (Option Two)}{lo:Nat × Nat}(h:CutJ S T z i p C lo)(hE:Ends j T)(hp:S[i]?=some p)(hx:∀t,T[C.length]?=some t->p.E<val t):CutI S T z (i+1) C:=by
 refine⟨fun k t hk=>?_,h.ok,h.ln⟩
 rw[bgS hp]
 constructor
 ·intro q
  exact⟨by exact Nat.succ_ne_zero _,h.pr k t hk q⟩
 ·rintro⟨_,q⟩
  refine MH fun w=>?_
  have il:=(MC.mp hk).1
  have hC:=MK (show C.length<T.length by omega)
  have:=hx _ hC
  by_cases e:k=C.length
  ·subst e
   rw[hC] at hk
   cases hk
   grind
  ·have:=hE.lt hC hk (by omega)
   grind
theorem IsOut.congr {X Y:List Rr}{t:Rat}{o:Option (Rat × Rat)}(h:IsOut X t o)(e:∀r,r∈X↔r∈Y):IsOut Y t o:=by
 cases o with
 | none=>exact fun r hr=>h r ((e r).mpr hr)
 | some y=>obtain⟨h0,⟨r,h1,h2⟩,h3⟩:=h;exact⟨h0,⟨r,(e r).mp h1,h2⟩,fun r hr=>h3 r ((e r).mpr hr)⟩
theorem IsOut.uniq {X:List Rr}{t:Rat}{o o':Option (Rat × Rat)}(h:IsOut X t o)(h':IsOut X t o'):o=o':=by
 cases o with
 | none =>
  cases o' with
  | none=>rfl
  | some y =>
   obtain⟨g0,⟨r,h1,h2,_⟩,_⟩:=h'
   have a:=h r h1
   have b:=h2.2
   exfalso
   grind
 | some x =>
  obtain⟨h0,⟨r,h1,h2,h3⟩,h4⟩:=h
  cases o' with
  | none =>
   have a:=h' r h1
   have b:=h2.2
   exfalso
   grind
  | some y =>
   obtain⟨g0,⟨r',g1,g2,g3⟩,g4⟩:=h'
   have a:=h4 r' g1 y.1 g0 g2
   have b:=g4 r h1 x.1 h0 h2
   have e:x.2=y.2:=by grind
   have e1:x.1=y.1:=by
    have a2:=a.2 (by rw[g3,e])
    have b2:=b.2 (by rw[h3,e])
    grind
   obtain⟨x1,x2⟩:=x
   obtain⟨y1,y2⟩:=y
   have e:x2=y2:=e
   have e1:x1=y1:=e1
   rw[e,e1]
theorem IsOff.snoc {X:List Rr}{r:Rr}{t:Rat}{o:Option Rat}(h:IsOff X t o)(no:¬r.has t):IsOff (X++[r]) t o:=by
 cases o with
 | none =>
  intro q hq
  rcases MW.mp hq with hq|hq
  ·exact h q hq
  ·rw[MI] at hq;rw[hq];exact no
 | some y =>
  obtain⟨⟨q,h1,h2⟩,h3⟩:=h
  refine⟨⟨q,by simp[h1],h2⟩,fun q hq hh=>?_⟩
  rcases MW.mp hq with hq|hq
  ·exact h3 q hq hh
  ·rw[MI] at hq;rw[hq] at hh;exact absurd hh no
theorem IsOff.keep {X:List Rr}{r:Rr}{t y:Rat}(h:IsOff X t (some y))(le:r.has t->y<=r.to t):IsOff (X++[r]) t (some y):=by
 obtain⟨⟨q,h1,h2⟩,h3⟩:=h
 refine⟨⟨q,by simp[h1],h2⟩,fun q hq hh=>?_⟩
 rcases MW.mp hq with hq|hq
 ·exact h3 q hq hh
 ·rw[MI] at hq;rw[hq] at hh |-;exact le hh
theorem IsOff.new {X:List Rr}{r:Rr}{t:Rat}{o:Option Rat}(h:IsOff X t o)(hh:r.has t)(le:∀y,o=some y->r.to t<=y):IsOff (X++[r]) t (some (r.to t)):=by
 refine⟨⟨r,by simp,hh,rfl⟩,fun q hq hq2=>?_⟩
 rcases MW.mp hq with hq|hq
 ·cases o with
  | none=>exact absurd hq2 (h q hq)
  | some y =>
   have:=h.2 q hq hq2
   have:=le y rfl
   grind
 ·rw[MI] at hq;rw[hq];exact MV
theorem IsOut.skip {X:List Rr}{r:Rr}{t:Rat}{o:Option (Rat × Rat)}(h:IsOut X t o)(no:r.L<t):IsOut (X++[r]) t o:=by
 cases o with
 | none =>
  intro q hq
  rcases MW.mp hq with hq|hq
  ·exact h q hq
  ·rw[MI] at hq;rw[hq];exact no
 | some p =>
  obtain⟨h0,⟨q,h1,h2⟩,h3⟩:=h
  refine⟨h0,⟨q,by simp[h1],h2⟩,fun q hq v tv hv=>?_⟩
  rcases MW.mp hq with hq|hq
  ·exact h3 q hq v tv hv
  ·rw[MI] at hq;rw[hq] at hv
   have:=hv.2
   exfalso
   grind
theorem IsOut.more {X:List Rr}{r:Rr}{t:Rat}{o:Option (Rat × Rat)}{p:Rat × Rat}(h:IsOut X t o)(hp:IsOut [r] t (some p)) :
  (∀b,o=some b->¬((p.2=b.2/\p.1<b.1)\/p.2<b.2)->IsOut (X++[r]) t o)/\((o=none\/∃b,o=some b/\((p.2=b.2/\p.1<b.1)\/p.2<b.2))->IsOut (X++[r]) t (some p)):=by
 obtain⟨p0,⟨r',p1,p2,p3⟩,p4⟩:=hp
 rw[MI] at p1
 subst p1
 refine⟨fun b e nb=>?_,fun hb=>?_⟩
 ·subst e
  obtain⟨h0,⟨q,h1,h2⟩,h3⟩:=h
  refine⟨h0,⟨q,by simp[h1],h2⟩,fun q hq v tv hv=>?_⟩
  rcases MW.mp hq with hq|hq
  ·exact h3 q hq v tv hv
  ·rw[MI] at hq;rw[hq] at hv |-
   have:=p4 r' (by simp) v tv hv
   exact⟨by grind,fun e=>by grind⟩
 ·refine⟨p0,⟨r',by simp,p2,p3⟩,fun q hq v tv hv=>?_⟩
  rcases MW.mp hq with hq|hq
  ·rcases hb with rfl|⟨b,rfl,hb⟩
   ·have:=h q hq
    have:=hv.2
    exfalso
    grind
   ·have:=h.2.2 q hq v tv hv
    exact⟨by grind,fun e=>by grind⟩
  ·rw[MI] at hq;rw[hq] at hv |-
   exact p4 r' (by simp) v tv hv
theorem Rr.line {r:Rr}(h:r.F<r.L):∃s,r.D=r.C+s*(r.L-r.F)/\∀t,r.to t=r.C+s*(t-r.F):=by
 have n:r.L-r.F≠0:=by grind
 refine⟨(r.D-r.C)/(r.L-r.F),by grind,fun t=>?_⟩
 unfold Rr.to
 rw[MJ (by grind)]
 grind
theorem Rr.to_F {r:Rr}:r.to r.F=r.C:=by
 unfold Rr.to
 by_cases h:r.F=r.L
 ·rw[ML h]
 ·rw[MJ h];grind
theorem Rr.to_L {r:Rr}(h:r.Ok):r.to r.L=r.D:=by
 unfold Rr.to
 by_cases e:r.F=r.L
 ·rw[ML e];exact h.eq e
 ·rw[MJ e]
  have:r.L-r.F≠0:=by grind
  grind
theorem AQ {r:Rr}{t:Rat}(ok:r.Ok)(h:t<=r.L)(f:r.D<r.C):IsOut [r] t (some (r.L,r.D)):=by
 have lt:r.F<r.L:=by
  have:=ok.fl
  have:=ok.eq
  grind
 obtain⟨s,hs,hl⟩:=Rr.line lt
 have sn:s<0:=MH fun z=>by
  have:=M5 (a:=s) (b:=r.L-r.F) (by grind) (by grind)
  grind
 refine⟨h,⟨r,by simp,⟨ok.fl,MV⟩,Rr.to_L ok⟩,fun q hq v tv hv=>?_⟩
 rw[MI] at hq
 subst hq
 have:=hv.2
 have e:q.to v=q.D+(-s)*(q.L-v):=by rw[hl,hs];grind
 show q.D<=q.to v/\(q.to v=q.D->q.L<=v)
 have p:=M5 (a:=-s) (b:=q.L-v) (by grind) (by grind)
 refine⟨by grind,fun e2=>MH fun z=>?_⟩
 have:=NC (a:=-s) (b:=q.L-v) (by grind) (by grind)
 grind
theorem nR {r:Rr}{t u:Rat}(ok:r.Ok)(h:t<=r.L)(f:r.C<=r.D)(hu:(r.F<t/\u=t)\/(t<=r.F/\u=r.F)):IsOut [r] t (some (u,r.to u)):=by
 have fl:=ok.fl
 refine⟨by grind,⟨r,by simp,⟨by grind,by grind⟩,rfl⟩,fun q hq v tv hv=>?_⟩
 rw[MI] at hq
 subst hq
 show q.to u<=q.to v/\(q.to v=q.to u->u<=v)
 have hF:=hv.1
 have uv:u<=v:=by grind
 refine⟨?_,fun _=>uv⟩
 by_cases e:q.F=q.L
 ·unfold Rr.to;rw[ML e,ML e];exact MV
 ·obtain⟨s,hs,hl⟩:=Rr.line (r:=q) (by grind)
  have sn:0<=s:=MH fun z=>by
   have:=NC (a:=-s) (b:=q.L-q.F) (by grind) (by grind)
   grind
  rw[hl,hl]
  have:=M5 (a:=s) (b:=v-u) sn (by grind)
  grind
noncomputable abbrev Rr.sc (e:Rat)(r:Rr):Rr:=⟨r.F/e,r.L/e,r.C/e,r.D/e⟩
theorem cU {e x y:Rat}(he:0<e):x/e<=y/e↔x<=y:=by
 have a:x/e*e=x:=by grind
 have b:y/e*e=y:=by grind
 constructor
 ·intro h
  have:=M5 (a:=y/e-x/e) (b:=e) (by grind) (by grind)
  grind
 ·intro h
  refine MH fun z=>?_
  have:=NC (a:=x/e-y/e) (b:=e) (by grind) he
  grind
theorem Rr.sc_has {e t:Rat}{r:Rr}(he:0<e):(r.sc e).has (t/e)↔r.has t:=by
 unfold Rr.has
 rw[cU he,cU he]
theorem Rr.sc_to {e t:Rat}{r:Rr}(he:0<e):(r.sc e).to (t/e)=r.to t/e:=by
 unfold Rr.to
 by_cases h:r.F=r.L
 ·rw[ML h,ML (by show r.F/e=r.L/e;rw[h])]
 ·have h2:¬r.F/e=r.L/e:=fun z=>h (by
   have a:r.F/e*e=r.F:=by grind
   have b:r.L/e*e=r.L:=by grind
   rw[<-a,<-b,z])
  rw[MJ h,MJ h2]
  show r.C/e+(r.D/e-r.C/e)*((t/e-r.F/e)/(r.L/e-r.F/e))=_
  have n:r.L-r.F≠0:=by grind
  have q:(t/e-r.F/e)/(r.L/e-r.F/e)=(t-r.F)/(r.L-r.F):=by
   have n2:r.L/e-r.F/e≠0:=by grind
   have k1:r.L/e-r.F/e=(r.L-r.F)/e:=by grind
   have k2:t/e-r.F/e=(t-r.F)/e:=by grind
   rw[k1,k2]
   have n3:(r.L-r.F)/e≠0:=by rw[<-k1];exact n2
   grind
  rw[q]
  generalize (t-r.F)/(r.L-r.F)=u
  grind
theorem IsOut.sc {X:List Rr}{t e:Rat}{o:Option (Rat × Rat)}(he:0<e)(h:IsOut X t o):IsOut (X.map (Rr.sc e)) (t/e) (o.map fun p=>(p.1/e,p.2/e)):=by
 have lt:∀ {x y:Rat},x/e<y/e↔x<y:=fun {x y}=>by have:=cU (x:=y) (y:=x) he;grind
 cases o with
 | none =>
  intro r hr
  obtain⟨q,hq,rfl⟩:=MZ.mp hr
  exact lt.mpr (h q hq)
 | some p =>
  obtain⟨h0,⟨q,h1,h2,h3⟩,h4⟩:=h
  refine⟨(cU he).mpr h0,⟨q.sc e,PM h1,(Rr.sc_has he).mpr h2,by show (q.sc e).to (p.1/e)=p.2/e;rw[Rr.sc_to he,h3]⟩,fun r hr v tv hv=>?_⟩
  obtain⟨q,hq,rfl⟩:=MZ.mp hr
  have ev:v=(v*e)/e:=by grind
  rw[ev] at tv hv |-
  rw[Rr.sc_to he]
  obtain⟨a,b⟩:=h4 q hq (v*e) ((cU he).mp tv) ((Rr.sc_has he).mp hv)
  refine⟨(cU he).mpr a,fun z=>(cU he).mpr (b ?_)⟩
  have z:q.to (v*e)/e=p.2/e:=z
  have k1:q.to (v*e)/e*e=q.to (v*e):=by grind
  have k2:p.2/e*e=p.2:=by grind
  rw[<-k1,z,k2]
theorem Ae {S:AH}{n:Nat}{c:Cell}(h:S[n]?=some c):S.set n c=S:=by
 refine List.ext_getElem? fun i=>?_
 by_cases e:n=i
 ·subst e
  rw[M_ (aK h),h]
 ·rw[NK e]
theorem wL:∀ {L:List Pc}{b:Rat}{p:Pc},p∈L->∃y,cm b L p.E=some y
 | a::r,b,p,h=>by
  rw[cm]
  by_cases q:p.E<=a.E
  ·rw[ML q];exact⟨_,rfl⟩
  ·rw[MJ q]
   rcases NA.mp h with rfl|h
   ·exact absurd MV q
   ·exact wL h
theorem FS {T:List (Nat × Nat)}{k i:Nat}(h:Ends k T)(h1:1<=k)(hi:i<=T.length):Cop (bgT T i)/\Sz k (bgT T i):=by
 cases i with
 | zero =>
  show Cop (0,1)/\Sz k (0,1)
  exact⟨qU,QE (by decide),O3 (by exact Nat.ne_of_gt ‹_›),by decide⟩
 | succ i =>
  rw[nu (MK (show i<T.length by assumption))]
  exact h.ok _ (NN _)
theorem Ch.le {b b':Rat}(h:b'<=b):∀ {R:List Pc},Ch b R->Ch b' R
 | [],_=>trivial
 | p::r,⟨h1,h2,h3,h4⟩=>⟨h1,by grind,h3,h4⟩
theorem Ch.app {b:Rat}{R:List Pc}(hR:Ch b R):∀ {X:List Pc}{b0:Rat},Ch b0 X->li b0 X<=b->Ch b0 (X++R)
 | [],b0,_,h=>hR.le h
 | p::r,b0,⟨h1,h2,h3,h4⟩,h=>⟨h1,h2,h3,Ch.app hR h4 (by rw[lf] at h;exact h)⟩
theorem Ch.lst:∀ {X:List Pc}{b0:Rat},Ch b0 X->b0<=li b0 X/\∀q∈X,q.E<=li b0 X
 | [],b0,_=>⟨MV,fun q hq=>(nomatch hq)⟩
 | p::r,b0,⟨h1,h2,h3,h4⟩=>by
  obtain⟨a1,a2⟩:=Ch.lst h4
  rw[lf]
  refine⟨by grind,fun q hq=>?_⟩
  rcases NA.mp hq with rfl|hq
  ·exact a1
  ·exact a2 q hq
theorem Cg {Y:List Pc}{q:Pc}(h:RtF (Y++[q])):cm 0 (Y++[q]) q.E=some q.H:=by
 have hq:(Y++[q])[Y.length]?=some q:=by simp
 obtain⟨n1,n2,n3,n4⟩:=nb h hq
 rw[w_ h hq (by by_cases z:Y.length=0;exact .inl z;exact .inr (n4 z)) MV]
 congr 1
 by_cases z:val (bg (Y++[q]) Y.length)=q.E
 ·rw[ML z];exact n3 z
 ·rw[MJ z]
  have:q.E-val (bg (Y++[q]) Y.length)≠0:=by grind
  grind
theorem lH {Y:List Pc}{q:Pc}(h:RtF (Y++[q])){t:Rat}(ht:q.E<t):cm 0 (Y++[q]) t=none:=by
 have hq:(Y++[q])[Y.length]?=some q:=by simp
 refine cx fun r hr=>?_
 have:=xf h r hr
 rw[show (Y++[q]).length=Y.length+1 by simp,bgS hq] at this
 grind
theorem F2 {r:Nat × Nat}{M:Nat}{N:Int}(h:Cop r)(m0:0<M)(e:val r*M=N):r.2<=M:=by
 have p:=av h.pos
 have e2:(r.1:Rat)*M=N*r.2:=by unfold val at e;grind
 have e3:(r.1:Int)*M=N*r.2:=by
  have:(((r.1:Int)*M:Int):Rat)=((N*r.2:Int):Rat):=by simpa[Rat.intCast_natCast] using e2
  exact Rat.intCast_inj.mp this
 have d:r.2 ∣ r.1*M:=by
  have:(r.2:Int) ∣ ((r.1*M:Nat):Int):=⟨N,by rw[MR,e3,Int.mul_comm]⟩
  exact Int.natCast_dvd_natCast.mp this
 have c:Nat.Coprime r.2 r.1:=by have:=h.one;rw[PJ] at this;exact this
 exact Nat.le_of_dvd m0 (c.dvd_of_dvd_mul_left d)
theorem Ba {r:Nat × Nat}{M m v:Nat}{N:Int}(h:Cop r)(m0:0<M)(hm:M<2 ^ m)(e:val r*M=N)(hv:val r<=2 ^ v):Sz (m+v) r:=by
 have l:=F2 h m0 e
 have p:=av h.pos
 have q:(r.1:Rat)<=2 ^ v*r.2:=by
  have a:=M5 (a:=2 ^ v-val r) (b:=r.2) (by grind) (by grind)
  have b:val r*r.2=r.1:=by unfold val;grind
  grind
 have q2:r.1<=2 ^ v*r.2:=by
  have:((r.1:Nat):Rat)<=((2 ^ v*r.2:Nat):Rat):=by simpa using q
  exact NJ.mp this
 have hp:0<2 ^ v:=QE (by decide)
 refine⟨?_,MG (M4 l hm) (N9 (by decide) (by exact Nat.le_add_right _ _)),h.pos⟩
 have:2 ^ v*r.2<2 ^ v*2 ^ m:=Nat.mul_lt_mul_of_pos_left (M4 l hm) hp
 rw[Nat.pow_add,P2 (2 ^ m)]
 omega
theorem xg {r τ:Nat × Nat}{d D P Q k e v:Nat}{R:Int}(hr:Cop r)(ht:Cop τ)(zt:Sz e τ)(d0:0<d)(dD:d<2 ^ D)(q0:0<Q)(qk:Q<2 ^ k)(h:(d:Rat)*Q*val r=P*d*val τ+R)(hv:val r<=2 ^ v):Sz (D+k+e+v) r:=by
 have p:=av ht.pos
 refine Ba (M:=d*Q*τ.2) (N:=P*d*τ.1+R*τ.2) hr (NP (NP d0 q0) ht.pos) (ay (ay dD qk) zt.b) ?_ hv
 have e1:val τ*τ.2=τ.1:=by unfold val;grind
 simp only[Rat.natCast_mul,Rat.intCast_add,Rat.intCast_mul,Rat.intCast_natCast]
 grind
theorem sO {f:Rat->Option Rat}{a e:Rat}{c:Two}{d k:Nat}(h:SegF f a e c)(a0:0<=a)(ae:a<=e)(hl:Lin d k f):∃(P Q:Nat) (R:Int),(0<Q/\Q<2 ^ k/\P<2 ^ k)/\(d:Rat)*Q*val c.1=P*d*a+R/\(d:Rat)*Q*val c.2=P*d*e+R:=by
 obtain⟨P,Q,R,x,b,xe,hx⟩:=hl e _ (by grind) h.at_
 have e2:=hx e _ (by grind) xe MV h.at_
 by_cases q:a=e
 ·exact⟨P,Q,R,b,by rw[h.zero q,q];exact e2,e2⟩
 obtain⟨x',x1,x2,x3⟩:∃x',a<=x'/\x<=x'/\x'<e:=by
  by_cases w:a<=x
  ·exact⟨x,w,MV,xe⟩
  ·exact⟨a,MV,by grind,by grind⟩
 have en:e-a≠0:=by grind
 obtain⟨s,hs⟩:∃s,(val c.2-val c.1)/(e-a)=s:=⟨_,rfl⟩
 have hs2:val c.2=val c.1+s*(e-a):=by grind
 have m:=h.mid ((x'+e)/2) (by grind) (by grind)
 have e1:=hx _ _ (by grind) (by grind) (by grind) m
 have hm:val c.1+(val c.2-val c.1)*(((x'+e)/2-a)/(e-a))=val c.1+s*((x'+e)/2-a):=by grind
 rw[hm] at e1
 have k1:(d*Q*s-P*d)*(e-x')=0:=by grind
 have k2:(d:Rat)*Q*s=P*d:=by
  have n:e-x'≠0:=by grind
  rcases PU.mp k1 with z|z
  ·grind
  ·exact absurd z n
 exact⟨P,Q,R,b,by grind,e2⟩
theorem Cc {r:Nat × Nat}{d D P Q P' Q' k v:Nat}{R R':Int}{a e:Rat}{m y:Two}(hr:Cop r)(d0:0<d)(dD:d<2 ^ D)(b:0<Q/\Q<2 ^ k/\P<2 ^ k)(b':0<Q'/\Q'<2 ^ k/\P'<2 ^ k)(ae:a<e)
  (h1:(d:Rat)*Q*val m.1=P*d*a+R) (h2:(d:Rat)*Q*val m.2=P*d*e+R) (h3:(d:Rat)*Q'*val y.1=P'*d*a+R') (h4:(d:Rat)*Q'*val y.2=P'*d*e+R') (hc:Crs m y) (vr:val r=crM a e m y) (hv:val r<=2 ^ v):Sz (D+2*k+v) r:=by
 have pd:=av d0
 have pq:=av b.1
 have pq':=av b'.1
 have en:e-a≠0:=by grind
 have n1:val m.1-val y.1+(val y.2-val m.2)≠0:=by rcases hc with hc|hc <;> grind
 have key:(d:Rat)*(P*Q'-P'*Q)*val r=R'*Q-R*Q':=by
  obtain⟨u,hu⟩:∃u,(val m.1-val y.1)/(val m.1-val y.1+(val y.2-val m.2))=u:=⟨_,rfl⟩
  have hu2:u*(val m.1-val y.1+(val y.2-val m.2))=val m.1-val y.1:=by rw[<-hu];grind
  have vr2:val r=a+(e-a)*u:=by rw[vr,<-hu]
  have w:val m.1+(val m.2-val m.1)*u=val y.1+(val y.2-val y.1)*u:=by grind
  have w1:(d:Rat)*Q*(val m.1+(val m.2-val m.1)*u)=P*d*val r+R:=by grind
  have w2:(d:Rat)*Q'*(val y.1+(val y.2-val y.1)*u)=P'*d*val r+R':=by grind
  rw[w] at w1
  generalize val y.1+(val y.2-val y.1)*u=W at w1 w2
  grind
 have kn:(P:Int)*Q'-P'*Q≠0:=fun z=>by
  have z2:(P:Rat)*Q'-P'*Q=0:=by
   have:(((P:Int)*Q'-P'*Q:Int):Rat)=((0:Int):Rat):=by rw[z]
   simpa[Rat.intCast_natCast] using this
  have s1:(d:Rat)*Q*(val m.2-val m.1)=P*d*(e-a):=by grind
  have s2:(d:Rat)*Q'*(val y.2-val y.1)=P'*d*(e-a):=by grind
  have s3:(d:Rat)*Q*Q'*((val m.2-val m.1)-(val y.2-val y.1))=0:=by grind
  have ne:(d:Rat)*Q*Q'≠0:=by
   have:=NC (NC pd pq) pq'
   grind
  rcases PU.mp s3 with z|z
  ·exact ne z
  ·rcases hc with hc|hc <;> grind
 have l1:=ay b.2.2 b'.2.1
 have l2:=ay b'.2.2 b.2.1
 obtain⟨K,hK⟩:∃K:Int,(P:Int)*Q'-P'*Q=K:=⟨_,rfl⟩
 rw[hK] at kn
 have kb:K.natAbs<2 ^ (k+k):=by
  have e1:((P*Q':Nat):Int)-((P'*Q:Nat):Int)=K:=by rw[<-hK];simp
  omega
 have kr:(P:Rat)*Q'-P'*Q=K:=by
  have:(((P:Int)*Q'-P'*Q:Int):Rat)=(K:Rat):=by rw[hK]
  simpa[Rat.intCast_natCast] using this
 rw[kr] at key
 refine(Ba (M:=d*K.natAbs) (N:=if 0<=K then R'*Q-R*Q' else -(R'*Q-R*Q')) (m:=D+(k+k)) hr (NP d0 (by omega)) (ay dD kb) ?_ hv).mono (by omega)
 by_cases q:0<=K
 ·rw[ML q]
  have:((K.natAbs:Nat):Rat)=(K:Rat):=by
   have:((K.natAbs:Nat):Int)=K:=by omega
   rw[<-Rat.intCast_natCast,this]
  simp only[Rat.natCast_mul,this,Rat.intCast_sub,Rat.intCast_mul,Rat.intCast_natCast]
  grind
 ·rw[MJ q]
  have:((K.natAbs:Nat):Rat)=-(K:Rat):=by
   have:((K.natAbs:Nat):Int)=-K:=by omega
   rw[<-Rat.intCast_natCast,this,Rat.intCast_neg]
  simp only[Rat.natCast_mul,this,Rat.intCast_neg,Rat.intCast_sub,Rat.intCast_mul,Rat.intCast_natCast]
  grind
theorem SegOk.f {S:List Pc}{a e:Rat}{c:Two}(h:SegOk S a e c):SegF (cm 0 S) a e c:=⟨h.cl,h.ch,h.le,h.at_,h.zero,h.mid⟩
theorem yw {L:List Pc}{i:Nat}{p:Pc}(hR:RtF L)(hp:L[i]?=some p):SegOk L (val (bg L i)) p.E (p.l,p.h):=by
 obtain⟨n1,n2,n3,n4⟩:=nb hR hp
 obtain⟨ok,p1,p2⟩:=hR.at_ hp
 refine w5 hR hp MV n2 MV ?_ ok.l ok.h ?_ ?_
 ·by_cases w:i=0
  ·exact .inl w
  ·exact .inr (n4 w)
 ·unfold fP
  by_cases q:val (bg L i)=p.E
  ·rw[ML q]
  ·rw[MJ q];show p.L=_;grind
 ·unfold fP
  by_cases q:val (bg L i)=p.E
  ·rw[ML q];exact(n3 q).symm
  ·rw[MJ q]
   show p.H=_
   have:p.E-val (bg L i)≠0:=by grind
   grind
theorem BW {f:Rat->Option Rat}{a e:Nat × Nat}{c:Two}{d D k m v:Nat}(h:SegF f (val a) (val e) c)(ca:Cop a)(ce:Cop e)(za:Sz m a)(ze:Sz m e)(ae:val a<=val e)(hl:Lin d k f)(d0:0<d)(dD:d<2 ^ D)(hv:val c.2<=2 ^ v):Sz (D+k+m+v) c.1/\Sz (D+k+m+v) c.2:=by
 obtain⟨P,Q,R,b,h1,h2⟩:=sO h (aN ca.pos) ae hl
 have:=h.le
 exact⟨xg h.cl ca za d0 dD b.1 b.2.1 h1 (by grind),xg h.ch ce ze d0 dD b.1 b.2.1 h2 hv⟩
theorem A3 {L:List Pc}{d D k e v:Nat}(hR:RtF L)(hl:Lin d k (cm 0 L))(hz:∀p∈L,Sz e p.e)(e1:1<=e)(hi:∀t y,0<=t->cm 0 L t=some y->y<=2 ^ v)(d0:0<d)(dD:d<2 ^ D):SzL (D+k+e+v) L:=fun p hp=>by
 obtain⟨i,hi'⟩:=NM hp
 have s:=yw hR hi'
 obtain⟨n1,n2,n3,n4⟩:=nb hR hi'
 have ok:=(hR.at_ hi').1
 have bz:Sz e (bg L i):=by
  cases i with
  | zero=>exact⟨QE (by decide),O3 (by exact Nat.ne_of_gt ‹_›),Nat.one_pos⟩
  | succ i =>
   have il:=(MC.mp hi').1
   have h:=MK (show i<L.length by exact Nat.le_of_lt ‹_›)
   rw[bgS h]
   exact hz _ (NN _)
 obtain⟨z1,z2⟩:=BW s.f n1 ok.e bz (hz p hp) n2 hl d0 dD (hi _ _ (aN ok.e.pos) s.at_)
 exact⟨(hz p hp).mono (by omega),z1,z2⟩
theorem Stl.sz {d D k e v n:Nat}{L:List Pc}(h:Stl d k e v n L)(e1:1<=e)(d0:0<d)(dD:d<2 ^ D):SzL (D+k+e+v) L:=A3 h.rt h.lin h.en e1 h.hi d0 dD
theorem Lin.congr {d k:Nat}{f g:Rat->Option Rat}(h:Lin d k f)(e:∀t,0<=t->g t=f t):Lin d k g:=fun x y x0 hx=>by
 obtain⟨P,Q,R,u,b,ux,hu⟩:=h x y x0 (by rw[<-e x x0];exact hx)
 exact⟨P,Q,R,u,b,ux,fun t z t0 ut tx hz=>hu t z t0 ut tx (by rw[<-e t t0];exact hz)⟩
theorem Lin.mono {d k j:Nat}{f:Rat->Option Rat}(h:Lin d k f)(kj:k<=j):Lin d j f:=fun x y x0 hx=>by
 obtain⟨P,Q,R,u,b,ux,hu⟩:=h x y x0 hx
 have:=N9 (n:=2) (by decide) kj
 exact⟨P,Q,R,u,⟨b.1,by omega,by omega⟩,ux,hu⟩
theorem tw {A B:List Pc}{t x:Rat}(h:cm 0 A t=some x)(hb:∀y,cm 0 B t=some y->x<=y):les A B t=some x:=by
 unfold les
 rw[h]
 cases e:cm 0 B t with
 | none=>rfl
 | some y=>show some (if x<=y then x else y)=_;rw[ML (hb y e)]
theorem uS {A B:List Pc}{t y:Rat}(h:cm 0 B t=some y)(ha:∀x,cm 0 A t=some x->y<=x):les A B t=some y:=by
 unfold les
 rw[h]
 cases e:cm 0 A t with
 | none=>rfl
 | some x =>
  show some (if x<=y then x else y)=_
  have:=ha x e
  by_cases w:x<=y
  ·rw[ML w];congr 1;grind
  ·rw[MJ w]
theorem fg {A B:List Pc}{t z:Rat}(h:les A B t=some z):(cm 0 A t=some z/\∀y,cm 0 B t=some y->z<=y)\/(cm 0 B t=some z/\∀x,cm 0 A t=some x->z<=x):=by
 unfold les at h
 cases e:cm 0 A t with
 | none=>rw[e] at h;exact .inr ⟨h,fun x hx=>by cases hx⟩
 | some x =>
  rw[e] at h
  cases e2:cm 0 B t with
  | none=>rw[e2] at h;cases h;exact .inl ⟨rfl,fun y hy=>by cases hy⟩
  | some y =>
   rw[e2] at h
   have h:some (if x<=y then x else y)=some z:=h
   by_cases w:x<=y
   ·rw[ML w] at h;cases h;exact .inl ⟨rfl,fun y' hy=>by cases hy;exact w⟩
   ·rw[MJ w] at h;cases h;exact .inr ⟨rfl,fun x' hx=>by cases hx;grind⟩
theorem les_no {A B:List Pc}{t:Rat}:les A B t=none↔cm 0 A t=none/\cm 0 B t=none:=by
 constructor
 ·intro h
  unfold les at h
  cases e:cm 0 A t with
  | none=>rw[e] at h;exact⟨rfl,h⟩
  | some x =>
   rw[e] at h
   cases e2:cm 0 B t with
   | none=>rw[e2] at h;cases h
   | some y=>rw[e2] at h;cases h
 ·rintro⟨h1,h2⟩
  unfold les;rw[h1,h2]
theorem oU {A B:List Pc}{t:Rat}:les A B t=les B A t:=by
 cases e:les B A t with
 | none=>exact les_no.mpr (les_no.mp e).symm
 | some z =>
  rcases fg e with⟨h1,h2⟩|⟨h1,h2⟩
  ·exact uS h1 h2
  ·exact tw h1 h2
theorem Ea {A B:List Pc}{t u z:Rat}(tu:t<=u)(h:les A B u=some z):∃y,les A B t=some y:=by
 cases e:les A B t with
 | some y=>exact⟨y,rfl⟩
 | none =>
  obtain⟨e1,e2⟩:=les_no.mp e
  rcases fg h with⟨h1,_⟩|⟨h1,_⟩
  ·obtain⟨y,hy⟩:=fD tu h1;rw[e1] at hy;cases hy
  ·obtain⟨y,hy⟩:=fD tu h1;rw[e2] at hy;cases hy
theorem Gj {A B:List Pc}{t z:Rat}(hA:RtF A)(hB:RtF B)(t0:0<=t)(h:les A B t=some z):t<=z:=by
 rcases fg h with⟨h1,_⟩|⟨h1,_⟩
 ·exact wb hA t0 h1
 ·exact wb hB t0 h1
theorem FZ {A B:List Pc}{t u y z:Rat}(hA:RtF A)(hB:RtF B)(t0:0<=t)(tu:t<=u)(h:les A B t=some y)(h':les A B u=some z):y<=z:=by
 have key:∀ {A B:List Pc},RtF A->les A B t=some y->cm 0 A u=some z->y<=z:=fun {A B} hA h hu=>by
  obtain⟨x,hx⟩:=fD tu hu
  have:=Bw hA t0 tu hx hu
  rcases fg h with⟨h1,_⟩|⟨_,h2⟩
  ·rw[h1] at hx;cases hx;exact this
  ·have:=h2 x hx;grind
 rcases fg h' with⟨h1,_⟩|⟨h1,_⟩
 ·exact key hA h h1
 ·exact key hB (by rw[oU];exact h) h1
theorem FD {A B:List Pc}{v:Nat}(hA:∀t y,0<=t->cm 0 A t=some y->y<=2 ^ v)(hB:∀t y,0<=t->cm 0 B t=some y->y<=2 ^ v):∀t y,0<=t->les A B t=some y->y<=2 ^ v:=fun t y t0 h=>by
 rcases fg h with⟨h1,_⟩|⟨h1,_⟩
 ·exact hA t y t0 h1
 ·exact hB t y t0 h1
theorem D6 {A:List Pc}{e:Rat}(hA:RtF A)(h:cm 0 A e=none):∃l,l<e/\∀t,l<t->cm 0 A t=none:=by
 rcases dS A with rfl|⟨Y,q,rfl⟩
 ·exact⟨e-1,by grind,fun t _=>rfl⟩
 ·obtain⟨y,hy⟩:=wL (b:=0) (L:=Y++[q]) (p:=q) (by simp)
  have lt:q.E<e:=MH fun w=>by
   obtain⟨z,hz⟩:=fD (t:=e) (by grind) hy
   rw[h] at hz;cases hz
  exact⟨q.E,lt,fun t ht=>lH hA ht⟩
theorem xj {α β e:Rat}(h:0<α*e+β):∃x,x<e/\∀t,x<t->t<=e->0<α*t+β:=by
 by_cases w:α<=0
 ·exact⟨e-1,by grind,fun t _ te=>by have:=M5 (a:=-α) (b:=e-t) (by grind) (by grind);grind⟩
 ·have a0:0<α:=by grind
  obtain⟨g,hg⟩:∃g,(α*e+β)/α=g:=⟨_,rfl⟩
  have g1:g*α=α*e+β:=by rw[<-hg];grind
  have g0:0<g:=MH fun z=>by
   have:=M5 (a:=-g) (b:=α) (by grind) (by grind)
   grind
  refine⟨e-g,by grind,fun t t1 te=>?_⟩
  have:=NC (a:=t-(e-g)) (b:=α) (by grind) a0
  grind
theorem Bz {α β e:Rat}:∃x,x<e/\((∀t,x<t->t<=e->0<=α*t+β)\/∀t,x<t->t<=e->α*t+β<=0):=by
 by_cases w:0<α*e+β
 ·obtain⟨x,h1,h2⟩:=xj w
  exact⟨x,h1,.inl fun t a b=>NB (h2 t a b)⟩
 ·by_cases w2:α*e+β<0
  ·obtain⟨x,h1,h2⟩:=xj (α:=-α) (β:=-β) (e:=e) (by grind)
   exact⟨x,h1,.inr fun t a b=>by have:=h2 t a b;grind⟩
  ·by_cases w3:α<=0
   ·exact⟨e-1,by grind,.inl fun t _ te=>by have:=M5 (a:=-α) (b:=e-t) (by grind) (by grind);grind⟩
   ·exact⟨e-1,by grind,.inr fun t _ te=>by have:=M5 (a:=α) (b:=e-t) (by grind) (by grind);grind⟩
theorem kh {d Q P:Nat}{R:Int}{z t:Rat}(d0:0<d)(q0:0<Q)(h:(d:Rat)*Q*z=P*d*t+R):z=(P:Rat)/Q*t+R/(d*Q):=by
 have:=av d0
 have:=av q0
 grind
theorem D3 {A B:List Pc}{d k:Nat}(d0:0<d)(hA:RtF A)(hB:RtF B)(lA:Lin d k (cm 0 A))(lB:Lin d k (cm 0 B)):Lin d k (les A B):=by
 have one:∀ {A B:List Pc},RtF A->RtF B->Lin d k (cm 0 B)->∀e y,0<=e->cm 0 A e=none->cm 0 B e=some y->∃(P Q:Nat) (R:Int) (x:Rat),(0<Q/\Q<2 ^ k/\P<2 ^ k)/\x<e/\∀t z,0<=t->x<t->t<=e->les A B t=some z->(d:Rat)*Q*z=P*d*t+R:=fun {A B} hA hB lB e y e0 h1 h2=>by
  obtain⟨P,Q,R,x,b,xe,hx⟩:=lB e y e0 h2
  obtain⟨l,le,hl⟩:=D6 hA h1
  by_cases w:x<=l
  ·refine⟨P,Q,R,l,b,le,fun t z t0 lt te hz=>hx t z t0 (by grind) te ?_⟩
   rcases fg hz with⟨h,_⟩|⟨h,_⟩
   ·rw[hl t lt] at h;cases h
   ·exact h
  ·refine⟨P,Q,R,x,b,xe,fun t z t0 lt te hz=>hx t z t0 lt te ?_⟩
   rcases fg hz with⟨h,_⟩|⟨h,_⟩
   ·rw[hl t (by grind)] at h;cases h
   ·exact h
 intro e y e0 he
 cases eA:cm 0 A e with
 | none =>
  cases eB:cm 0 B e with
  | none=>rw[les_no.mpr ⟨eA,eB⟩] at he;cases he
  | some y2=>exact one hA hB lB e y2 e0 eA eB
 | some y1 =>
  cases eB:cm 0 B e with
  | none =>
   obtain⟨P,Q,R,x,b,xe,hx⟩:=one hB hA lA e y1 e0 eB eA
   exact⟨P,Q,R,x,b,xe,fun t z t0 xt te hz=>hx t z t0 xt te (by rw[oU];exact hz)⟩
  | some y2 =>
   obtain⟨P,Q,R,x,b,xe,hx⟩:=lA e y1 e0 eA
   obtain⟨P',Q',R',x',b',xe',hx'⟩:=lB e y2 e0 eB
   obtain⟨u,ue,hu⟩:=Bz (α:=(P':Rat)/Q'-P/Q) (β:=R'/(d*Q')-R/(d*Q)) (e:=e)
   obtain⟨m,m1,m2,m3,m4⟩:∃m,x<=m/\x'<=m/\u<=m/\m<e:=by
    by_cases w:x<=x'
    ·by_cases w2:x'<=u
     ·exact⟨u,by grind,w2,MV,ue⟩
     ·exact⟨x',w,MV,by grind,xe'⟩
    ·by_cases w2:x<=u
     ·exact⟨u,w2,by grind,MV,ue⟩
     ·exact⟨x,MV,by grind,by grind,xe⟩
   rcases hu with hu|hu
   ·refine⟨P,Q,R,m,b,m4,fun t z t0 mt te hz=>?_⟩
    obtain⟨z1,h1⟩:=fD te eA
    obtain⟨z2,h2⟩:=fD te eB
    have l1:=hx t z1 t0 (by grind) te h1
    have v1:=kh d0 b.1 l1
    have v2:=kh d0 b'.1 (hx' t z2 t0 (by grind) te h2)
    have:=hu t (by grind) te
    have le:z1<=z2:=by grind
    rw[tw h1 fun y hy=>by rw[h2] at hy;cases hy;exact le] at hz
    cases hz
    exact l1
   ·refine⟨P',Q',R',m,b',m4,fun t z t0 mt te hz=>?_⟩
    obtain⟨z1,h1⟩:=fD te eA
    obtain⟨z2,h2⟩:=fD te eB
    have l2:=hx' t z2 t0 (by grind) te h2
    have v1:=kh d0 b.1 (hx t z1 t0 (by grind) te h1)
    have v2:=kh d0 b'.1 l2
    have:=hu t (by grind) te
    have le:z2<=z1:=by grind
    rw[uS h2 fun y hy=>by rw[h1] at hy;cases hy;exact le] at hz
    cases hz
    exact l2
theorem G_ {c:E}{b:Ss}{D:aO}(I:Nat->Fr->AH->Prop){n:Nat}{ρ:Fr}{st:AH}(h0:I n ρ st)
  (hs:∀n ρ st,I n ρ st->∃A B:AH->Prop,(wpT Γ c ρ st fun k st1=>if k=true then A st1 else B st1)/\(∀st1,A st1->au Γ b ρ st1 (LD (fun ρ' st'=>∃m,m<n/\I m ρ' st') D))/\∀st1,B st1->D.nx ρ st1):Gb Γ c b D ρ st:=by
 refine o9 Γm I h0 fun n ρ st i=>?_
 obtain⟨A,B,h1,h2,h3⟩:=hs n ρ st i
 refine aJ Γm c (fun k st1 z=>?_) h1
 cases k with
 | true=>exact h2 _ z
 | false=>exact h3 _ z
theorem qH {T:List (Nat × Nat)}{j:Nat}(h:T.length<=j):T.drop j=[]:=List.drop_eq_nil_of_le h
theorem Bp {as st Q}(h:f_ as st Q):au Γ iD (frame 6 as) st (ad st Q):=by
 obtain⟨k,n,m,T1,T2,rfl,hk,h1,h2,e1,e2,hl,kk⟩:=h
 have g1:∀g:AH,(st++g)[n]?=some (.lst (T1.map fr)):=fun g=>ai h1
 have g2:∀g:AH,(st++g)[m]?=some (.lst (T2.map fr)):=fun g=>ai h2
 have len1:(T1.map fr).length=T1.length:=MS ..
 have len2:(T2.map fr).length=T2.length:=MS ..
 unfold iD
 walk_at "WP"
 refine G_ (MgW st k n m T1 T2) (n:=T1.length+T2.length-(0+0)) ⟨[],0,0,[],none,rfl,N5 _,N5 _,rfl,⟨List.Pairwise.nil,by simp,by simp,by simp,N5 _⟩,rfl⟩ ?_
 rintro q ρ s ⟨Z,i,j,g,x,rfl,hi,hj,rfl,I,rfl⟩
 refine⟨fun s=>s=st++.lst (Z.map fr)::g/\(i<T1.length\/j<T2.length),fun s=>s=st++.lst (Z.map fr)::g/\i=T1.length/\j=T2.length,?_,?_,?_⟩
 ·walk_at "WP"
  refine⟨_,ac (g1 _),?_⟩
  rw[len1]
  refine dJ (fun c=>.inl (by omega)) fun c=>⟨_,ac (g2 _),?_⟩
  rw[len2]
  exact dJ (fun c'=>.inr (by omega)) fun c'=>⟨by omega,by omega⟩
 ·rintro s ⟨rfl,hij⟩
  refine eP (fun ρ s=>s=st++.lst (Z.map fr)::g/\∃(x:Nat × Nat) (i' j':Nat),((i'=i+1/\j'=j/\T1[i]?=some x/\∀t∈T2.drop j,val x<=val t)\/(i'=i/\j'=j+1/\T2[j]?=some x/\∀t∈T1.drop i,val x<=val t))/\ρ=[some (.ref n),some (.ref m),some (.ref st.length),some (.int i'),some (.int j'),some (fr x)]) ?_ ?_
  ·refine ifS (fun s=>s=st++.lst (Z.map fr)::g/\∃x,T1[i]?=some x/\∀t∈T2.drop j,val x<=val t) (fun s=>s=st++.lst (Z.map fr)::g/\∃x,T2[j]?=some x/\∀t∈T1.drop i,val x<=val t) ?_ ?_ ?_
   ·walk_at "WP"
    refine⟨_,ac (g2 _),?_⟩
    rw[len2]
    refine dJ (fun c=>?_) fun c=>⟨_,ac (g1 _),?_⟩
    ·have il:i<T1.length:=by omega
     exact⟨_,MK il,fun t ht=>by rw[qH (by omega)] at ht;cases ht⟩
    ·have jl:j<T2.length:=by omega
     have hy:=MK jl
     rw[len1]
     refine dJ (fun c1=>?_) fun c1=>⟨_,hy,fun t ht=>by rw[qH (by omega)] at ht;cases ht⟩
     have il:i<T1.length:=by omega
     have hx:=MK il
     obtain⟨c1',z1⟩:=e1.ok _ (NN il)
     obtain⟨c2',z2⟩:=e2.ok _ (NN jl)
     refine⟨_,ac (g1 _),fr T1[i],bB (by rw[MN,hx];rfl),_,ac (g2 _),fr T2[j],bB (by rw[MN,hy];rfl),?_⟩
     refine⟨_,_,rfl,z1.mono (by omega),z2.mono (by omega),?_⟩
     by_cases w:val T1[i]<val T2[j]
     ·rw[jd z1 z2 w]
      walk_at "WP"
      exact⟨_,hx,fun t ht=>by have:=sW e2.sr hy t ht;grind⟩
     ·rw[iM z1 z2 (by grind)]
      walk_at "WP"
      exact⟨_,hy,fun t ht=>by have:=sW e1.sr hx t ht;grind⟩
   ·rintro s ⟨rfl,x,hx,hl⟩
    walk_at "WPN"
    refine⟨_,ac (g1 _),fr x,bB (by rw[MN,hx];rfl),x,i+1,j,.inl ⟨rfl,rfl,hx,hl⟩,?_⟩
    exact⟨by rfl,rfl,rfl⟩
   ·rintro s ⟨rfl,x,hx,hl⟩
    walk_at "WPN"
    refine⟨_,ac (g2 _),fr x,bB (by rw[MN,hx];rfl),x,i,j+1,.inr ⟨rfl,rfl,hx,hl⟩,?_⟩
    exact⟨rfl,by rfl,rfl⟩
  rintro ρ s ⟨rfl,x,i',j',hp,rfl⟩
  obtain⟨I2,hi',hj',dn⟩:MgI T1 T2 (if Z.getLast?=some x then Z else Z++[x]) i' j'/\i'<=T1.length/\j'<=T2.length/\i'+j'=i+j+1:=by
   rcases hp with⟨rfl,rfl,hx,hl⟩|⟨rfl,rfl,hx,hl⟩
   ·have il:=(MC.mp hx).1
    exact⟨I.step e1.sr (fun t ht=>(e1.ok t ht).1) (fun t ht=>(e2.ok t ht).1) hx hl,by assumption,by assumption,by exact Nat.add_right_comm _ _ _⟩
   ·have il:=(MC.mp hx).1
    exact⟨(I.swap.step e2.sr (fun t ht=>(e2.ok t ht).1) (fun t ht=>(e1.ok t ht).1) hx hl).swap,by assumption,by assumption,by rfl⟩
  have lZ:=I.ln
  walk_at "WP"
  refine i_ (xs:=Z.map fr) (by simp) (by simp) Az ?_
  rcases dS Z with rfl|⟨Y,c,rfl⟩
  ·rw[ML (by rfl)]
   rw[MJ (by simp)] at I2
   refine⟨⟨_,aw bA⟩,by simp,T1.length+T2.length-(i'+j'),by omega,_,i',j',g++[.lst []],_,rfl,hi',hj',?_,I2,rfl⟩
   rw[iT];simp
  ·rw[MJ (by simp)]
   refine⟨_,ac bA,fr c,by rw[M8];exact eJ,ir ?_⟩
   rw[OZ] at I2
   by_cases w:c=x
   ·rw[NW w,MJ (by decide)]
    rw[ML (by rw[w])] at I2
    exact⟨T1.length+T2.length-(i'+j'),by omega,_,i',j',g++[.lst []],_,rfl,hi',hj',rfl,I2,rfl⟩
   ·rw[NO w,ML rfl]
    rw[MJ (fun z=>w (NE z))] at I2
    refine⟨⟨_,aw bA⟩,by simp at lZ |-;omega,T1.length+T2.length-(i'+j'),by omega,_,i',j',g++[.lst []],_,rfl,hi',hj',?_,I2,rfl⟩
    rw[iT];simp
 ·rintro s ⟨rfl,rfl,rfl⟩
  walk_at "WP"
  have mem:∀t,t∈Z↔t∈T1\/t∈T2:=fun t=>by have:=I.mem t;rwa [N7,N7] at this
  refine .inl (kk Z _ _ bA ⟨I.sr,fun t ht=>?_⟩ mem I.ln)
  rcases (mem t).mp ht with a|a
  ·exact e1.ok t a
  ·exact e2.ok t a
theorem CutI.none {S:List Pc}{T:List (Nat × Nat)}{z j:Nat}{C:List (Option Two)}(h:CutI S T z S.length C)(hS:RtF S)(hE:Ends j T)(t0:T[0]?=some (0,1))(hin:∀p∈S,p.e∈T){k:Nat}(hk:C.length<=k)(kT:k<T.length):mE S z (val (bgT T k)) (val (bgT T (k+1))) none:=by
 intro t ht
 rcases dS S with rfl|⟨Y,q,rfl⟩
 ·rfl
 ·have hq:(Y++[q])[Y.length]?=some q:=by simp
  have eb:bg (Y++[q]) (Y++[q]).length=q.e:=by rw[show (Y++[q]).length=Y.length+1 by simp,bgS hq]
  obtain⟨k0,hk0⟩:=NM (hin q (by simp))
  have k1:k0<C.length:=(h.cnt k0 _ hk0).mpr ⟨by simp,by rw[eb];exact MV⟩
  have hT:=MK kT
  have lt:q.E<val T[k]:=hE.lt hk0 hT (by omega)
  have le:q.E<=val (bgT T k):=by
   cases k with
   | zero=>omega
   | succ k =>
    have hk':=MK (show k<T.length by exact Nat.le_of_lt ‹_›)
    rw[nu hk']
    by_cases e:k0=k
    ·subst e
     rw[hk'] at hk0
     rw[NE hk0]
     exact MV
    ·exact NB (hE.lt hk0 hk' (by omega))
  rw[nu hT] at ht
  refine cx fun r hr=>?_
  have:=xf hS r hr
  rw[eb] at this
  have:r.E<=q.E:=this
  rcases ht with ht|ht <;> grind
def CaI (st:AH)(S:List Pc)(n:Nat)(T:List (Nat × Nat))(z:Nat)(i:Nat)(ρ:Fr)(s:AH):Prop:=∃(C:List (Option Two)) (g:AH) (a b c d:Option PV),s=st++.lst (C.map cV)::g/\CutI S T z i C/\ρ=[some (a8 S),some (.ref n),some (.ref st.length),a,b,c,d]
def CaJ (st:AH)(S:List Pc)(n:Nat)(T:List (Nat × Nat))(z i:Nat)(p:Pc)(q:Nat)(ρ:Fr)(s:AH):Prop:=∃(C:List (Option Two)) (g:AH) (lo:Nat × Nat) (x:Option PV),q=T.length-C.length/\s=st++.lst (C.map cV)::g/\CutJ S T z i p C lo/\Cop lo/\Sz z lo/\ρ=[some (a8 S),some (.ref n),some (.ref st.length),some (.int i),some (pcV p),some (fr lo),x]
theorem BL {as st Q}(h:fT as st Q):au Γ io (frame 7 as) st (ad st Q):=by
 obtain⟨j,m,S,n,T,rfl,⟨j1,j2⟩,hS,hz,hn,hE,t0,hin,lS,lT,k⟩:=h
 have gn:∀g:AH,(st++g)[n]?=some (.lst (T.map fr)):=fun g=>ai hn
 have lenT:(T.map fr).length=T.length:=MS ..
 unfold io
 walk_at "WP"
 refine c_ Γm (CaI st S n T (m+4*j+2)) ⟨[],[],none,none,none,none,rfl,⟨fun k t _=>⟨fun z=>absurd z (OW _),fun z=>absurd rfl z.1⟩,fun k c hc=>by simp at hc,N5 _⟩,rfl⟩ ?_ ?_
 ·rintro i v ρ s hi ⟨C,g,a,b,c,d,rfl,I,rfl⟩
  refine⟨trivial,?_⟩
  obtain⟨v,hv,rfl⟩:=mv hi
  rw[MN] at hv
  obtain⟨p,hp,rfl⟩:=M0.mp hv
  have pz:=hz p (MQ hp)
  obtain⟨pok,p1,p2⟩:=hS.at_ hp
  rw[Int.zero_add]
  walk_at "WP"
  refine G_ (CaJ st S n T (m+4*j+2) i p) (n:=T.length-C.length) ⟨C,g,p.l,_,rfl,rfl,I.start hS hE hp hin,pok.l,pz.l.mono (by omega),rfl⟩ ?_
  rintro q ρ s ⟨C,g,lo,x,rfl,rfl,J,cl,zl,rfl⟩
  have lC:=J.ln
  have lenC:(C.map cV).length=C.length:=MS ..
  refine⟨fun s=>s=st++.lst (C.map cV)::g/\∃t,T[C.length]?=some t/\val t<=p.E,fun s=>s=st++.lst (C.map cV)::g/\∀t,T[C.length]?=some t->p.E<val t,?_,?_,?_⟩
  ·walk_at "WP"
   refine⟨_,ac bA,_,ac (gn _),?_⟩
   rw[lenC,lenT]
   refine dJ (fun c=>?_) fun c=>fun t ht=>by have:=(MC.mp ht).1;omega
   have il:C.length<T.length:=by omega
   have ht:=MK il
   obtain⟨ct,tz⟩:=hE.ok _ (NN il)
   refine⟨_,ac bA,_,ac (gn _),fr T[C.length],by rw[lenC];exact bB (by rw[MN,ht];rfl),?_⟩
   refine⟨_,_,rfl,pz.e.mono (by omega),tz.mono (by omega),?_⟩
   have pz':Sz (m+4*j+2) p.e:=pz.e.mono (by omega)
   have tz':Sz (m+4*j+2) T[C.length]:=tz.mono (by omega)
   by_cases w:p.E<val T[C.length]
   ·rw[jd pz' tz' w]
    walk_at "WP"
    intro t ht'
    rw[ht] at ht'
    cases ht'
    exact w
   ·rw[iM pz' tz' (by grind)]
    walk_at "WP"
    exact⟨_,ht,by grind⟩
  ·rintro s ⟨rfl,t,ht,le⟩
   obtain⟨ct,tz⟩:=hE.ok t (MQ ht)
   have il:=(MC.mp ht).1
   have ge:val (bg S i)<=val t:=by
    rcases J.nx C.length t ht (MM _) with rfl|w
    ·show val (0,1)<=_;rw[ao];exact aN ct.pos
    ·exact NB w
   walk_at "WP"
   refine⟨_,ac bA,_,ac (gn _),fr t,by rw[lenC];exact bB (by rw[MN,ht];rfl),?_⟩
   refine⟨j,m,S,i,p,t,rfl,⟨j1,by assumption⟩,hS,hz,hp,ct,tz,by rw[ox];exact ge,le,fun hi ch zh vh=>?_⟩
   rw[ox] at vh
   walk_at "WP"
   have J2:=J.step (z:=m+4*j+2) hS hE hp ht le t0 cl ch zl (zh.mono (by exact Nat.le_refl _)) vh
   refine⟨⟨_,aw bA⟩,by rw[lenC];omega,T.length-(C++[some (lo,hi)]).length,by simp;omega,C++[some (lo,hi)],g,hi,_,rfl,?_,J2,ch,zh.mono (by exact Nat.le_refl _),rfl⟩
   rw[iT];simp;rfl
  ·rintro s ⟨rfl,hx⟩
   exact⟨C,g,_,_,_,_,rfl,J.done hE hp hx,rfl⟩
 ·rintro ρ s ⟨C,g,a,b,c,d,rfl,I,rfl⟩
  refine⟨trivial,?_⟩
  rw[ma,MS] at I
  have lC:=I.ln
  have lenC:(C.map cV).length=C.length:=MS ..
  walk_at "WP"
  refine⟨_,ac (gn _),_,ac bA,?_⟩
  rw[lenC,lenT]
  have e0:((T.length:Int)-C.length).toNat=T.length-C.length:=by omega
  have ef:(List.replicate (T.length-C.length) [PV.non]).flatten=(List.replicate (T.length-C.length) (none:Option Two)).map cV:=by
   rw[List.map_replicate]
   induction (T.length-C.length) with
   | zero=>rfl
   | succ m ih=>rw[NX,OJ,ih,NX];rfl
  rw[e0,ef]
  refine⟨by omega,by omega,by omega,by simp;omega,.inl (k (C++List.replicate (T.length-C.length) none) _ _ ?_ (by simp;omega) fun i c hc=>?_)⟩
  ·rw[bc,M8]
   show ((Cell.lst (C.map cV)::(g++_))[g.length+2+1]?)=_
   rw[P0,bc]
   rfl
  ·have il:=(MC.mp hc).1
   by_cases w:i<C.length
   ·rw[M1 w] at hc
    exact I.ok i c hc
   ·rw[M6 (by exact Nat.not_lt.mp ‹_›)] at hc
    have:c=none:=by
     rw[PY] at hc
     split at hc
     ·exact(NE hc).symm
     ·cases hc
    subst this
    exact I.none hS hE t0 hin (by exact Nat.not_lt.mp ‹_›) (by simp at il;omega)
theorem yi {as st Q}(h:eR as st Q):au Γ gj (frame 2 as) st (ad st Q):=by
 obtain⟨p,q,rfl,cp,cq,zp,zq,k⟩:=h
 unfold gj
 walk_at "WP"
 refine ir ?_
 unfold ldr at k
 by_cases e:p=q
 ·rw[NW e,ML rfl]
  rw[ML (by rw[e])] at k
  exact .inl k
 ·rw[NO e,MJ MF]
  rw[MJ (fun z=>e (ft cp cq z))] at k
  refine⟨_,_,rfl,zp.mono (by decide),zq.mono (by decide),?_⟩
  by_cases w:val p<val q
  ·rw[jd zp zq w]
   rw[ML w] at k
   walk_at "WP"
   exact .inl k
  ·rw[iM zp zq (by grind)]
   rw[MJ w] at k
   walk_at "WP"
   exact .inl k
theorem CC {as st Q}(h:iw as st Q):au Γ jW (frame 2 as) st (ad st Q):=by
 obtain⟨k,p,q,rfl,hk,cp,cq,zp,zq,kk⟩:=h
 have up:∀ {x:Nat × Nat},Sz k x->Sz 3000 x:=fun z=>z.mono (by omega)
 unfold jW
 walk_at "WP"
 refine⟨_,_,rfl,up zp,up zq,?_⟩
 by_cases w:val p<val q
 ·rw[jd zp zq w]
  walk_at "WP"
  refine⟨_,_,rfl,up zq,up zp,sub_le (up zq) (up zp) (NB w),.inl (kk _ (f' cq.pos cp.pos) (i5 zq zp) (.inl ⟨w,ja cq.pos cp.pos (NB w)⟩))⟩
 ·have le:val q<=val p:=by grind
  rw[iM zp zq le]
  walk_at "WP"
  refine⟨_,_,rfl,up zp,up zq,sub_le (up zp) (up zq) le,.inl (kk _ (f' cp.pos cq.pos) (i5 zp zq) (.inr ⟨le,ja cp.pos cq.pos le⟩))⟩
theorem FH {l:List Nat}{n:Nat}:(ldV l).bel n=true:=by
 rw[PV.bel]
 induction l with
 | nil=>rw[OH,PV.bels]
 | cons x xs ih=>rw[M7,PV.bels,ih];rfl
theorem BB {as st Q}(h:fX as st Q):au Γ iz (frame 2 as) st (ad st Q):=by
 obtain⟨l,l',rfl,hl,k⟩:=h
 unfold iz
 walk_at "WP"
 refine⟨by simp;omega,?_⟩
 refine i8 Γm (fun j acc s=>s=st/\acc=((l.take j).filter fun w=>l'.contains w).map iV) ⟨rfl,by simp⟩ ?_ ?_
 ·rintro j x acc s hx ⟨rfl,rfl⟩
  refine⟨trivial,?_⟩
  rw[MN] at hx
  obtain⟨u,hu,rfl⟩:=M0.mp hx
  walk_at "WP"
  refine⟨l'.map (fun n:Nat=>(n:Int)),by rw[NQ];rfl,?_⟩
  have e:((l'.map (fun n:Nat=>(n:Int))).any fun j=>j == (u:Int))=l'.contains u:=by
   rw[List.any_map,List.contains_eq_any_beq]
   congr 1
   funext x
   show ((x:Int) == (u:Int))=(u == x)
   by_cases w:u=x
   ·rw[w];simp
   ·have h1:((x:Int) == (u:Int))=false:=by simp;omega
    have h2:(u == x)=false:=by simpa using w
    rw[h1,h2]
  rw[e]
  have et:l.take (j+1)=l.take j++[u]:=by rw[O0,hu];rfl
  rw[et,List.filter_append,M8]
  refine dJ (fun c=>?_) fun c=>?_
  ·rw[List.filter_cons_of_pos c];rfl
  ·rw[List.filter_cons_of_neg c];simp
 ·rintro acc s ⟨rfl,rfl⟩
  refine⟨trivial,?_⟩
  rw[MS,N7]
  exact⟨_,ac aq,.app FH (.inl k)⟩
theorem CZ {c:Two}:cV (some c)=.tup [fr c.1,fr c.2]:=rfl
theorem BM {A B:List Pc}{a e:Rat}{m y:Two}(hA:SegOk A a e m)(hB:SegOk B a e y){t:Rat}(ht:a<t\/t=e)(te:t<=e):∃u:Rat,0<=u/\u<=1/\cm 0 A t=some (val m.1+(val m.2-val m.1)*u)/\cm 0 B t=some (val y.1+(val y.2-val y.1)*u)/\(a<e->u=(t-a)/(e-a)):=by
 by_cases q:a<t
 ·obtain⟨u,u1,u2,u3,u4⟩:=oJ (a:=t-a) (w:=e-a) (by grind) (by grind) (by grind)
  exact⟨u,u3,u4,by rw[hA.mid t q te,u1],by rw[hB.mid t q te,u1],fun _=>u1.symm⟩
 ·have:t=e:=by rcases ht with h|h;exact absurd h q;exact h
  subst this
  refine⟨1,by grind,by grind,by rw[hA.at_];congr 1;grind,by rw[hB.at_];congr 1;grind,fun h=>absurd h (by grind)⟩
theorem Ag {m0 m1 y0 y1 u:Rat}(h0:m0<=y0)(h1:m1<=y1)(u0:0<=u)(u1:u<=1):m0+(m1-m0)*u<=y0+(y1-y0)*u:=by
 have a:=M5 (a:=y0-m0) (b:=1-u) (by grind) (by grind)
 have b:=M5 (a:=y1-m1) (b:=u) (by grind) u0
 grind
theorem ldr_l {x y:Rat}:0∈ldr x y↔x<=y:=by
 unfold ldr
 by_cases e:x=y
 ·rw[ML e];simp;grind
 ·rw[MJ e]
  by_cases w:x<y
  ·rw[ML w];simp;grind
  ·rw[MJ w];simp;grind
theorem ldr_r {x y:Rat}:1∈ldr x y↔y<=x:=by
 unfold ldr
 by_cases e:x=y
 ·rw[ML e];simp;grind
 ·rw[MJ e]
  by_cases w:x<y
  ·rw[ML w];simp;grind
  ·rw[MJ w];simp;grind
theorem Ga {x y:Rat}:∀u∈ldr x y,u<2:=by
 unfold ldr
 intro u hu
 split at hu
 ·simp at hu;omega
 ·split at hu <;> simp at hu <;> omega
theorem CW {x y:Rat}:(ldr x y).length<=2:=by
 unfold ldr
 split
 ·simp
 ·split <;> simp
theorem i9 {m0 m1 y0 y1 a e r t:Rat}(ae:a<e)(h0:m0<y0)(h1:y1<m1)(hr:r=a+(e-a)*((m0-y0)/(m0-y0+(y1-m1)))):(a<r/\r<e)/\(t<=r->m0+(m1-m0)*((t-a)/(e-a))<=y0+(y1-y0)*((t-a)/(e-a)))/\(r<=t->y0+(y1-y0)*((t-a)/(e-a))<=m0+(m1-m0)*((t-a)/(e-a))):=by
 obtain⟨q,hq⟩:∃q,(m0-y0)/(m0-y0+(y1-m1))=q:=⟨_,rfl⟩
 have dn:m0-y0+(y1-m1)≠0:=by grind
 have q1:q*(y0-m0+(m1-y1))=y0-m0:=by rw[<-hq];grind
 have D:0<y0-m0+(m1-y1):=by grind
 have qp:0<q:=by
  refine MH fun z=>?_
  have:=M5 (a:=-q) (b:=y0-m0+(m1-y1)) (by grind) (by grind)
  grind
 have ql:q<1:=by
  refine MH fun z=>?_
  have:=M5 (a:=q-1) (b:=y0-m0+(m1-y1)) (by grind) (by grind)
  grind
 rw[hq] at hr
 have w:0<e-a:=by grind
 have r1:=NC w qp
 have r2:=NC w (show 0<1-q by grind)
 obtain⟨u,hu⟩:∃u,(t-a)/(e-a)=u:=⟨_,rfl⟩
 have en:e-a≠0:=by grind
 have u1:u*(e-a)=t-a:=by rw[<-hu];grind
 rw[hu]
 refine⟨⟨by grind,by grind⟩,fun h=>?_,fun h=>?_⟩
 ·have le:u<=q:=by
   refine MH fun z=>?_
   have:=NC (a:=u-q) (b:=e-a) (by grind) w
   grind
  have:=M5 (a:=q-u) (b:=y0-m0+(m1-y1)) (by grind) (by grind)
  grind
 ·have le:q<=u:=by
   refine MH fun z=>?_
   have:=NC (a:=q-u) (b:=e-a) (by grind) w
   grind
  have:=M5 (a:=u-q) (b:=y0-m0+(m1-y1)) (by grind) (by grind)
  grind
theorem vg {S:List Pc}{a e:Rat}{c:Two}(h:SegOk S a e c){t:Rat}(ht:a<t\/t=e)(te:t<=e):∃x,cm 0 S t=some x:=by
 by_cases q:a<t
 ·exact⟨_,h.mid t q te⟩
 ·have:t=e:=by rcases ht with h|h;exact absurd h q;exact h
  exact⟨_,by rw[this];exact h.at_⟩
theorem Go {l:List Nat}:aP 4 (ldV l)=true:=qP fun v hv=>by
 obtain⟨w,_,rfl⟩:=MZ.mp hv
 rfl
theorem Ch.pw:∀ {r:List Pc}{b:Rat},Ch b r->(r.map Pc.e).Pairwise (fun a b=>val a<val b)/\∀p∈r,b<p.E
 | [],b,_=>⟨List.Pairwise.nil,fun p hp=>(nomatch hp)⟩
 | p::r,b,⟨h1,h2,h3,h4⟩=>by
  obtain⟨a1,a2⟩:=h4.pw
  refine⟨?_,fun q hq=>?_⟩
  ·rw[M7,QO]
   refine⟨fun x hx=>?_,a1⟩
   obtain⟨q,hq,rfl⟩:=MZ.mp hx
   exact a2 q hq
  ·rcases NA.mp hq with rfl|hq
   ·exact h2
   ·have:=a2 q hq;grind
theorem RtF.pw {L:List Pc}(h:RtF L):(L.map Pc.e).Pairwise (fun a b=>val a<val b):=by
 cases L with
 | nil=>exact List.Pairwise.nil
 | cons a r=>exact(Ch.pw (b:=a.E-1) (r:=a::r) ⟨h.1,by grind,h.2.1,h.2.2.2.2.ch⟩).1
theorem yp {as st Q}(h:eS as st Q):au Γ gU (frame 8 as) st (ad st Q):=by
 obtain⟨k,z,w,a,e,m,y,rfl,⟨k1,k2,k3⟩,⟨ca,ce,za,ze⟩,⟨c1,c2,c3,c4⟩,⟨z1,z2,z3,z4⟩,ae,hc,hw,kk⟩:=h
 unfold gU
 walk_at "WP"
 simp only[CZ]
 walk_at "WP"
 refine⟨z,m.1,y.1,rfl,by omega,c1,c3,z1,z3,fun g cg zg hg=>?_⟩
 refine⟨z,m.2,y.2,rfl,by omega,c2,c4,z2,z4,fun g' cg' zg' hg'=>?_⟩
 have sz:=DE zg zg'
 have sc:=BJ (p:=g) (q:=g') cg.pos cg'.pos
 have sv:=DX (p:=g) (q:=g') cg.pos cg'.pos
 have gp:0<val g:=by rcases hc with hc|hc <;> rcases hg with hg|hg <;> grind
 have gp':0<val g':=by rcases hc with hc|hc <;> rcases hg' with hg' | hg' <;> grind
 have z01:Sz 1 (0,1):=⟨by decide,by decide,by decide⟩
 refine⟨g,g',rfl,zg.mono (by omega),zg'.mono (by omega),?_⟩
 refine⟨1,k,4*z+1,k,2*z,(0,1),a,yy g g',e,g,rfl,by omega,⟨z01,za,sz.mono (by omega),ze,zg.mono (by omega)⟩,⟨by rw[ao,sv];grind,by rw[ao];grind,by rw[sv];grind⟩,fun r cr zr vr=>?_⟩
 rw[ao,sv] at vr
 obtain⟨q,q1,q2,q3,q4⟩:=oJ (a:=val g-0) (w:=val g+val g'-0) (by grind) (by grind) (by grind)
 rw[q1] at vr
 have a1:val a<=val r:=by
  have:=M5 (a:=val e-val a) (b:=q) (by grind) q3
  grind
 have a2:val r<=val e:=by
  have:=M5 (a:=val e-val a) (b:=1-q) (by grind) (by grind)
  grind
 have ev:val r=crM (val a) (val e) m y:=by
  rw[vr,<-q1]
  unfold crM
  congr 2
  rcases hc with hc|hc
  ·have h1:val g=val y.1-val m.1:=by rcases hg with hg|hg <;> grind
   have h2:val g'=val m.2-val y.2:=by rcases hg' with hg' | hg' <;> grind
   have n1:val g+val g'-0≠0:=by grind
   have n2:val m.1-val y.1+(val y.2-val m.2)≠0:=by grind
   rw[h1,h2] at n1 |-
   grind
  ·have h1:val g=val m.1-val y.1:=by rcases hg with hg|hg <;> grind
   have h2:val g'=val y.2-val m.2:=by rcases hg' with hg' | hg' <;> grind
   rw[h1,h2]
   congr 1 <;> grind
 have zw:=hw r cr ev
 refine⟨k,z,k,z,w,a,m.1,e,m.2,r,rfl,by omega,⟨za,z1,ze,z2,zw⟩,⟨ae,a1,a2⟩,fun co cco zco vco=>?_⟩
 refine⟨_,_,rfl,z1.mono (by omega),z3.mono (by omega),?_⟩
 have:=kk r co cr zw ev cco vco
 by_cases u:val m.1<val y.1
 ·rw[jd z1 z3 u]
  walk_at "WP"
  simp only[if_pos u] at this
  exact .inl this
 ·rw[iM z1 z3 (by grind)]
  walk_at "WP"
  simp only[if_neg u] at this
  exact .inl this
theorem SegF.of {f g:Rat->Option Rat}{a e:Rat}{c:Two}(h:SegF f a e c)(ae:a<=e)(hg:∀t,(a<t\/t=e)->t<=e->g t=f t):SegF g a e c :=
 ⟨h.cl,h.ch,h.le,by rw[hg e (.inr rfl) MV];exact h.at_,h.zero,fun t t1 t2=>by rw[hg t (.inl t1) t2];exact h.mid t t1 t2⟩
theorem SegOk.lesL {A B:List Pc}{a e:Rat}{m:Two}(h:SegOk A a e m)(ae:a<=e)(hb:∀t x y,(a<t\/t=e)->t<=e->cm 0 A t=some x->cm 0 B t=some y->x<=y):SegF (les A B) a e m:=h.f.of ae fun t ht te=>by
 obtain⟨x,hx⟩:=vg h ht te
 rw[hx]
 exact tw hx fun y hy=>hb t x y ht te hx hy
theorem SegOk.lesR {A B:List Pc}{a e:Rat}{m:Two}(h:SegOk B a e m)(ae:a<=e)(hb:∀t x y,(a<t\/t=e)->t<=e->cm 0 A t=some x->cm 0 B t=some y->y<=x):SegF (les A B) a e m:=h.f.of ae fun t ht te=>by
 obtain⟨x,hx⟩:=vg h ht te
 rw[hx]
 exact uS hx fun y hy=>hb t y x ht te hy hx
theorem Bo {A B:List Pc}{a e:Rat}{m y:Two}(hA:SegOk A a e m)(hB:SegOk B a e y)(h1:val m.1<=val y.1)(h2:val m.2<=val y.2):∀t x z,(a<t\/t=e)->t<=e->cm 0 A t=some x->cm 0 B t=some z->x<=z:=fun t x z ht te hx hz=>by
 obtain⟨v,v0,v1,e1,e2,_⟩:=BM hA hB ht te
 rw[e1] at hx
 rw[e2] at hz
 cases hx
 cases hz
 exact Ag h1 h2 v0 v1
theorem xK {f:Rat->Option Rat}{a e:Rat}{m:Two}{r co:Nat × Nat}(h:SegF f a e m)(ar:a<val r)(re:val r<e)(cc:Cop co)(vc:val co=val m.1+(val m.2-val m.1)*((val r-a)/(e-a))):SegF f a (val r) (m.1,co)/\SegF f (val r) e (co,m.2):=by
 have en:e-a≠0:=by grind
 obtain⟨s,hs⟩:∃s,(val m.2-val m.1)/(e-a)=s:=⟨_,rfl⟩
 have le:=h.le
 have hs2:val m.2=val m.1+s*(e-a):=by grind
 have s0:0<=s:=MH fun z=>by
  have:=NC (a:=-s) (b:=e-a) (by grind) (by grind)
  grind
 have vc2:val co=val m.1+s*(val r-a):=by grind
 have p1:=M5 (a:=s) (b:=val r-a) s0 (by grind)
 have p2:=M5 (a:=s) (b:=e-val r) s0 (by grind)
 have md:∀t,a<t->t<=e->f t=some (val m.1+s*(t-a)):=fun t t1 t2=>by
  rw[h.mid t t1 t2];congr 1;grind
 refine⟨⟨h.cl,cc,by show val m.1<=val co;grind,by show f (val r)=some (val co);rw[md _ ar (by grind),vc2],fun z=>by grind,fun t t1 t2=>?_⟩,⟨cc,h.ch,by show val co<=val m.2;grind,h.at_,fun z=>by grind,fun t t1 t2=>?_⟩⟩
 ·rw[md t t1 (by grind)]
  show _=some (val m.1+(val co-val m.1)*_)
  congr 1
  have:val r-a≠0:=by grind
  grind
 ·rw[md t (by grind) t2]
  show _=some (val co+(val m.2-val co)*_)
  congr 1
  have:e-val r≠0:=by grind
  grind
theorem rq {A B:List Pc}{a e:Rat}{m y:Two}{r co:Nat × Nat}(hA:SegOk A a e m)(hB:SegOk B a e y)(ae:a<e)(h0:val m.1<val y.1)(h1:val y.2<val m.2)(hr:val r=crM a e m y)(cc:Cop co)(vc:val co=val m.1+(val m.2-val m.1)*((val r-a)/(e-a))) :
  a<val r/\val r<e/\SegF (les A B) a (val r) (m.1,co)/\SegF (les A B) (val r) e (co,y.2):=by
 have c:=fun t=>i9 (t:=t) ae h0 h1 hr
 obtain⟨r1,r2⟩:=(c 0).1
 have same:val m.1+(val m.2-val m.1)*((val r-a)/(e-a))=val y.1+(val y.2-val y.1)*((val r-a)/(e-a)):=by
  have a1:=(c (val r)).2.1 MV
  have a2:=(c (val r)).2.2 MV
  grind
 have sA:=(xK hA.f r1 r2 cc vc).1
 have sB:=(xK hB.f r1 r2 cc (by rw[vc,same])).2
 refine⟨r1,r2,sA.of (NB r1) fun t ht te=>?_,sB.of (NB r2) fun t ht te=>?_⟩
 ·have e1:=hA.mid t (by grind) (by grind)
  have e2:=hB.mid t (by grind) (by grind)
  rw[e1]
  exact tw e1 fun z hz=>by rw[e2] at hz;cases hz;exact(c t).2.1 te
 ·have e1:=hA.mid t (by grind) te
  have e2:=hB.mid t (by grind) te
  rw[e2]
  exact uS e2 fun z hz=>by rw[e1] at hz;cases hz;exact(c t).2.2 (by grind)
theorem SegF.comm {A B:List Pc}{a e:Rat}{c:Two}(h:SegF (les A B) a e c):SegF (les B A) a e c:=by
 have:les B A=les A B:=funext fun t=>oU
 rw[this];exact h
theorem jX {as st Q}(h:aV as st Q):au Γ bK (frame 7 as) st (ad st Q):=by
 obtain⟨k,z,w,A,B,a,e,mi,yo,rfl,⟨k1,k2,k3⟩,⟨ca,ce,za,ze⟩,ae,hA,hB,nn,hw,kk⟩:=h
 have one:∀(c:Two) (v:List Nat),SegF (les A B) (val a) (val e) c->Q (.ref st.length) (st++[Cell.lst [.tup [fr e,fr c.1,fr c.2,ldV v]]]):=fun c v hs =>
  kk [(⟨e,c.1,c.2⟩,v)] _ _ aq (.inl ⟨_,_,rfl,rfl,hs⟩) (by simp)
 unfold bK
 walk_at "WP"
 cases mi with
 | none =>
  cases yo with
  | none=>exact absurd rfl (nn rfl)
  | some y =>
   obtain⟨sB,_,_⟩:=hB
   simp only[cV]
   walk_at "WP"
   exact .inl (one y [1] (sB.lesR ae fun t x z ht te hx=>by rw[hA t ht] at hx;cases hx))
 | some m =>
  obtain⟨sA,z1,z2⟩:=hA
  cases yo with
  | none =>
   simp only[cV]
   walk_at "WP"
   exact .inl (one m [0] (sA.lesL ae fun t x z ht te hx hz=>by rw[hB t ht] at hz;cases hz))
  | some y =>
   obtain⟨sB,z3,z4⟩:=hB
   simp only[cV]
   walk_at "WP"
   refine⟨m.1,y.1,rfl,sA.cl,sB.cl,z1.mono (by omega),z3.mono (by omega),?_⟩
   refine⟨m.2,y.2,rfl,sA.ch,sB.ch,z2.mono (by omega),z4.mono (by omega),?_⟩
   refine⟨_,_,rfl,CW,?_⟩
   generalize hu:((ldr (val m.1) (val y.1)).filter fun u=>(ldr (val m.2) (val y.2)).contains u)=u
   have mem:∀x,x∈u↔x∈ldr (val m.1) (val y.1)/\x∈ldr (val m.2) (val y.2):=fun x=>by rw[<-hu,QW];simp
   refine dP (n:=4) (by decide) Go rfl ?_
   rw[fW]
   cases u with
   | nil =>
    rw[ML (by rfl)]
    have n0:¬(val m.1<=val y.1/\val m.2<=val y.2):=fun h=>by have:=(mem 0).mpr ⟨ldr_l.mpr h.1,ldr_l.mpr h.2⟩;cases this
    have n1:¬(val y.1<=val m.1/\val y.2<=val m.2):=fun h=>by have:=(mem 1).mpr ⟨ldr_r.mpr h.1,ldr_r.mpr h.2⟩;cases this
    have hc:Crs m y:=by unfold Crs;grind
    have lt:val a<val e:=MH fun q=>by
     have eq:val a=val e:=by grind
     have e1:=sA.zero eq
     have e2:=sB.zero eq
     unfold Crs at hc
     rw[e1,e2] at hc
     grind
    refine⟨k,z,w,a,e,m,y,rfl,⟨k1,k2,k3⟩,⟨ca,ce,za,ze⟩,⟨sA.cl,sA.ch,sB.cl,sB.ch⟩,⟨z1,z2,z3,z4⟩,lt,hc,hw m y rfl rfl lt hc,fun r co cr zr vr cc vc=>.inl ?_⟩
    rcases hc with⟨h0,h1⟩|⟨h0,h1⟩
    ·simp only[if_pos h0]
     obtain⟨r1,r2,s1,s2⟩:=rq sA sB lt h0 h1 vr cc vc
     exact kk _ _ _ aq (.inr ⟨_,_,_,_,rfl,rfl,r1,r2,cr,zr,s1,s2⟩) (by simp)
    ·have h0':¬val m.1<val y.1:=by grind
     simp only[if_neg h0']
     have vr':val r=crM (val a) (val e) y m:=by
      rw[vr]
      unfold crM
      have n1:val m.1-val y.1+(val y.2-val m.2)≠0:=by grind
      have n2:val y.1-val m.1+(val m.2-val y.2)≠0:=by grind
      congr 2
      grind
     have c:=(i9 (t:=val r) lt h0 h1 vr').2
     have same:val co=val y.1+(val y.2-val y.1)*((val r-val a)/(val e-val a)):=by
      have a1:=c.1 MV
      have a2:=c.2 MV
      grind
     obtain⟨r1,r2,s1,s2⟩:=rq sB sA lt h0 h1 vr' cc same
     exact kk _ _ _ aq (.inr ⟨_,_,_,_,rfl,rfl,r1,r2,cr,zr,s1.comm,s2.comm⟩) (by simp)
   | cons u w' =>
    rw[MJ (by simp)]
    obtain⟨u1,u2⟩:=(mem u).mp (by simp)
    walk_at "WP"
    have ul:=Ga u u1
    refine dJ (fun q=>.inl (one m _ ?_)) fun q=>.inl (one y _ ?_)
    ·have:u=0:=by simpa using q
     subst this
     exact sA.lesL ae (Bo sA sB (ldr_l.mp u1) (ldr_l.mp u2))
    ·have:u=1:=by
      have:u≠0:=fun z=>q (by rw[z];rfl)
      omega
     subst this
     exact sB.lesR ae fun t x z ht te hx hz=>Bo sB sA (ldr_r.mp u1) (ldr_r.mp u2) t z x ht te hz hx
theorem xl {d k e v n:Nat}{L:List Pc}(h:Stl d k e v n L):Ends e (L.map Pc.e):=⟨h.rt.pw,fun t ht=>by
 obtain⟨p,hp,rfl⟩:=MZ.mp ht
 obtain⟨i,hi⟩:=NM hp
 exact⟨(h.rt.at_ hi).1.e,h.en p hp⟩⟩
theorem Av {d D k m v n z:Nat}{S:List Pc}{a e:Nat × Nat}{c:Option Two}(h:Stl d k m v n S)(d0:0<d)(dD:d<2 ^ D)(ca:Cop a)(ce:Cop e)(za:Sz m a)(ze:Sz m e)(ae:val a<=val e)(hc:mE S z (val a) (val e) c):mE S (D+k+m+v) (val a) (val e) c:=by
 cases c with
 | none=>exact hc
 | some c =>
  obtain⟨s,_,_⟩:=hc
  obtain⟨z1,z2⟩:=BW s.f ca ce za ze ae h.lin d0 dD (h.hi _ _ (aN ce.pos) s.at_)
  exact⟨s,z1,z2⟩
theorem yP {d D k m v n:Nat}{A B:List Pc}{a e r:Nat × Nat}{c c':Two}(hA:Stl d k m v n A)(hB:Stl d k m v n B)(d0:0<d)(dD:d<2 ^ D)(ca:Cop a)(ce:Cop e)(ae:val a<val e)(s:SegOk A (val a) (val e) c)(s':SegOk B (val a) (val e) c')(hc:Crs c c')(cr:Cop r)(vr:val r=crM (val a) (val e) c c'):Sz (D+2*k+v) r:=by
 obtain⟨P,Q,R,b,h1,h2⟩:=sO s.f (aN ca.pos) (NB ae) hA.lin
 obtain⟨P',Q',R',b',h3,h4⟩:=sO s'.f (aN ca.pos) (NB ae) hB.lin
 refine Cc cr d0 dD b b' ae h1 h2 h3 h4 hc vr ?_
 have e1:=wb hA.rt (aN ce.pos) s.at_
 have e2:=hA.hi _ _ (aN ce.pos) s.at_
 have:val r<val e:=by
  rcases hc with⟨h0,h1⟩|⟨h0,h1⟩
  ·exact(i9 (t:=0) ae h0 h1 vr).1.2
  ·refine(i9 (t:=0) (r:=val r) ae h0 h1 ?_).1.2
   rw[vr]
   unfold crM
   have n1:val c.1-val c'.1+(val c'.2-val c.2)≠0:=by grind
   have n2:val c'.1-val c.1+(val c.2-val c'.2)≠0:=by grind
   congr 2
   grind
 grind
structure ZL (A B:List Pc)(T:List (Nat × Nat))(w i:Nat)(Z:List Pw):Prop where
 zr:i=0->Z=[]
 hd:i≠0->∃c X,Z.map Prod.fst=⟨(0,1),c,c⟩::X/\Cop c/\les A B 0=some (val c)/\Ch 0 X/\li 0 X=val (bgT T i)/\∀t,0<t->t<=val (bgT T i)->cm 0 X t=les A B t
 sz:∀q∈Z,Sz w q.1.e
 ln:Z.length<=2*i
theorem ZL.put {A B X R:List Pc}{b e:Rat}(hX:Ch 0 X)(lX:li 0 X=b)(cX:∀t,0<t->t<=b->cm 0 X t=les A B t)(hR:Ch b R)(lR:li b R=e)(be:b<e)(he:∃y,les A B e=some y)(cR:∀t,b<t->t<=e->cm b R t=les A B t):Ch 0 (X++R)/\li 0 (X++R)=e/\∀t,0<t->t<=e->cm 0 (X++R) t=les A B t:=by
 refine⟨Ch.app hR hX (by rw[lX];exact MV),?_,fun t t0 te=>?_⟩
 ·rw[<-lR,<-lX]
  unfold li
  rcases dS R with rfl|⟨Y,c,rfl⟩
  ·rw[O4];rfl
  ·rw[<-OC,OZ,OZ];rfl
 ·by_cases w:t<=b
  ·obtain⟨y,hy⟩:=he
   obtain⟨z,hz⟩:=Ea te hy
   rw[hz]
   exact mG (by rw[cX t t0 w];exact hz)
  ·have n:cm 0 X t=none:=cx fun q hq=>by have:=(Ch.lst hX).2 q hq;rw[lX] at this;grind
   rw[mN n,lX]
   exact cR t (by grind) te
theorem vB {f:Rat->Option Rat}{b:Rat}{q:Pc}(h:SegF f b q.E (q.l,q.h))(be:b<q.E)(ce:Cop q.e):q.Ok/\q.L<=q.H/\∀r t,b<t->t<=q.E->cm b (q::r) t=f t:=by
 refine⟨⟨ce,h.cl,h.ch⟩,h.le,fun r t t1 t2=>?_⟩
 rw[h.mid t t1 t2,cm,ML t2,MJ (by grind)]
theorem ZL.step {A B:List Pc}{T:List (Nat × Nat)}{w i j:Nat}{Z R:List Pw}{t:Nat × Nat}(h:ZL A B T w i Z)(hE:Ends j T)(t0:T[0]?=some (0,1))(ht:T[i]?=some t)(hR:HR A B (val (bgT T i)) t w R)(ct:Cop t)(zt:Sz w t)(lR:R.length<=2):ZL A B T w (i+1) (Z++R):=by
 have bt:bgT T (i+1)=t:=nu ht
 have sz:∀q∈Z++R,Sz w q.1.e:=fun q hq=>by
  rcases MW.mp hq with hq|hq
  ·exact h.sz q hq
  ·rcases hR with⟨q0,v,rfl,qe,_⟩|⟨q1,q2,v1,v2,rfl,qe,_,_,_,z1,_⟩
   ·rw[MI] at hq;rw[hq];show Sz w q0.e;rw[qe];exact zt
   ·simp only[List.mem_cons,List.not_mem_nil,or_false] at hq
    rcases hq with rfl|rfl
    ·exact z1
    ·show Sz w q2.e;rw[qe];exact zt
 refine⟨fun z=>absurd z (by contradiction),fun _=>?_,sz,by have:=h.ln;rw[NF];omega⟩
 rw[bt]
 cases i with
 | zero =>
  rw[t0] at ht
  cases ht
  rw[h.zr rfl,QY]
  have v0:val (bgT T 0)=0:=ao
  rw[v0] at hR
  rcases hR with⟨q,v,rfl,qe,s⟩|⟨q1,q2,v1,v2,rfl,qe,a1,a2,_⟩
  ·rw[ao] at s
   have e1:q.l=q.h:=s.zero rfl
   refine⟨q.l,[],?_,s.cl,?_,trivial,by rw[ao];rfl,fun u u0 u1=>by rw[ao] at u1;grind⟩
   ·show [q]=_
    obtain⟨e,l,hh⟩:=q
    cases qe
    cases e1
    rfl
   ·rw[e1];exact s.at_
  ·rw[ao] at a2;grind
 | succ i =>
  obtain⟨c,X,hX,cc,l0,chX,lX,cX⟩:=h.hd (by exact Nat.succ_ne_zero _)
  have lt:val (bgT T (i+1))<val t:=by
   have il:=(MC.mp ht).1
   have hi:=MK (show i<T.length by exact Nat.le_of_lt ‹_›)
   rw[nu hi]
   exact hE.lt hi ht (by exact Nat.le_refl _)
  refine⟨c,X++R.map Prod.fst,by rw[M8,hX];rfl,cc,l0,?_⟩
  rcases hR with⟨q,v,rfl,qe,s⟩|⟨q1,q2,v1,v2,rfl,qe,a1,a2,c1,z1,s1,s2⟩
  ·have qE:q.E=val t:=by show val q.e=_;rw[qe]
   have he:∃y,les A B (val t)=some y:=⟨_,s.at_⟩
   rw[<-qE] at s lt he |-
   obtain⟨ok,le,hc⟩:=vB s lt (by rw[qe];exact ct)
   exact ZL.put (R:=[q]) chX lX cX ⟨ok,lt,le,trivial⟩ rfl lt he (hc [])
  ·have qE:q2.E=val t:=by show val q2.e=_;rw[qe]
   have he:∃y,les A B (val t)=some y:=⟨_,s2.at_⟩
   rw[<-qE] at s2 lt he a2 |-
   obtain⟨ok1,le1,hc1⟩:=vB s1 a1 c1
   obtain⟨ok2,le2,hc2⟩:=vB s2 a2 (by rw[qe];exact ct)
   refine ZL.put (R:=[q1,q2]) chX lX cX ⟨ok1,a1,le1,ok2,a2,le2,trivial⟩ rfl lt he fun u u1 u2=>?_
   by_cases w:u<=q1.E
   ·exact hc1 [q2] u u1 w
   ·rw[jw (by grind)];exact hc2 [] u (by grind) u2
theorem ZL.all {A B:List Pc}{T:List (Nat × Nat)}{w j:Nat}{Z:List Pw}(h:ZL A B T w T.length Z)(hE:Ends j T)(t0:T[0]?=some (0,1))(hA:RtF A)(hB:RtF B)(mem:∀t,t∈T↔t=(0,1)\/∃p∈A++B,p.e=t):RtF (Z.map Prod.fst)/\∀t,0<=t->cm 0 (Z.map Prod.fst) t=les A B t:=by
 have tl:T.length≠0:=fun w=>by rw[N1.mp w] at t0;cases t0
 obtain⟨c,X,hX,cc,l0,chX,lX,cX⟩:=h.hd tl
 have hl:T.length-1<T.length:=by omega
 have hT:=MK hl
 have el:bgT T T.length=T[T.length-1]:=by
  have:=nu hT
  rwa [N6 (by exact Nat.pos_of_ne_zero ‹_›)] at this
 have top:∀p∈A++B,p.E<=val (bgT T T.length):=fun p hp=>by
  obtain⟨i,hi⟩:=NM ((mem p.e).mpr (.inr ⟨p,hp,rfl⟩))
  have il:=(MC.mp hi).1
  rw[el]
  by_cases w:i=T.length-1
  ·subst w;rw[hT] at hi;rw[NE hi];exact MV
  ·exact NB (hE.lt hi hT (by omega))
 have all:∀t,0<=t->cm 0 (Z.map Prod.fst) t=les A B t:=fun t tp=>by
  rw[hX]
  have v0:Pc.E ⟨(0,1),c,c⟩=0:=ao
  by_cases z:t=0
  ·subst z
   rw[cm,v0,ML MV,ML rfl,l0]
  ·rw[jw (by rw[v0];grind),v0]
   by_cases w:t<=val (bgT T T.length)
   ·exact cX t (by grind) w
   ·rw[cx fun q hq=>by have:=(Ch.lst chX).2 q hq;rw[lX] at this;grind]
    exact(les_no.mpr ⟨cx fun q hq=>by have:=top q (by simp[hq]);grind,cx fun q hq=>by have:=top q (by simp[hq]);grind⟩).symm
 refine⟨?_,all⟩
 have v0:Pc.E ⟨(0,1),c,c⟩=0:=ao
 refine Fm (by rw[hX];exact⟨⟨qU,cc,cc⟩,MV,by rw[v0];exact chX⟩) (fun p r e _=>by rw[hX] at e;cases e;rfl) (fun t y tp hy=>?_) fun t u y z tp tu hy hz=>?_
 ·rw[all t tp] at hy;exact Gj hA hB tp hy
 ·rw[all t tp] at hy;rw[all u (by grind)] at hz;exact FZ hA hB tp tu hy hz
def CpI (S0:AH)(A B:List Pc)(T:List (Nat × Nat))(w nT nZ:Nat)(i:Nat)(ρ:Fr)(s:AH):Prop:=∃(Z:List Pw) (g:AH) (a b c:Option PV),s=(S0.set nZ (.lst (Z.map q2V)))++g/\ZL A B T w i Z/\ρ=[some (a8 A),some (a8 B),some (.ref nT),some (.ref nZ),some (fr (bgT T i)),a,b,c]
theorem vT {as st Q}(h:dv as st Q):au Γ fA (frame 8 as) st (ad st Q):=by
 obtain⟨d,D,κ,e,e',v,n,A,B,rfl,ls,hA,hB,k⟩:=h
 obtain⟨d0,dD,l1,l2,l3',l4,l5,l6,l7⟩:=ls
 have la:=hA.ln
 have lb:=hB.ln
 have EA:=xl hA
 have EB:=xl hB
 unfold fA
 rw[CA]
 show wpS Γ (.ifS _ _ _) [some (a8 A),some (a8 B),none,none,none,none,none,none] st _
 refine ifS (fun s=>s=st/\A=[]/\B=[]) (fun s=>s=st/\(A≠[]\/B≠[])) ?_ ?_ ?_
 ·walk_at "WP"
  refine dP (n:=4) (by decide) gQ rfl ?_
  rw[fW]
  cases A with
  | nil =>
   rw[ML (by rfl)]
   refine dP (n:=4) (by decide) gQ rfl ?_
   rw[fW]
   cases B with
   | nil=>rw[ML (by rfl)];simp
   | cons b B=>rw[MJ (by simp)];simp
  | cons a A=>rw[MJ (by simp)];simp
 ·rintro s ⟨rfl,rfl,rfl⟩
  walk_at "WP"
  exact .inl (k [] _ _ aq trivial (fun t _=>rfl) (fun q hq=>(nomatch hq)) (by simp))
 rintro s ⟨rfl,hne⟩
 show au Γ (.cons _ _) _ _ _
 have ef:∀L:List Pc,(L.map pcV).map (fun x=>match x with | .tup [a,_,_]=>a|v=>v)=(L.map Pc.e).map fr:=fun L=>by rw[NQ,NQ];rfl
 have el:∀(L:List Pc) (x:PV),x∈L.map pcV->∃p,p∈L/\x=pcV p:=fun L x hx=>by obtain⟨p,hp,rfl⟩:=MZ.mp hx;exact⟨p,hp,rfl⟩
 walk_at "WP"
 refine⟨by simp;omega,FW.comp_map Γm (fun x=>match x with | .tup [a,_,_]=>a|v=>v) trivial (fun x hx=>by obtain⟨p,hp,rfl⟩:=el A x hx;walk_at "WP") ?_⟩
 refine⟨by simp;omega,FW.comp_map Γm (fun x=>match x with | .tup [a,_,_]=>a|v=>v) trivial (fun x hx=>by obtain⟨p,hp,rfl⟩:=el B x hx;walk_at "WP") ?_⟩
 rw[ef,ef]
 refine⟨e,_,_,_,_,rfl,by omega,ai aq,aq,EA,EB,by simp;omega,fun U g1 r1 h1 EU mU lU=>?_⟩
 have z01:Sz e (0,1):=⟨QE (by decide),O3 (by exact Nat.ne_of_gt ‹_›),by decide⟩
 have E0:Ends e [(0,1)]:=⟨List.pairwise_singleton ..,fun t ht=>by rw[MI] at ht;rw[ht];exact⟨qU,z01⟩⟩
 refine⟨e,_,r1,[(0,1)],U,rfl,by omega,?_,h1,E0,EU,by simp at lU |-;omega,fun T g2 nT h2 ET mT lT=>?_⟩
 ·simp only[List.append_assoc]
  rw[ck]
  rfl
 have mem:∀t,t∈T↔t=(0,1)\/∃p∈A++B,p.e=t:=fun t=>by
  rw[mT,mU,MI]
  simp only[List.mem_map,List.mem_append,or_and_right,exists_or]
 have lT2:T.length<=2*n+1:=by simp at lU lT;omega
 have zA:=hA.sz l1 d0 dD
 have zB:=hB.sz l1 d0 dD
 have t0:T[0]?=some (0,1):=by
  obtain⟨i,hi⟩:=NM ((mem (0,1)).mpr (.inl rfl))
  cases i with
  | zero=>exact hi
  | succ i =>
   have il:=(MC.mp hi).1
   have h0:=MK (show 0<T.length by omega)
   have:=ET.lt h0 hi (by exact Nat.le_add_left _ _)
   rw[ao] at this
   have:=aN (ET.ok _ (NN (show 0<T.length by omega))).1.pos
   grind
 have tl:T≠[]:=fun e=>by rw[e] at t0;cases t0
 obtain⟨G0,hG0⟩:∃G0,s++[Cell.lst [a9]]++[Cell.lst ((A.map Pc.e).map fr)]++[Cell.lst ((B.map Pc.e).map fr)]++g1++g2=s++G0:=⟨[Cell.lst [a9]]++([Cell.lst ((A.map Pc.e).map fr)]++([Cell.lst ((B.map Pc.e).map fr)]++(g1++g2))),by simp only[List.append_assoc]⟩
 rw[hG0] at h2 |-
 have mA:∀p∈A,p.e∈T:=fun p hp=>(mem p.e).mpr (.inr ⟨p,by simp[hp],rfl⟩)
 have mB:∀p∈B,p.e∈T:=fun p hp=>(mem p.e).mpr (.inr ⟨p,by simp[hp],rfl⟩)
 refine⟨_,e,A,nT,T,rfl,by omega,hA.rt,zA,ai h2,ET,t0,mA,by omega,by omega,fun C1 g3 r3 h3 l3 ok3=>?_⟩
 refine⟨_,e,B,nT,T,rfl,by omega,hB.rt,zB,ai (ai h2),ET,t0,mB,by omega,by omega,fun C2 g4 r4 h4 l4 ok4=>?_⟩
 have hT':(s++G0++[Cell.lst []]++g3++g4)[nT]?=_:=ai (ai (ai h2))
 have h3':(s++G0++[Cell.lst []]++g3++g4)[r3]?=_:=ai h3
 have hZ':(s++G0++[Cell.lst []]++g3++g4)[(s++G0).length]?=some (.lst []):=ai (ai aq)
 have nTl:nT<(s++G0).length:=aK h2
 have sl:s.length<=(s++G0).length:=by simp
 obtain⟨Gs,hGs⟩:∃Gs,s++G0++[Cell.lst []]++g3++g4=s++Gs:=⟨G0++([Cell.lst []]++(g3++g4)),by simp only[List.append_assoc]⟩
 rw[hGs] at hT' h3' hZ' h4 |-
 generalize (s++G0).length=nZ at hZ' nTl sl
 have r3n:r3≠nZ:=fun e=>by
  rw[e,hZ'] at h3'
  have:C1=[]:=by simpa using h3'
  rw[this] at l3
  exact tl (N1.mp l3.symm)
 have r4n:r4≠nZ:=fun e=>by
  rw[e,hZ'] at h4
  have:C2=[]:=by simpa using h4
  rw[this] at l4
  exact tl (N1.mp l4.symm)
 have zl:=aK hZ'
 have keep:∀(x:Nat) (X:Cell) (g:AH) (c:Cell),x≠nZ->(s++Gs)[x]?=some c->((s++Gs).set nZ X++g)[x]?=(s++Gs)[x]?:=fun x X g c hx hc=>by
  rw[M1 (by rw[OV];exact aK hc),NK (Ne.symm hx)]
 refine⟨_,ac hT',_,ac h3',_,ac h4,?_⟩
 have chk:∀(X:Cell) (g:AH),bv (s++Gs) (.ref nT) ((s++Gs).set nZ X++g)/\bv (s++Gs) (.ref r3) ((s++Gs).set nZ X++g)/\bv (s++Gs) (.ref r4) ((s++Gs).set nZ X++g):=fun X g=>⟨keep nT X g _ (by exact Nat.ne_of_lt ‹_›) hT',keep r3 X g _ r3n h3',keep r4 X g _ r4n h4⟩
 refine c_ Γm (CpI (s++Gs) A B T e' nT nZ) ⟨[],[],none,none,none,by rw[O4];exact(Ae hZ').symm,⟨fun _=>rfl,fun h=>absurd rfl h,fun q hq=>(nomatch hq),MM _⟩,rfl⟩ ?_ ?_
 ·rintro i v ρ s' hi ⟨Z,g,a,b,c,rfl,I,rfl⟩
  refine⟨chk _ _,?_⟩
  obtain⟨x,y,z,hx,hy,hz,rfl⟩:=lu hi
  rw[MN] at hx hy hz
  obtain⟨t,ht,rfl⟩:=M0.mp hx
  obtain⟨c1,hc1,rfl⟩:=M0.mp hy
  obtain⟨c2,hc2,rfl⟩:=M0.mp hz
  have il:=(MC.mp ht).1
  obtain⟨ct,tz⟩:=ET.ok t (MQ ht)
  obtain⟨cb,zb⟩:=FS ET l1 (show i<=T.length by exact Nat.le_of_lt ‹_›)
  have o1:=ok3 i c1 hc1
  have o2:=ok4 i c2 hc2
  rw[nu ht] at o1 o2
  have le:val (bgT T i)<=val t:=by
   cases i with
   | zero=>rw[t0] at ht;cases ht;exact MV
   | succ i =>
    have hi':=MK (show i<T.length by exact Nat.le_of_lt ‹_›)
    rw[nu hi']
    exact NB (ET.lt hi' ht (by exact Nat.le_refl _))
  have nn:c1=none->c2≠none:=fun e1 e2=>by
   subst e1 e2
   have n1:cm 0 A (val t)=none:=o1 (val t) (.inr rfl)
   have n2:cm 0 B (val t)=none:=o2 (val t) (.inr rfl)
   have dom:∀(L:List Pc),RtF L->∀p∈L,val t<=p.E->cm 0 L (val t)=none->False:=fun L hL p hp hle hn=>by
    obtain⟨y,hy⟩:=wL (b:=0) hp
    obtain⟨y',hy'⟩:=fD hle hy
    rw[hn] at hy';cases hy'
   rcases (mem t).mp (MQ ht) with rfl|⟨p,hp,rfl⟩
   ·rcases hne with w|w
    ·obtain⟨p,hp⟩:=List.exists_mem_of_ne_nil _ w
     obtain⟨i,hi⟩:=NM hp
     exact dom A hA.rt p hp (by rw[ao];exact aN (hA.rt.at_ hi).1.e.pos) n1
    ·obtain⟨p,hp⟩:=List.exists_mem_of_ne_nil _ w
     obtain⟨i,hi⟩:=NM hp
     exact dom B hB.rt p hp (by rw[ao];exact aN (hB.rt.at_ hi).1.e.pos) n2
   ·rcases MW.mp hp with hp|hp
    ·exact dom A hA.rt p hp MV n1
    ·exact dom B hB.rt p hp MV n2
  have gz:∀(X:Cell) (g:AH),((s++Gs).set nZ X++g)[nZ]?=some X:=fun X g=>by rw[M1 (by rw[OV];exact zl),M_ zl]
  have lZ:=I.ln
  walk_at "WP"
  refine⟨e,D+κ+e+v,e',A,B,bgT T i,t,c1,c2,rfl,by omega,⟨cb,ct,zb,tz⟩,le,Av hA d0 dD cb ct zb tz le o1,Av hB d0 dD cb ct zb tz le o2,nn,fun m y hmm hyy lt hc r cr vr=>?_,fun R g' n' hn' bR lR=>?_⟩
  ·subst hmm hyy
   exact(yP hA hB d0 dD cb ct lt o1.1 o2.1 hc cr vr).mono l3'
  walk_at "WP"
  rw[OC] at hn'
  refine⟨_,gz _ _,_,hn',by simp;omega,Z++R,g++g',_,_,_,?_,I.step ET t0 ht bR ct (tz.mono l2) lR,by rw[nu ht]⟩
  rw[List.set_append_left _ _ (by rw[OV];exact zl),List.set_set,M8]
 ·rintro ρ s' ⟨Z,g,a,b,c,rfl,I,rfl⟩
  refine⟨chk _ _,?_⟩
  have lz:(dL (T.map fr) (C1.map cV) (C2.map cV)).length=T.length:=by rw[mj];simp;omega
  rw[lz] at I
  have lZ:=I.ln
  walk_at "WP"
  have e:(s++Gs).set nZ (.lst (Z.map q2V))=s++Gs.set (nZ-s.length) (.lst (Z.map q2V)):=O7 _ _ sl
  rw[e,OC]
  obtain⟨a1,a2⟩:=I.all ET t0 hA.rt hB.rt mem
  refine .inl (k Z _ _ ?_ a1 a2 I.sz (by omega))
  rw[<-OC,<-e,M1 (by rw[OV];exact zl),M_ zl]
theorem By {P:Nat × Nat->Prop}:∀ {r:List Pc}{b:Nat × Nat}{a:Pc},P a.e->(∀p∈r,P p.e)->∀p∈aH b a r,P p.e
 | [],b,a,ha,_,p,hp=>by rw[aH,MI] at hp;rw[hp];exact ha
 | q::r,b,a,ha,hr,p,hp=>by
  rw[aH] at hp
  by_cases g:gB b a q=true
  ·rw[ML g] at hp
   exact By (a:=a.mg q) (hr q (by simp)) (fun x hx=>hr x (by simp[hx])) p hp
  ·rw[MJ g] at hp
   rcases NA.mp hp with rfl|hp
   ·exact ha
   ·exact By (hr q (by simp)) (fun x hx=>hr x (by simp[hx])) p hp
theorem uE {P:Nat × Nat->Prop}{L:List Pc}(h:∀p∈L,P p.e):∀p∈fR L,P p.e:=by
 cases L with
 | nil=>exact fun p hp=>(nomatch hp)
 | cons a r=>exact By (h a (by simp)) fun x hx=>h x (by simp[hx])
theorem Cp {as st Q}(h:f6 as st Q):au Γ iy (frame 2 as) st (ad st Q):=by
 obtain⟨d,D,κ,e,e',v,n,A,B,rfl,ls,hA,hB,k⟩:=h
 unfold iy
 walk_at "WP"
 refine⟨d,D,κ,e,e',v,n,A,B,rfl,ls,hA,hB,fun Z g r hr hR hc hz lZ=>?_⟩
 obtain⟨d0,dD,l1,l2,l3',l4,l5,l6,l7⟩:=ls
 have lin:Lin d κ (cm 0 (Z.map Prod.fst)):=(D3 d0 hA.rt hB.rt hA.lin hB.lin).congr hc
 have hi:∀t y,0<=t->cm 0 (Z.map Prod.fst) t=some y->y<=2 ^ v:=fun t y t0 hy=>FD hA.hi hB.hi t y t0 (by rw[<-hc t t0];exact hy)
 have en:∀p∈Z.map Prod.fst,Sz e' p.e:=fun p hp=>by obtain⟨q,hq,rfl⟩:=MZ.mp hp;exact hz q hq
 have zz:=A3 hR lin en (by omega) hi d0 dD
 refine⟨_,ac hr,by simp;omega,i8 Γm (fun j acc s=>s=st++g/\acc=((Z.map Prod.fst).take j).map pcV) ⟨rfl,by simp⟩ ?_ ?_⟩
 ·rintro j x acc s hx ⟨rfl,rfl⟩
  refine⟨rfl,?_⟩
  rw[MN] at hx
  obtain⟨p,hp,rfl⟩:=M0.mp hx
  have et:(Z.map Prod.fst).take (j+1)=(Z.map Prod.fst).take j++[p.1]:=by rw[O0,MN,hp];rfl
  rw[et,M8]
  walk_at "WP"
 rintro acc s ⟨rfl,rfl⟩
 refine⟨rfl,?_⟩
 have ea:((Z.map Prod.fst).take (Z.map q2V).length).map pcV=(Z.map Prod.fst).map pcV:=by rw[P5 (by simp)]
 rw[ea]
 refine⟨_,ac aq,?_⟩
 rw[OC]
 refine .app Ct ⟨_,rfl,zz.mono (by assumption),hR.lok,by simp;omega,.inl (k _ ⟨uf hR,tj hR,uE en,lin.congr fun t t0=>fV hR t0,fun t y t0 hy=>hi t y t0 (by rw[<-fV hR t0];exact hy),NI me (by simp;assumption)⟩ fun t t0=>by rw[fV hR t0,hc t t0])⟩
theorem A8 {d q l p b t:Rat}(hd:0<d)(hq:0<q):d*(l/d+p*(t-b/d)/q)*q=l*q+p*(d*t-b):=by
 have i1:d*(l/d)=l:=by grind
 have i2:d*(b/d)=b:=by grind
 have i3:p*(t-b/d)/q*q=p*(t-b/d):=by grind
 have:d*(l/d+p*(t-b/d)/q)*q=d*(l/d)*q+d*(p*(t-b/d)/q*q):=by grind
 rw[this,i1,i3]
 grind
theorem xn {d m b:Nat}{u:Un3}{r:List Pc}(d0:0<d)(hb:b<u.1)(hl:u.2.1<=u.2.2)(h1:u.1<=2 ^ 37)(h2:u.2.2<=2 ^ 37):∃(P Q:Nat) (R:Int),(0<Q/\Q<2 ^ 38/\P<2 ^ 38)/\∀t z,t<=(u.1:Rat)/d->cm ((b:Rat)/d) (b8 d u::r) t=some z->((d*m:Nat):Rat)*Q*z=P*(d*m:Nat)*t+R:=by
 obtain⟨q,hq⟩:∃q,u.1=b+q:=⟨u.1-b,by omega⟩
 obtain⟨p,hp⟩:∃p,u.2.2=u.2.1+p:=⟨u.2.2-u.2.1,by omega⟩
 have q0:0<q:=by omega
 refine⟨p,q,(m:Int)*(q*u.2.1)-m*(p*b),⟨q0,by omega,by omega⟩,fun t z ht hz=>?_⟩
 have pd:=av d0
 have pq:=av q0
 have eE:Pc.E (b8 d u)=(u.1:Rat)/d:=aA d0
 have eL:Pc.L (b8 d u)=(u.2.1:Rat)/d:=aA d0
 have eH:Pc.H (b8 d u)=(u.2.2:Rat)/d:=aA d0
 have c1:(u.1:Rat)=b+q:=by rw[hq,Rat.natCast_add]
 have c2:(u.2.2:Rat)=u.2.1+p:=by rw[hp,Rat.natCast_add]
 have w:(u.1:Rat)/d-b/d=q/d:=by rw[c1];grind
 have ne:¬(b:Rat)/d=u.1/d:=by
  intro e
  have:(q:Rat)/d=0:=by grind
  have:(q:Rat)=0:=by grind
  grind
 rw[cm,eE,ML ht,MJ ne,eL,eH,w,c2] at hz
 have hz:=NE hz
 have hz2:z=u.2.1/d+p*(t-b/d)/q:=by rw[<-hz];grind
 simp only[Rat.natCast_mul,Rat.intCast_sub,Rat.intCast_mul,Rat.intCast_natCast]
 have k1:(d:Rat)*z*q=u.2.1*q+p*(d*t-b):=by rw[hz2];exact A8 pd pq
 have k2:(m:Rat)*(d*z*q)=m*(u.2.1*q+p*(d*t-b)):=by rw[k1]
 clear hz hz2 k1 w ne c1 c2 eE eL eH ht
 grind
theorem AZ {d m:Nat}(d0:0<d):∀ {U:List Un3}{b hh:Nat},RU b hh U->BdU (2 ^ 37) U->∀e y,(b:Rat)/d<e->cm ((b:Rat)/d) (U.map (b8 d)) e=some y->∃(P Q:Nat) (R:Int) (x:Rat),(0<Q/\Q<2 ^ 38/\P<2 ^ 38)/\(b:Rat)/d<=x/\x<e/\∀t z,x<t->t<=e->cm ((b:Rat)/d) (U.map (b8 d)) t=some z->((d*m:Nat):Rat)*Q*z=P*(d*m:Nat)*t+R
 | [],b,hh,_,_,e,y,_,h=>by cases h
 | u::r,b,hh,⟨h1,h2,h3,h4,h5⟩,hB,e,y,be,h=>by
  obtain⟨b1,b2,b3⟩:=hB u (by simp)
  have eE:Pc.E (b8 d u)=(u.1:Rat)/d:=aA d0
  by_cases w:e<=(u.1:Rat)/d
  ·obtain⟨P,Q,R,bd,hl⟩:=xn (m:=m) (r:=r.map (b8 d)) d0 h1 h3 b1 b3
   exact⟨P,Q,R,_,bd,MV,be,fun t z _ te hz=>hl t z (by grind) hz⟩
  ·have nx:∀t,(u.1:Rat)/d<t->cm ((b:Rat)/d) ((u::r).map (b8 d)) t=cm ((u.1:Rat)/d) (r.map (b8 d)) t:=fun t ht=>by rw[M7,jw (by rw[eE];exact ht),eE]
   rw[nx e (by grind)] at h
   obtain⟨P,Q,R,x,bd,x1,x2,hx⟩:=AZ d0 (m:=m) h5 (fun v hv=>hB v (by simp[hv])) e y (by grind) h
   have le:(b:Rat)/d<=u.1/d:=by
    have:(b:Rat)<=u.1:=NJ.mpr (by exact Nat.le_of_lt ‹_›)
    have pd:=av d0
    have k1:(b:Rat)/d*d=b:=by grind
    have k2:(u.1:Rat)/d*d=u.1:=by grind
    exact MH fun z=>by
     have:=NC (a:=(b:Rat)/d-u.1/d) (b:=d) (by grind) pd
     grind
   exact⟨P,Q,R,x,bd,by grind,x2,fun t z xt te hz=>hx t z xt te (by rw[<-nx t (by grind)];exact hz)⟩
theorem DP {d m:Nat}{U:List Un3}(d0:0<d)(h:RUF U)(hB:BdU (2 ^ 37) U):Lin (d*m) 38 (cm 0 (U.map (b8 d))):=by
 cases U with
 | nil=>intro e y _ h;cases h
 | cons u r =>
  obtain⟨h1,h2,h3,h4⟩:=h
  obtain⟨b1,b2,b3⟩:=hB u (by simp)
  have eE:Pc.E (b8 d u)=(u.1:Rat)/d:=aA d0
  have eL:Pc.L (b8 d u)=(u.2.1:Rat)/d:=aA d0
  have pd:=av d0
  have z0:((0:Nat):Rat)/d=0:=by grind
  intro e y e0 he
  by_cases w:e<=(u.1:Rat)/d
  ·by_cases z:u.1=0
   ·refine⟨0,1,(m:Int)*u.2.1,-1,⟨by decide,by decide,by decide⟩,by grind,fun t x t0 _ te hx=>?_⟩
    have eE0:Pc.E (b8 d u)=0:=by rw[eE,z,z0]
    have:t=0:=by rw[z,z0] at w;grind
    subst this
    rw[M7,cm,eE0,ML MV,ML rfl,eL] at hx
    have hx:=NE hx
    rw[<-hx]
    simp only[Rat.natCast_mul,Rat.intCast_mul,Rat.intCast_natCast]
    grind
   ·obtain⟨P,Q,R,bd,hl⟩:=xn (m:=m) (b:=0) (r:=r.map (b8 d)) d0 (by exact Nat.pos_of_ne_zero ‹_›) h1 b1 b3
    refine⟨P,Q,R,-1,bd,by grind,fun t x t0 _ te hx=>hl t x (by grind) ?_⟩
    rw[z0];exact hx
  ·have nx:∀t,(u.1:Rat)/d<t->cm 0 ((u::r).map (b8 d)) t=cm ((u.1:Rat)/d) (r.map (b8 d)) t:=fun t ht=>by rw[M7,jw (by rw[eE];exact ht),eE]
   rw[nx e (by grind)] at he
   obtain⟨P,Q,R,x,bd,x1,x2,hx⟩:=AZ d0 (m:=m) h4 (fun v hv=>hB v (by simp[hv])) e y (by grind) he
   exact⟨P,Q,R,x,bd,x2,fun t z _ xt te hz=>hx t z xt te (by rw[<-nx t (by grind)];exact hz)⟩
theorem Fg {d:Nat}{U:List Un3}(d0:0<d)(h:RUF U)(hB:BdU (2 ^ 37) U):∀t y,0<=t->cm 0 (U.map (b8 d)) t=some y->y<=2 ^ 37:=fun t y t0 hy=>by
 have hR:=h.rt (d:=d) d0
 rcases dS U with rfl|⟨Y,u,rfl⟩
 ·cases hy
 ·rw[M8,List.map_singleton] at hR hy
  have le:t<=Pc.E (b8 d u):=MH fun w=>by
   rw[lH hR (by grind)] at hy;cases hy
  have this1:=Bw hR t0 le hy (Cg hR)
  have eH:Pc.H (b8 d u)=(u.2.2:Rat)/d:=aA d0
  obtain⟨b1,b2,b3⟩:=hB u (by simp)
  have c:(u.2.2:Rat)<=((2 ^ 37:Nat):Rat):=NJ.mpr b3
  have c2:((2 ^ 37:Nat):Rat)=2 ^ 37:=by rw[Rat.natCast_pow];rfl
  generalize (2:Rat) ^ 37=V at c2 |-
  have pd:=av d0
  have d1:(1:Rat)<=d:=by
   have:((1:Nat):Rat)<=(d:Rat):=NJ.mpr d0
   simpa using this
  have nn:(0:Rat)<=(u.2.2:Rat)/d:=by rw[<-eH];exact aN (bF d0)
  have k2:(u.2.2:Rat)/d*d=u.2.2:=by grind
  have:=M5 (a:=(u.2.2:Rat)/d) (b:=d-1) nn (by grind)
  rw[eH] at this1
  rw[c2] at c
  grind
theorem Gh {d m:Nat}{U:List Un3}(h0:0<d)(h1:d<=10 ^ 11)(hU:RUF U)(h:BdU (2 ^ 37) U)(hl:U.length<=20):Stl (d*m) 38 40 37 20 (fR (U.map (b8 d))):=by
 have hR:=hU.rt h0
 refine⟨uf hR,tj hR,uE fun p hp=>?_,(DP h0 hU h).congr fun t t0=>fV hR t0,fun t y t0 hy=>Fg h0 hU h t y t0 (by rw[<-fV hR t0];exact hy),NI me (by simpa using hl)⟩
 obtain⟨u,hu,rfl⟩:=MZ.mp hp
 obtain⟨a,b,c⟩:=h u hu
 exact⟨M4 (ga _ _) (by omega),M4 (fS _ _) (by omega),bF h0⟩
theorem Stl.mono {d k e v n e' n':Nat}{L:List Pc}(h:Stl d k e v n L)(he:e<=e')(hn:n<=n'):Stl d k e' v n' L:=⟨h.rt,h.ng,fun p hp=>(h.en p hp).mono he,h.lin,h.hi,NI h.ln hn⟩
theorem Stl.nil {d k e v n:Nat}:Stl d k e v n []:=⟨trivial,trivial,(fun p hp=>(nomatch hp)),(fun e y _ h=>(nomatch h)),(fun t y _ h=>(nomatch h)),N5 _⟩
theorem v5 {as st Q}(h:dz as st Q):au Γ fC (frame 1 as) st (ad st Q):=by
 obtain⟨p,rfl,ok,k⟩:=h
 unfold fC
 walk_at "WP"
 rw[ML (by rfl)]
 refine⟨by decide,?_⟩
 refine FW.comp_map Γm (fun _=>.bl true) trivial (fun x hx=>?_) ?_
 ·simp only[List.mem_cons,List.not_mem_nil,or_false] at hx
  walk_at "WP"
  rcases hx with rfl|rfl|rfl
  ·exact⟨_,rfl,vR,by rw[ok.e.isFr],rfl⟩
  ·exact⟨_,rfl,vR,by rw[ok.l.isFr],rfl⟩
  ·exact⟨_,rfl,vR,by rw[ok.h.isFr],rfl⟩
 ·exact⟨_,aw aq,_,iZ (f:=fun _=>true),.app rfl (.inl k)⟩
theorem lj {as st Q}(h:bh as st Q):au Γ b9 (frame 4 as) st (ad st Q):=by
 obtain⟨p,rfl,hz,h1,h2,k⟩:=h
 unfold b9
 walk_at "WP"
 refine⟨p.h,p.l,rfl,hz.h.mono (by decide),hz.l.mono (by decide),_,rfl,?_⟩
 rw[iM hz.h hz.l h1,ML rfl]
 refine⟨p.h,p.e,rfl,hz.h.mono (by decide),hz.e.mono (by decide),_,rfl,?_⟩
 rw[iM hz.h hz.e h2]
 exact .inl k
theorem lK {as st Q}(h:bf as st Q):au Γ b7 (frame 4 as) st (ad st Q):=by
 obtain⟨p,rfl,ok,hz,k⟩:=h
 unfold b7
 walk_at "WP"
 refine ir (q:=(0,1)) ?_
 by_cases h1:p.e=(0,1)
 ·rw[MJ (by rw[NW h1];decide)]
  refine ir ?_
  have:p.l=p.h:=ft ok.l ok.h (hz (by show 0=val p.e;rw[h1,ao]))
  rw[NW this]
  exact .inl k
 ·rw[ML (NO h1)]
  exact .inl k
theorem km {as st Q}(h:a6 as st Q):au Γ bO (frame 2 as) st (ad st Q):=by
 obtain⟨a,p,rfl,ha,hp,h1,h2,k⟩:=h
 unfold bO
 walk_at "WP"
 refine⟨a.e,p.e,rfl,ha.e.mono (by decide),hp.e.mono (by decide),_,rfl,?_⟩
 rw[jd ha.e hp.e h1,ML rfl]
 refine⟨p.l,a.h,rfl,hp.l.mono (by decide),ha.h.mono (by decide),_,rfl,?_⟩
 rw[iM hp.l ha.h h2]
 exact .inl k
theorem qS:∀ {n:Nat},ie (List.replicate n (PV.bl true))=some (List.replicate n true)
 | 0=>rfl
 | n+1=>by simp only[List.replicate_succ,ie,qS (n:=n),Option.map_some]
theorem tB {L:List Pc}{i:Nat}{v:PV}(h:(jo (L.map pcV) ((L.drop 1).map pcV))[i]?=some v):∃a p,L[i]?=some a/\L[i+1]?=some p/\v=.tup [pcV a,pcV p]:=by
 obtain⟨x,y,e1,e2,rfl⟩:=iB h
 rw[MN] at e1 e2
 obtain⟨a,ha,rfl⟩:=M0.mp e1
 obtain⟨p,hp,rfl⟩:=M0.mp e2
 rw[QI] at hp
 exact⟨a,p,ha,by rw[QH];exact hp,rfl⟩
theorem Cl {as st Q}(h:fY as st Q):au Γ iE (frame 1 as) st (ad st Q):=by
 obtain⟨L,rfl,hR,hz,hl,k⟩:=h
 unfold iE
 walk_at "WP"
 rw[MJ (by decide)]
 refine⟨by simp;omega,?_⟩
 refine FW.comp_map Γm (fun _=>.bl true) trivial (fun x hx=>?_) ?_
 ·obtain⟨p,hp,rfl⟩:=MZ.mp hx
  obtain⟨i,hi⟩:=NM hp
  walk_at "WP"
  exact⟨p,rfl,(hR.at_ hi).1,rfl,rfl⟩
 refine⟨_,aw aq,_,iZ (f:=fun _=>true),.app rfl ?_⟩
 rw[uz]
 walk_at "WP"
 refine⟨by simp;omega,?_⟩
 refine FW.comp_map Γm (fun _=>.bl true) trivial (fun x hx=>?_) ?_
 ·obtain⟨p,hp,rfl⟩:=MZ.mp hx
  obtain⟨i,hi⟩:=NM hp
  obtain⟨a1,a2,a3⟩:=hR.at_ hi
  walk_at "WP"
  exact⟨p,rfl,hz p hp,a2,a3,rfl,rfl⟩
 refine⟨_,aw aq,_,iZ (f:=fun _=>true),.app rfl ?_⟩
 rw[uz]
 walk_at "WP"
 refine dP (n:=4) (by decide) gQ rfl ?_
 rw[fW]
 have fin:(jo (List.map pcV L) (e8 (List.map pcV L) (some 1) none)).length<100000 /\
   xL Γ (E.call 13 (Es.cons (E.var 0) (Es.cons (E.var 1) Es.nil))) (Tg.tup (Tgs.cons (Tg.name 0) (Tgs.cons (Tg.name 1) Tgs.nil))) Es.nil
    (fun st'=>bv st (a8 L) st'/\bv st (PV.tup (e8 (List.map pcV L) (some 1) none)) st') [none,none]
    (jo (List.map pcV L) (e8 (List.map pcV L) (some 1) none)) st fun vs st2 =>
    ∃xs,bq (st2++[Cell.lst vs]) (PV.ref (List.length st2))=some xs /\
      ∃x,ie xs=some x/\Tmp st (fun v st1=>Ret st Q v st1) (PV.bl (x.all id)) (st2++[Cell.lst vs]):=by
  rw[C4,<-QB]
  refine⟨by rw[fO];simp;omega,?_⟩
  refine i8 Γm (fun j acc s=>s=st/\acc=List.replicate j (PV.bl true)) ⟨rfl,rfl⟩ ?_ ?_
  ·rintro i v acc s hi ⟨rfl,rfl⟩
   refine⟨⟨trivial,trivial⟩,?_⟩
   obtain⟨a,p,ha,hp,rfl⟩:=tB hi
   obtain⟨t1,t2⟩:=hR.two ha hp
   walk_at "WP"
   exact⟨a,p,rfl,hz a (MQ ha),hz p (MQ hp),t1,t2,rfl,by rw[<-List.replicate_succ',NX]⟩
  ·rintro acc s ⟨rfl,rfl⟩
   refine⟨⟨trivial,trivial⟩,_,aw aq,_,qS,.app rfl ?_⟩
   rw[show (List.replicate _ true).all id=true by simp]
   exact .inl k
 cases L with
 | nil=>rw[MJ (by simp)];exact fin
 | cons p r =>
  rw[ML (by simp)]
  refine⟨pcV p,t_,p,rfl,hR.1,hR.2.2.2.1,?_⟩
  walk_at "WP"
  exact fin
theorem wR {as st Q}(h:dC as st Q):au Γ fJ (frame 1 as) st (ad st Q):=by
 obtain⟨L,rfl,hR,ng,hz,hl,k⟩:=h
 unfold fJ
 walk_at "WP"
 refine⟨L,rfl,hR,hz,hl,_,rfl,?_⟩
 rw[ML rfl]
 refine⟨L,rfl,hz,hR.lok,by omega,?_⟩
 rw[AJ ng]
 refine dP (n:=4) (by decide) gQ gQ ?_
 rw[fo]
 exact .inl k
noncomputable def rtE (D:aO):aO:=⟨fun _ _=>False,D.2,fun _ _=>False,fun _ _=>False⟩
theorem Br {D:aO}:(rtE D).rt=D.rt:=rfl
theorem H_ {s:S}{ss:Ss}{ρ:Fr}{st:AH}{D:aO}(h1:wpS Γ s ρ st (rtE D)):au Γ (.cons s ss) ρ st D:=by
 cases ss with
 | nil=>exact gh (D:=rtE D) Γm s ⟨fun _ _ z=>False.elim z,fun _ _ z=>z,fun _ _ z=>False.elim z,fun _ _ z=>False.elim z⟩ h1
 | cons s2 ss=>exact gh (D:=rtE D) (D':=aft Γ (.cons s2 ss) D) Γm s ⟨fun _ _ z=>False.elim z,fun _ _ z=>z,fun _ _ z=>False.elim z,fun _ _ z=>False.elim z⟩ h1
def OnI (st:AH)(L:List Pc)(t:Nat × Nat)(i:Nat)(ρ:Fr)(s:AH):Prop:=s=st/\(i=0\/val (bg L i)<val t)/\∃a b c d e f g:Option PV,ρ=[some (a8 L),some (fr t),some (fr (bg L i)),a,b,c,d,e,f,g]
theorem so {a b c d:Nat}(h:c*d<=a*b):(a:Int)*b-c*d=((a*b-c*d:Nat):Int):=by rw[OX h,MR,MR]
theorem sQ {x y:Nat × Nat}(hx:0<x.2)(hy:0<y.2)(h:y.1*x.2<=x.1*y.2):((x.1*y.2-y.1*x.2:Nat):Rat)=(val x-val y)*(x.2*y.2):=by
 have:=NV (fun k:Nat=>(k:Rat)) (N6 h)
 simp only[Rat.natCast_add,Rat.natCast_mul] at this
 rw[dt hx,dt hy] at this
 grind
theorem EE {N Y F G X c:Rat}(hc:c≠0)(h:N<F):(c*(Y*(F-X)+G*(X-N)))/(c*(F-N))=Y+(G-Y)*((X-N)/(F-N)):=xy hc h
noncomputable abbrev rO:Ss:=(.cons (.ifS (.cmp .LtE (.bin .Mult (.ix (.var 1) (.int 0)) (.ix (.var 3) (.int 1))) (.bin .Mult (.ix (.var 3) (.int 0)) (.ix (.var 1) (.int 1)))) (.cons (.set (.name 6) (.bin .Sub (.bin .Mult (.ix (.var 3) (.int 0)) (.ix (.var 2) (.int 1))) (.bin .Mult (.ix (.var 2) (.int 0)) (.ix (.var 3) (.int 1))))) (.cons (.ifS (.cmp .Eq (.var 6) (.int 0)) (.cons (.ret (.var 4)) .nil) .nil) (.cons (.set (.name 7) (.bin .Sub (.bin .Mult (.ix (.var 3) (.int 0)) (.ix (.var 1) (.int 1))) (.bin .Mult (.ix (.var 1) (.int 0)) (.ix (.var 3) (.int 1))))) (.cons (.set (.name 8) (.bin .Sub (.bin .Mult (.ix (.var 1) (.int 0)) (.ix (.var 2) (.int 1))) (.bin .Mult (.ix (.var 2) (.int 0)) (.ix (.var 1) (.int 1))))) (.cons (.set (.name 9) (.bin .Mult (.bin .Mult (.bin .Mult (.ix (.var 4) (.int 0)) (.ix (.var 5) (.int 1))) (.var 7)) (.ix (.var 2) (.int 1)))) (.cons (.set (.name 9) (.bin .Add (.var 9) (.bin .Mult (.bin .Mult (.bin .Mult (.ix (.var 5) (.int 0)) (.ix (.var 4) (.int 1))) (.var 8)) (.ix (.var 3) (.int 1))))) (.cons (.ret (.tup (.cons (.var 9) (.cons (.bin .Mult (.bin .Mult (.bin .Mult (.ix (.var 4) (.int 1)) (.ix (.var 5) (.int 1))) (.ix (.var 1) (.int 1))) (.var 6)) .nil)))) .nil))))))) .nil) (.cons (.set (.name 2) (.var 3)) .nil))
noncomputable abbrev rP:Ss:=(.cons (.ret .non) .nil)
theorem yC {as st Q}(h:eZ as st Q):au Γ gH (frame 10 as) st (ad st Q):=by
 obtain⟨j,m,L,t,rfl,⟨j1,j2⟩,hR,hz,tz,hl,k⟩:=h
 have turn:∀(i:Nat) (p:Pc) (d e f g:Option PV),L[i]?=some p->(i=0\/val (bg L i)<val t)->au Γ rO [some (a8 L),some (fr t),some (fr (bg L i)),some (fr p.e),some (fr p.l),some (fr p.h),d,e,f,g] st (LD (OnI st L t (i+1)) (aft Γ rP (ad st Q))):=by
  intro i p d e f g hp hb
  have il:=(MC.mp hp).1
  have pz:=hz p (MQ hp)
  obtain⟨pok,p1,p2⟩:=hR.at_ hp
  obtain⟨n1,n2,n3,n4⟩:=nb hR hp
  have bz:Sz j (bg L i):=bgZ hz (by exact Nat.le_of_lt ‹_›) j1
  have up:∀ {a i:Nat},a<2 ^ i->i<=3000->a<2 ^ 3000:=fun h hj=>MG h (bp hj)
  have bt:val (bg L i)<=val t:=by
   rcases hb with rfl|hb
   ·show val (0,1)<=_;rw[ao];exact aN tz.pos
   ·exact NB hb
  by_cases q:val t<=p.E
  ·have le1:t.1*p.e.2<=p.e.1*t.2:=(cI tz.pos pz.e.pos).mpr q
   have le2:(bg L i).1*t.2<=t.1*(bg L i).2:=(cI bz.pos tz.pos).mpr bt
   have le3:(bg L i).1*p.e.2<=p.e.1*(bg L i).2:=(cI bz.pos pz.e.pos).mpr n2
   have hc:=w_ hR hp hb q
   have vl:=sQ pz.e.pos tz.pos le1
   have vd:=sQ tz.pos bz.pos le2
   have vw:=sQ pz.e.pos bz.pos le3
   have sl:p.e.1*t.2-t.1*p.e.2<2 ^ (j+m):=M4 (PX _ _) (ay pz.e.a tz.b)
   have sd:t.1*(bg L i).2-(bg L i).1*t.2<2 ^ (m+j):=M4 (PX _ _) (ay tz.a bz.b)
   have sw:p.e.1*(bg L i).2-(bg L i).1*p.e.2<2 ^ (j+j):=M4 (PX _ _) (ay pz.e.a bz.b)
   obtain⟨LL,hLL⟩:∃LL,p.e.1*t.2-t.1*p.e.2=LL:=⟨_,rfl⟩
   obtain⟨DD,hDD⟩:∃DD,t.1*(bg L i).2-(bg L i).1*t.2=DD:=⟨_,rfl⟩
   obtain⟨WW,hWW⟩:∃WW,p.e.1*(bg L i).2-(bg L i).1*p.e.2=WW:=⟨_,rfl⟩
   rw[hLL] at vl sl
   rw[hDD] at vd sd
   rw[hWW] at vw sw
   have pe:=av pz.e.pos
   have pt:=av tz.pos
   have pb:=av bz.pos
   have pl:=av pz.l.pos
   have ph:=av pz.h.pos
   refine H_ ?_
   refine ifS (fun s=>s=st) (fun _=>False) ?_ ?_ fun _ z=>z.elim
   ·walk_at "WP"
    refine⟨aS (up tz.a (by omega)) (up pz.e.b (by omega)),aS (up pz.e.a (by omega)) (up tz.b (by omega)),?_⟩
    rw[ML (by rw[<-MR,<-MR];exact ON.mpr le1)]
    trivial
   rintro s rfl
   refine eP (fun ρ s'=>s'=s/\ρ=[some (a8 L),some (fr t),some (fr (bg L i)),some (fr p.e),some (fr p.l),some (fr p.h),some (.int WW),e,f,g]) ?_ ?_
   ·walk_at "WPN"
    refine⟨aS (up pz.e.a (by omega)) (up bz.b (by omega)),aS (up bz.a (by omega)) (up pz.e.b (by omega)),?_⟩
    rw[so le3,hWW]
   rintro ρ s' ⟨rfl,rfl⟩
   by_cases z:val (bg L i)=p.E
   ·have w0:WW=0:=by
     have:(WW:Rat)=0:=by rw[vw,z];grind
     exact_mod_cast this
    refine H_ ?_
    refine ifS (fun s''=>s''=s') (fun _=>False) ?_ ?_ fun _ z=>z.elim
    ·walk_at "WP"
     rw[ML (by rw[w0];rfl)]
     trivial
    rintro s'' rfl
    ((try walk_at "WP");repeat (simp only[Br];try walk_at "WP"))
    refine .inl (k (some p.l) (fun y hy=>by cases hy;exact pz.l.mono (by omega)) ?_)
    rw[hc,ML z]
    rfl
   ·have lt:val (bg L i)<p.E:=by grind
    have w0:WW≠0:=fun y=>by
     have e:(WW:Rat)=0:=by rw[y];rfl
     rw[vw] at e
     have:=NC (a:=p.E-val (bg L i)) (b:=(p.e.2:Rat)*(bg L i).2) (by grind) (NC pe pb)
     grind
    refine eP (fun ρ s''=>s''=s'/\ρ=[some (a8 L),some (fr t),some (fr (bg L i)),some (fr p.e),some (fr p.l),some (fr p.h),some (.int WW),e,f,g]) ?_ ?_
    ·refine ifS (fun _=>False) (fun s''=>s''=s') ?_ (fun _ z=>z.elim) ?_
     ·walk_at "WP"
      rw[MJ (by omega)]
      trivial
     ·rintro s'' rfl
      exact⟨rfl,rfl⟩
    rintro ρ s'' ⟨rfl,rfl⟩
    have a1:=ay pz.l.a pz.h.b
    have a2:=ay a1 sl
    have a3:=ay a2 bz.b
    have b1:=ay pz.h.a pz.l.b
    have b2:=ay b1 sd
    have b3:=ay b2 pz.e.b
    have c1:=ay pz.l.b pz.h.b
    have c2:=ay c1 tz.b
    have c3:=ay c2 sw
    refine eP (fun ρ s'=>s'=s''/\ρ=[some (a8 L),some (fr t),some (fr (bg L i)),some (fr p.e),some (fr p.l),some (fr p.h),some (.int WW),some (.int LL),f,g]) ?_ ?_
    ·walk_at "WPN"
     refine⟨aS (up pz.e.a (by omega)) (up tz.b (by omega)),aS (up tz.a (by omega)) (up pz.e.b (by omega)),?_⟩
     rw[so le1,hLL]
    rintro ρ s' ⟨rfl,rfl⟩
    refine eP (fun ρ s''=>s''=s'/\ρ=[some (a8 L),some (fr t),some (fr (bg L i)),some (fr p.e),some (fr p.l),some (fr p.h),some (.int WW),some (.int LL),some (.int DD),g]) ?_ ?_
    ·walk_at "WPN"
     refine⟨aS (up tz.a (by omega)) (up bz.b (by omega)),aS (up bz.a (by omega)) (up tz.b (by omega)),?_⟩
     rw[so le2,hDD]
    rintro ρ s'' ⟨rfl,rfl⟩
    refine eP (fun ρ s'=>s'=s''/\ρ=[some (a8 L),some (fr t),some (fr (bg L i)),some (fr p.e),some (fr p.l),some (fr p.h),some (.int WW),some (.int LL),some (.int DD),some (.int (p.l.1*p.h.2*LL*(bg L i).2:Nat))]) ?_ ?_
    ·walk_at "WPN"
     simp only[<-Int.natCast_mul]
     exact⟨aS (up pz.l.a (by omega)) (up pz.h.b (by omega)),aS (up a1 (by omega)) (up sl (by omega)),aS (up a2 (by omega)) (up bz.b (by omega)),trivial⟩
    rintro ρ s' ⟨rfl,rfl⟩
    refine eP (fun ρ s''=>s''=s'/\ρ=[some (a8 L),some (fr t),some (fr (bg L i)),some (fr p.e),some (fr p.l),some (fr p.h),some (.int WW),some (.int LL),some (.int DD),some (.int (p.l.1*p.h.2*LL*(bg L i).2+p.h.1*p.l.2*DD*p.e.2:Nat))]) ?_ ?_
    ·walk_at "WPN"
     simp only[<-Int.natCast_mul,<-Int.natCast_add]
     exact⟨aS (up pz.h.a (by omega)) (up pz.l.b (by omega)),aS (up b1 (by omega)) (up sd (by omega)),aS (up b2 (by omega)) (up pz.e.b (by omega)),trivial⟩
    rintro ρ s'' ⟨rfl,rfl⟩
    ((try walk_at "WP");repeat (simp only[Br];try walk_at "WP"))
    simp only[<-Int.natCast_mul]
    refine⟨aS (up pz.l.b (by omega)) (up pz.h.b (by omega)),aS (up c1 (by omega)) (up tz.b (by omega)),aS (up c2 (by omega)) (up sw (by omega)),.inl ?_⟩
    have pos:=NP (NP (NP pz.l.pos pz.h.pos) tz.pos) (QK w0)
    refine k (some (p.l.1*p.h.2*LL*(bg L i).2+p.h.1*p.l.2*DD*p.e.2,p.l.2*p.h.2*t.2*WW)) (fun y hy=>?_) ?_
    ·cases hy
     refine⟨?_,MG c3 (bp (by omega)),pos⟩
     have h1:(2:Nat) ^ (m+4*j+2)=2 ^ (m+4*j+1)+2 ^ (m+4*j+1):=by rw[QT];omega
     have h2:=MG a3 (bp (show j+j+(j+m)+j<=m+4*j+1 by omega))
     have h3:=MG b3 (bp (show j+j+(m+j)+j<=m+4*j+1 by omega))
     show _<2 ^ (m+4*j+2)
     omega
    ·rw[hc,MJ z]
     show some _=some (((p.l.1*p.h.2*LL*(bg L i).2+p.h.1*p.l.2*DD*p.e.2:Nat):Rat)/((p.l.2*p.h.2*t.2*WW:Nat):Rat))
     congr 1
     simp only[Rat.natCast_add,Rat.natCast_mul]
     rw[vl,vd,vw,dt pz.l.pos,dt pz.h.pos]
     have cn:(p.l.2:Rat)*p.h.2*p.e.2*t.2*(bg L i).2≠0:=by
      have:=NC (NC (NC (NC pl ph) pe) pt) pb
      grind
     rw[<-EE (Y:=p.L) (G:=p.H) (X:=val t) cn lt]
     congr 1 <;> grind
  ·have le1:¬t.1*p.e.2<=p.e.1*t.2:=fun z=>q ((cI tz.pos pz.e.pos).mp z)
   refine eP (fun ρ s=>s=st/\ρ=[some (a8 L),some (fr t),some (fr (bg L i)),some (fr p.e),some (fr p.l),some (fr p.h),d,e,f,g]) ?_ ?_
   ·refine ifS (fun _=>False) (fun s=>s=st) ?_ (fun _ z=>z.elim) ?_
    ·walk_at "WP"
     refine⟨aS (up tz.a (by omega)) (up pz.e.b (by omega)),aS (up pz.e.a (by omega)) (up tz.b (by omega)),?_⟩
     rw[MJ (by rw[<-MR,<-MR];exact fun z=>le1 (ON.mp z))]
     trivial
    ·rintro s rfl
     exact⟨rfl,rfl⟩
   rintro ρ s ⟨rfl,rfl⟩
   walk_at "WP"
   exact⟨rfl,.inr (by rw[bgS hp];grind),_,_,_,_,_,_,_,by rw[bgS hp]⟩
 unfold gH
 walk_at "WP"
 refine c_ Γm (OnI st L t) ⟨rfl,.inl rfl,_,_,_,_,_,_,_,rfl⟩ ?_ ?_
 ·rintro i v ρ s hi ⟨rfl,hb,a,b,c,d,e,f,g,rfl⟩
  refine⟨trivial,?_⟩
  rw[MN] at hi
  obtain⟨p,hp,rfl⟩:=M0.mp hi
  exact⟨_,rfl,rfl,_,_,rfl,_,_,rfl,_,_,rfl,rfl,turn i p d e f g hp hb⟩
 ·rintro ρ s ⟨rfl,hb,a,b,c,d,e,f,g,rfl⟩
  refine⟨trivial,?_⟩
  walk_at "WP"
  refine .inl (k none (fun z hz=>nomatch hz) ?_)
  rw[MS] at hb
  rw[rS hR (MM _) hb,P_]
  rfl
theorem D5 {k:Nat}{p q:Nat × Nat}(hp:Sz k p)(hq:Sz k q):decide (p.1*q.2<q.1*p.2)=true↔val p<val q:=by
 rw[decide_eq_true_eq];exact iA hp.pos hq.pos
theorem CN {as st Q}(h:iK as st Q):au Γ jR (frame 1 as) st (ad st Q):=by
 obtain⟨k,q,rfl,hk,ok,kk⟩:=h
 unfold jR
 walk_at "WP"
 exact⟨_,_,rfl,ok.zd.mono (by omega),ok.zc.mono (by omega),.inl (kk _ (D5 ok.zd ok.zc))⟩
theorem IK {acc:List PV}:(e8 acc none (some 2)).length<=2:=by
 unfold e8
 have h:=HT.sIx_nat acc.length acc.length 2
 rw[show ((2:Nat):Int)=(2:Int) from rfl] at h
 rw[h]
 simp only[List.length_take,List.length_drop]
 omega
theorem HI {L:List PV}:e8 L (some 1) (some 4)=(L.drop 1).take 3:=by
 unfold e8
 have h1:=HT.sIx_nat L.length 0 1
 have h4:=HT.sIx_nat L.length L.length 4
 rw[show ((1:Nat):Int)=(1:Int) from rfl] at h1
 rw[show ((4:Nat):Int)=(4:Int) from rfl] at h4
 rw[h1,h4]
 cases L with
 | nil=>rfl
 | cons x xs =>
  have:min 1 (x::xs).length=1:=by simp only[List.length_cons];assumption
  rw[this]
  simp only[List.drop_succ_cons,List.drop_zero]
  rw[List.take_eq_take_iff]
  simp only[List.length_cons]
  omega
theorem BG {x y:Int}(a1:0<=x)(b1:x<10 ^ 9)(a2:0<=y)(b2:y<2):∃m:Nat,x*y=m/\m<10 ^ 9:=by
 have:y=0\/y=1:=by omega
 rcases this with rfl|rfl
 ·exact⟨0,by simp,by decide⟩
 ·exact⟨x.toNat,by omega,by omega⟩
theorem tO {as st Q}(h:cQ as st Q):au Γ eD (frame 1 as) st (ad st Q):=by
 obtain⟨p,rfl,hp,k⟩:=h
 unfold eD
 walk_at "WP"
 refine⟨p,3,rfl,hp,by decide,by decide,fun x1 s1 a1 b1 g1=>?_⟩
 refine⟨p,9,rfl,g1.pot,by decide,by decide,fun x2 s2 a2 b2 g2=>?_⟩
 refine⟨Fz,p,1000000000,rfl,g2.pot,by decide,by decide,fun x3 s3 a3 b3 g3=>?_⟩
 refine⟨p,4,rfl,g3.pot.app,by decide,by decide,fun y s4 a4 b4 g4=>?_⟩
 walk_at "WP"
 obtain⟨v,ev,n,rfl,n0,n1⟩:=xI (L:=[PV.int 0,PV.int x1,PV.int x2,PV.int x3]) (P:=fun v=>∃n:Int,v=.int n/\0<=n/\n<10 ^ 9) (fun v hv=>by
  simp only[List.mem_cons,List.not_mem_nil,or_false] at hv
  rcases hv with rfl|rfl|rfl|rfl
  ·exact⟨0,rfl,by decide,by decide⟩
  ·exact⟨x1,rfl,a1,by omega⟩
  ·exact⟨x2,rfl,a2,by omega⟩
  ·exact⟨x3,rfl,a3,by assumption⟩) a4 b4
 refine⟨_,ac (g4.get aq g3.ne),_,ev,?_⟩
 exact((g1.trans (g2.trans g3)).app.trans g4).tmp rfl fun s5 g5 _=>.inl (k _ _ n0 n1 g5)
theorem pO {as st Q}(h:bU as st Q):au Γ c8 (frame 3 as) st (ad st Q):=by
 obtain⟨p,rfl,hp,k⟩:=h
 unfold c8
 walk_at "WP"
 refine⟨p,4,rfl,hp,by decide,by decide,fun x1 s1 a1 b1 g1=>?_⟩
 refine⟨Fz,p,1000000000,rfl,g1.pot,by decide,by decide,fun x2 s2 a2 b2 g2=>?_⟩
 refine⟨p,3,rfl,g2.pot.app,by decide,by decide,fun y s3 a3 b3 g3=>?_⟩
 walk_at "WP"
 obtain⟨v,ev,n,rfl,n0,n1⟩:=xI (L:=[PV.int 0,PV.int x1,PV.int x2]) (P:=fun v=>∃n:Int,v=.int n/\0<=n/\n<10 ^ 9) (fun v hv=>by
  simp only[List.mem_cons,List.not_mem_nil,or_false] at hv
  rcases hv with rfl|rfl|rfl
  ·exact⟨0,rfl,by decide,by decide⟩
  ·exact⟨x1,rfl,a1,by omega⟩
  ·exact⟨x2,rfl,a2,by assumption⟩) a3 b3
 refine⟨_,ac (g3.get aq g2.ne),_,ev,?_⟩
 refine((g1.trans g2).app.trans g3).tmp rfl fun s4 g4 _=>?_
 refine⟨p,5,rfl,g4.pot.app,by decide,by decide,fun z s5 a5 b5 g5=>?_⟩
 walk_at "WP"
 obtain⟨z,rfl⟩:∃m:Nat,z=m:=⟨z.toNat,by omega⟩
 refine⟨by exact Int.natCast_nonneg _,by omega,?_⟩
 rw[show 1+(z:Int)=((z+1:Nat):Int) by omega]
 have hs4:st.length<=s4.length:=g4.len
 refine c_ Γm (fun i ρ s=>∃(ns:List Int) (x:Int) (a:Option PV),Gr st p s/\s[s4.length]?=some (.lst ((ns++[x]).map PV.int))/\ns.length=i/\(ns++[x]).Pairwise (·< ·)/\(∀y∈ns++[x],0<=y/\y<(i+1)*1000000000)/\ρ=[some (.ref p),some (.ref s4.length),a]) ⟨[],n,none,g4.app.trans g5,g5.get aq g4.ne,rfl,by simp,?_,rfl⟩ ?_ ?_
 ·intro y hy
  simp only[List.nil_append,List.mem_singleton] at hy
  subst hy
  exact⟨n0,by assumption⟩
 ·rintro i v ρ s hi ⟨ns,x,a,g,hg,hn,hpw,hb,rfl⟩
  obtain⟨rfl,hi⟩:=ow hi
  refine⟨trivial,?_⟩
  walk_at "WP"
  refine⟨⟨_,aw hg⟩,_,ac hg,.int x,by rw[M8];exact eJ,?_⟩
  walk_at "WP"
  refine⟨Fz,p,3,rfl,g.pot,by decide,by decide,fun y1 t1 c1 d1 k1=>?_⟩
  obtain⟨v,ev,m,rfl,m0,m1⟩:=xI (L:=[PV.int 2,PV.int 7,PV.int 1000000000]) (P:=fun v=>∃n:Int,v=.int n/\0<n/\n<=10 ^ 9) (fun v hv=>by
   simp only[List.mem_cons,List.not_mem_nil,or_false] at hv
   rcases hv with rfl|rfl|rfl
   ·exact⟨2,rfl,by decide,by decide⟩
   ·exact⟨7,rfl,by decide,by decide⟩
   ·exact⟨_,rfl,by decide,by decide⟩) c1 d1
  walk_at "WP"
  refine⟨_,ev,p,m,rfl,k1.pot,m0,by omega,fun y2 t2 c2 d2 k2=>?_⟩
  walk_at "WP"
  have pl:=hp.lt
  have G:=g.trans (k1.trans k2)
  have hg2:=(k1.trans k2).get hg (by omega)
  have hx:=hb x (by simp)
  refine⟨_,hg2,by simp;omega,G.setN hs4,ns++[x],x+1+y2,?_,by simp[hn],?_,?_⟩
  ·rw[M_ (aK hg2)]
   simp
  ·refine O_.mpr ⟨hpw,List.pairwise_singleton _ _,fun a ha b hb'=>?_⟩
   rw[MI] at hb'
   subst hb'
   rcases MW.mp ha with ha|ha
   ·have:=(O_.mp hpw).2.2 a ha x (by simp)
    omega
   ·rw[MI] at ha
    omega
  ·intro y hy
   rcases MW.mp hy with hy|hy
   ·have:=hb y hy
    omega
   ·rw[MI] at hy
    omega
 ·rintro ρ s ⟨ns,x,a,g,hg,hn,hpw,hb,rfl⟩
  refine⟨trivial,?_⟩
  walk_at "WP"
  have hl:(eK 0 ((z+1:Nat):Int).toNat).length=z+1:=by simp[eK]
  rw[hl] at hn hb
  refine .inl (k _ (ns++[x]) _ g hs4 hg ⟨by simp;omega,by simp;omega,fun y hy=>⟨(hb y hy).1,?_⟩,hpw⟩)
  have:=(hb y hy).2
  omega
theorem ve {as st Q}(h:cN as st Q):au Γ eY (frame 5 as) st (ad st Q):=by
 obtain⟨p,n,ns,rfl,hp,hn,hne,hP,k⟩:=h
 unfold eY
 walk_at "WP"
 have lenm:(ns.map PV.int).length=ns.length:=MS ..
 refine⟨_,ac hn,p,ns.length,by rw[lenm],hp,by have:=hP.ge;omega,by have:=hP.le;omega,fun a s1 a0 a1 g1=>?_⟩
 refine⟨_,ac (g1.get hn hne),?_⟩
 rw[lenm]
 walk_at "WP"
 refine⟨p,_,rfl,g1.pot,by omega,by have:=hP.le;omega,fun b s2 b0 b1 g2=>?_⟩
 have G2:=g1.trans g2
 obtain⟨a,rfl⟩:∃m:Nat,a=m:=⟨a.toNat,by omega⟩
 obtain⟨b,rfl⟩:∃m:Nat,b=m:=⟨b.toNat,by omega⟩
 have hA:a<ns.length:=by omega
 have hB:a+b<ns.length:=by omega
 obtain⟨f0,f1⟩:=hP.nn _ (NN hA)
 obtain⟨l0,l1⟩:=hP.nn _ (NN hB)
 have ea:∀ {m:Nat} (hm:m<ns.length),atI (ns.map PV.int) (m:Int)=some (.int ns[m]):=fun {m} hm=>bB (by rw[MN,MK hm];rfl)
 walk_at "WP"
 refine⟨_,ac (G2.get hn hne),_,ea hA,p,rfl,G2.pot,fun c s3 c0 c1 g3=>?_⟩
 have G3:=G2.trans g3
 obtain⟨f,hf⟩:∃m:Nat,ns[a]=m:=⟨ns[a].toNat,by omega⟩
 obtain⟨c,rfl⟩:∃m:Nat,c=m:=⟨c.toNat,by omega⟩
 walk_at "WP"
 by_cases hab:(a:Int)=a+b
 ·rw[ML hab]
  refine⟨_,ac (G3.get hn hne),_,ea hA,_,ac (G3.get hn hne),_,ea hA,?_⟩
  rw[hf]
  exact .inl (k _ _ ⟨f,f,f+c,f+c,rfl,⟨MM _,by omega,by omega,fun _=>rfl,by omega,by omega,by omega⟩⟩ G3)
 ·rw[MJ hab]
  have eb:(a:Int)+b=((a+b:Nat):Int):=by rfl
  rw[eb]
  refine⟨_,ac (G3.get hn hne),_,ea hA,_,ac (G3.get hn hne),_,ea hB,_,ac (G3.get hn hne),_,ea hB,p,rfl,G3.pot,fun e s4 e0 e1 g4=>?_⟩
  obtain⟨l,hl⟩:∃m:Nat,ns[a+b]=m:=⟨ns[a+b].toNat,by omega⟩
  obtain⟨e,rfl⟩:∃m:Nat,e=m:=⟨e.toNat,by omega⟩
  walk_at "WP"
  have lt:ns[a]<ns[a+b]:=N3.mp hP.up a (a+b) hA hB (by omega)
  rw[hf,hl]
  exact .inl (k _ _ ⟨f,l,f+c,l+e,rfl,⟨by omega,by omega,by omega,fun z=>by omega,by omega,by omega,by omega⟩⟩ (G3.trans g4))
theorem sC {as st Q}(h:b_ as st Q):au Γ dG (frame 7 as) st (ad st Q):=by
 obtain⟨p,n,ns,rfl,hp,hn,hne,hl,hb,hu,k⟩:=h
 unfold dG
 walk_at "WP"
 refine⟨_,aw (ai hn),_,aw (ai hn),_,aw (xs:=e8 (ns.map PV.int) (some 1) none) (by simp),?_⟩
 rw[C4]
 have hnl:=aK hn
 refine c_ Γm (fun i ρ s=>∃(L:List PV) (h:Nat) (a b c:Option PV),Gr st p s/\s[st.length]?=some (.lst L)/\s[st.length+1]?=some (.lst ((ns.map PV.int).drop 1))/\RNs L/\L.length<=i/\h<=10 ^ 11+i*(2*10 ^ 9)/\i<=6/\ρ=[some (.ref p),some (.ref n),some (.ref st.length),some (.int h),a,b,c])
  ⟨[],0,none,none,none,(Gr.refl hp).app,by simp,by simp,fun v hv=>(nomatch hv),MM _,by decide,by decide,rfl⟩ ?_ ?_
 ·rintro i v ρ s hi ⟨L,h,a,b,c,g,g1,g2,hR,hL,hh,hi6,rfl⟩
  obtain⟨x,y,e1,e2,rfl⟩:=iB hi
  rw[MN] at e1
  rw[QI,MN] at e2
  obtain⟨f,f1,rfl⟩:=M0.mp e1
  obtain⟨l,l1,rfl⟩:=M0.mp e2
  rw[QH 1 i] at l1
  have lt:=hu i f l f1 l1
  obtain⟨f0,f9⟩:=hb f (MQ f1)
  obtain⟨l0,l9⟩:=hb l (MQ l1)
  obtain⟨f,rfl⟩:∃m:Nat,f=m:=⟨f.toNat,by omega⟩
  obtain⟨l,rfl⟩:∃m:Nat,l=m:=⟨l.toNat,by omega⟩
  have il:=(MC.mp l1).1
  refine⟨⟨?_,?_⟩,?_⟩
  ·rw[cZ,ai hn]
   exact g.get hn hne
  ·rw[cZ,g2]
   simp
  walk_at "WP"
  refine⟨p,rfl,g.pot,fun x1 s1 a1 b1 k1=>?_⟩
  refine⟨p,2,rfl,k1.pot,by decide,by decide,fun y1 s2 a2 b2 k2=>?_⟩
  obtain⟨u,hu1,hu2⟩:=BG a1 b1 a2 b2
  walk_at "WP"
  refine⟨AS (by omega) (by omega),?_⟩
  rw[hu1]
  refine⟨p,rfl,k2.pot,fun x3 s3 a3 b3 k3=>?_⟩
  refine⟨p,2,rfl,k3.pot,by decide,by decide,fun y4 s4 a4 b4 k4=>?_⟩
  obtain⟨w,hw1,hw2⟩:=BG a3 b3 a4 b4
  walk_at "WP"
  refine⟨AS (by omega) (by omega),?_⟩
  rw[hw1]
  have KK:=k1.trans (k2.trans (k3.trans k4))
  have G:=g.trans KK
  have gg:∀ {m:Nat}{cc:Cell},s[m]?=some cc->m≠p->s4[m]?=some cc:=fun h1 h2=>KK.get h1 h2
  have pl:=hp.lt
  obtain⟨cm,hc,hcf,hcb⟩:∃c:Nat,(if (h:Int)<f then (f:Int) else h)+u=c/\f<=c/\c<=10 ^ 11+i*(2*10 ^ 9)+10 ^ 9:=⟨(if (h:Int)<f then (f:Int) else h).toNat+u,by split <;> rfl,by split <;> omega,by split <;> omega⟩
  rw[hc]
  obtain⟨dm,hd,hdl,hdb⟩:∃c:Nat,(if (cm:Int)<l then (l:Int) else cm)+w=c/\l<=c/\c<=10 ^ 11+(i+1)*(2*10 ^ 9):=⟨(if (cm:Int)<l then (l:Int) else cm).toNat+w,by split <;> rfl,by split <;> omega,by split <;> omega⟩
  rw[hd]
  refine⟨⟨_,aw (gg g1 (by omega))⟩,L,gg g1 (by omega),by omega,G.setN (MM _),L++[.tup [.int f,.int l,.int cm,.int dm]],?_,?_,?_,?_,dm,hdb,by omega,rfl⟩
  ·rw[M_ (aK (gg g1 (by omega)))]
  ·rw[NK (by omega)]
   exact gg g2 (by omega)
  ·intro v hv
   rcases MW.mp hv with hv|hv
   ·exact hR v hv
   ·rw[MI] at hv
    exact⟨f,l,cm,dm,hv,⟨by omega,hcf,hdl,fun z=>by omega,by omega,by omega,by omega⟩⟩
  ·simp;assumption
 ·rintro ρ s ⟨L,h,a,b,c,g,g1,g2,hR,hL,hh,hi6,rfl⟩
  refine⟨⟨?_,?_⟩,?_⟩
  ·rw[cZ,ai hn]
   exact g.get hn hne
  ·rw[cZ,g2]
   simp
  walk_at "WP"
  rw[fO,PC,MS] at hL
  exact .inl (k _ L _ g (MM _) g1 hR (by omega))
theorem se {as st Q}(h:ci as st Q):au Γ dF (frame 4 as) st (ad st Q):=by
 obtain⟨p,rfl,hp,k⟩:=h
 unfold dF
 walk_at "WP"
 refine⟨p,rfl,hp,fun n ns s1 g1 hn1 hn hP=>?_⟩
 have pl:=hp.lt
 have hne:n≠p:=by omega
 refine⟨p,4,rfl,g1.pot,by decide,by decide,fun y s2 a2 b2 g2=>?_⟩
 have G2:=g1.trans g2
 have hn2:=g2.get hn hne
 have nl2:=aK hn2
 have chain:∀(cs:List Int),(∀x∈cs,x∈ns.drop 1)->cs.Pairwise (·< ·)->cs.length<=5->(0::cs).length<=6/\(∀x∈0::cs,0<=x/\x<10 ^ 11)/\(∀i x y,(0::cs)[i]?=some x->(0::cs)[i+1]?=some y->x<y):=fun cs h1 h2 h3=>by
  have big:∀x∈ns.drop 1,0<x/\x<10 ^ 11:=fun x hx=>by
   obtain⟨i,hi,e⟩:=QC.mp hx
   rw[List.getElem_drop] at e
   rw[PC] at hi
   have l0:0<ns.length:=by omega
   have:=N3.mp hP.up 0 (1+i) l0 (by omega) (by exact Nat.le_add_right _ _)
   have n0:=(hP.nn _ (NN l0)).1
   have n1:=(hP.nn x (QD hx)).2
   exact⟨by omega,n1⟩
  refine⟨by simp;assumption,fun x hx=>?_,fun i x y e1 e2=>?_⟩
  ·rcases NA.mp hx with rfl|hx
   ·exact⟨by decide,by decide⟩
   ·have:=big x (h1 x hx);exact⟨by omega,this.2⟩
  ·have pw:(0::cs).Pairwise (·< ·):=QO.mpr ⟨fun x hx=>(big x (h1 x hx)).1,h2⟩
   obtain⟨i1,q1⟩:=MC.mp e1
   obtain⟨i2,q2⟩:=MC.mp e2
   have:=N3.mp pw i (i+1) i1 i2 (by exact Nat.le_refl _)
   omega
 walk_at "WP"
 by_cases hy:y=0
 ·rw[ML hy]
  obtain⟨c1,c2,c3⟩:=chain (ns.drop 1) (fun x hx=>hx) (hP.up.sublist (QP _ _)) (by simp;have:=hP.le;assumption)
  refine⟨_,aw (ai hn2),?_⟩
  rw[C4,<-QB]
  have gl:=G2.len
  refine⟨by simp;have:=hP.le;omega,p,_,0::ns.drop 1,rfl,G2.pot.app,by simp,by omega,c1,c2,c3,fun m L st' g m0 hm hR hL=>.inl (k m L st' (G2.app.trans g) ?_ hm hR (by simp at hL;have:=hP.le;omega))⟩
  simp at m0
  omega
 ·rw[MJ hy]
  refine⟨p,6,rfl,g2.pot,by decide,by decide,fun j s3 a3 b3 g3=>?_⟩
  obtain⟨j,rfl⟩:∃m:Nat,j=m:=⟨j.toNat,by omega⟩
  have hj:(eK 0 (j:Int).toNat).length=j:=by simp[eK]
  refine⟨_,rfl,by exact Int.natCast_nonneg _,by omega,by omega,?_⟩
  refine i8 Γm (fun i acc s=>Gr st p s/\s[n]?=some (.lst (ns.map PV.int))/\RNs acc/\acc.length<=i) ⟨G2.trans g3,g3.get hn2 hne,fun v hv=>(nomatch hv),MM _⟩ ?_ ?_
  ·rintro i x acc s hi ⟨g,gn,hR,hL⟩
   refine⟨trivial,?_⟩
   walk_at "WP"
   refine⟨p,n,ns,rfl,g.pot,gn,hne,hP,fun v s' hv g'=>⟨g.trans g',g'.get gn hne,fun w hw=>?_,by assumption⟩⟩
   rcases MW.mp hw with hw|hw
   ·exact hR w hw
   ·rw[MI] at hw
    rw[hw]
    exact hv
  ·rintro acc s ⟨g,gn,hR,hL⟩
   refine⟨trivial,?_⟩
   rw[hj] at hL
   have gl:=g.len
   by_cases hy1:y=1
   ·rw[ML hy1]
    obtain⟨c1,c2,c3⟩:=chain ((ns.drop 1).take 3) (fun x hx=>O9 hx) ((hP.up.sublist (QP _ _)).sublist (List.take_sublist _ _)) (by simp;omega)
    refine⟨_,aw aq,_,aw (ai gn),?_⟩
    rw[HI,<-QB,<-List.map_take]
    refine⟨by simp;omega,p,_,0::(ns.drop 1).take 3,rfl,g.pot.app,M6 (by exact Nat.le_add_right _ _) |>.trans (by simp),by omega,c1,c2,c3,fun m L st' g' m0 hm hR' hL'=>?_⟩
    have cl:=DM acc none (some 2)
    refine JI (xs:=e8 acc none (some 2)) (ys:=L) (g'.get (by simp) (by omega)) hm (by omega) ?_
    refine .inl (k _ (e8 acc none (some 2)++L) _ (g.app.trans g').app ?_ aq (fun v hv=>?_) (by have:=IK (acc:=acc);simp at hL';simp;omega))
    ·have:=g'.len
     simp at this
     omega
    ·rcases MW.mp hv with hv|hv
     ·exact hR v (Cu hv)
     ·exact hR' v hv
   ·rw[MJ hy1]
    exact .inl (k _ acc _ g.app gl aq hR (by omega))
theorem pW {as st Q}(h:bP as st Q):au Γ c9 (frame 5 as) st (ad st Q):=by
 obtain⟨p,n,e,R,rfl,hp,hn,hne,hR,hl,h0,h1,k⟩:=h
 unfold c9
 walk_at "WP"
 refine⟨_,ac (ai hn),?_⟩
 have pl:=hp.lt
 refine c_ Γm (fun i ρ s=>∃(M:List Rd) (a:Option PV),Gr st p s/\s[st.length]?=some (.lst (M.map fun r=>rqV (r.q e)))/\M.Perm (R.take i)/\M.length=i/\ρ=[some (.ref p),some (.ref n),some (.int e),some (.ref st.length),a]) ⟨[],none,(Gr.refl hp).app,aq,List.Perm.nil,rfl,rfl⟩ ?_ ?_
 ·rintro i v ρ s hi ⟨M,a,g,gM,hM,hl',rfl⟩
  refine⟨by rw[cZ,ai hn];exact g.get hn hne,?_⟩
  rw[MN] at hi
  obtain⟨r,hr,rfl⟩:=M0.mp hi
  have hlm:(M.map fun r=>rqV (r.q e)).length=M.length:=MS ..
  walk_at "WP"
  refine⟨⟨_,aw gM⟩,_,ac gM,?_⟩
  have il:=(MC.mp hr).1
  rw[hlm]
  refine⟨p,_,rfl,g.pot,by omega,by omega,fun y s1 a1 b1 g1=>?_⟩
  refine⟨by decide,?_⟩
  have be:e<2 ^ 8000:=M4 h1 (OD (by decide:10 ^ 11<10 ^ 12) Ek)
  refine FW.comp_map Γm (fun x=>match x with | .int z=>fr (aG z.toNat e)|v=>v) trivial (fun x hx=>?_) ?_
  ·simp only[List.mem_cons,List.not_mem_nil,or_false] at hx
   rcases hx with rfl|rfl|rfl|rfl
   ·walk_at "WP";exact⟨r.f,e,rfl,h0,be,rfl,rfl⟩
   ·walk_at "WP";exact⟨r.l,e,rfl,h0,be,rfl,rfl⟩
   ·walk_at "WP";exact⟨r.c,e,rfl,h0,be,rfl,rfl⟩
   ·walk_at "WP";exact⟨r.d,e,rfl,h0,be,rfl,rfl⟩
  ·refine⟨_,ac aq,.app ?_ ?_⟩
   ·simp[PV.bel,PV.bels,fr]
   ·have g2:=g1.get gM (by exact Nat.ne_of_gt ‹_›)
    have yl:y.toNat<=M.length:=by omega
    refine⟨_,g2,by rw[hlm];omega,a1,by rw[hlm];omega,(g.trans g1).setN (MM _),M.take y.toNat++r::M.drop y.toNat,?_,?_,?_⟩
    ·rw[M_ (aK g2)]
     show some (Cell.lst ((M.map fun r=>rqV (r.q e)).take y.toNat++rqV (r.q e)::(M.map fun r=>rqV (r.q e)).drop y.toNat))=_
     rw[M8,M7,List.map_take,QB]
    ·rw[O0,hr]
     refine List.Perm.trans List.perm_middle ?_
     rw[List.take_append_drop]
     exact(List.Perm.cons _ hM).trans (List.perm_append_singleton _ _).symm
    ·simp only[List.length_append,List.length_cons,List.length_take,List.length_drop]
     omega
 ·rintro ρ s ⟨M,a,g,gM,hM,hl',rfl⟩
  refine⟨by rw[cZ,ai hn];exact g.get hn hne,?_⟩
  walk_at "WP"
  rw[MS,N7] at hM
  exact⟨_,ac gM,.inl (k _ _ g hM)⟩
theorem RideN.r {r:Rd}(h:nX r):r.r.Ok:=by
 have c:∀ {a b:Nat},a<=b->(a:Rat)<=b:=fun h=>NJ.mpr h
 exact⟨c h.fl,c h.fc,c h.ld,fun z=>by
  have z:(r.f:Rat)=r.l:=z
  have:=h.eq (Q2.mp z)
  show (r.c:Rat)=r.d
  rw[this]⟩
theorem Rd.qr {r:Rd}{e:Nat}(he:0<e):(r.q e).r=r.r.sc e:=by
 show Rr.mk _ _ _ _=Rr.mk _ _ _ _
 rw[aA he,aA he,aA he,aA he]
theorem Rr.Ok.sc {r:Rr}{e:Rat}(he:0<e)(h:r.Ok):(r.sc e).Ok:=⟨(cU he).mpr h.fl,(cU he).mpr h.fc,(cU he).mpr h.ld,fun z=>by
 have z:r.F/e=r.L/e:=z
 have a:r.F/e*e=r.F:=by grind
 have b:r.L/e*e=r.L:=by grind
 show r.C/e=r.D/e
 rw[h.eq (by rw[<-a,<-b,z])]⟩
theorem RideN.q {r:Rd}{e:Nat}(h:nX r)(he:0<e)(e1:e<=10 ^ 11):FE 50 (r.q e):=by
 have s:∀n,n<130000000000->Sz 50 (aG n e):=fun n hn=>⟨M4 (ga _ _) (by omega),M4 (fS _ _) (by omega),bF he⟩
 have f1:=h.fl
 have f2:=h.bigl
 exact⟨.low he,.low he,.low he,.low he,s _ (by omega),s _ h.bigl,s _ h.bigc,s _ h.big,by rw[Rd.qr he];exact h.r.sc (av he)⟩
theorem su {as st Q}(h:cj as st Q):au Γ dH (frame 8 as) st (ad st Q):=by
 obtain⟨r,t,rfl,ok,tz,hh,k⟩:=h
 have pt:=av tz.pos
 have hF:(r.f:Rat)<=val t:=hh.1
 have hL:val t<=(r.l:Rat):=hh.2
 have vt:val t*t.2=t.1:=by unfold val;grind
 have fN:r.f*t.2<=t.1:=by
  have:=M5 (a:=val t-r.f) (b:=t.2) (by grind) (by grind)
  have q:((r.f*t.2:Nat):Rat)<=((t.1:Nat):Rat):=by rw[Q3];grind
  exact NJ.mp q
 have lN:t.1<=r.l*t.2:=by
  have:=M5 (a:=r.l-val t) (b:=t.2) (by grind) (by grind)
  have q:((t.1:Nat):Rat)<=((r.l*t.2:Nat):Rat):=by rw[Q3];grind
  exact NJ.mp q
 have l1:=ok.bigl
 have c1:=ok.bigc
 have d1:=ok.big
 have fl:=ok.fl
 unfold dH
 walk_at "WP"
 by_cases e:r.f=r.l
 ·rw[ML (by rw[e])]
  refine .inl (k (r.c,1) ⟨by show r.c<_;exact OD c1 (by decide),by show 1<2 ^ 500;decide,Nat.one_pos⟩ ?_)
  rw[kl]
  unfold Rr.to
  rw[ML (show (r.f:Rat)=r.l by rw[e])]
 ·rw[MJ (fun z=>e (by omega))]
  refine⟨ip (by exact Int.natCast_nonneg _) (by omega),ip (by exact Int.natCast_nonneg _) (by omega),?_⟩
  have e1:(r.l:Int)*t.2-t.1=((r.l*t.2-t.1:Nat):Int):=by rw[OX lN,MR]
  have e2:(t.1:Int)-r.f*t.2=((t.1-r.f*t.2:Nat):Int):=by rw[OX fN,MR]
  have e3:(r.l:Int)-r.f=((r.l-r.f:Nat):Int):=by rw[OX fl]
  rw[e1,e2,e3]
  refine⟨ip (by exact Int.natCast_nonneg _) (by omega),ip (by exact Int.natCast_nonneg _) (by omega),ip (by exact Int.natCast_nonneg _) (by omega),?_⟩
  simp only[<-Int.natCast_mul,<-Int.natCast_add]
  have b1:r.l*t.2-t.1<2 ^ (44+400):=M4 (PX _ _) (ay (by omega) tz.b)
  have b2:t.1-r.f*t.2<2 ^ 400:=M4 (PX _ _) tz.a
  have b3:r.c*(r.l*t.2-t.1)<2 ^ (44+(44+400)):=ay (by omega) b1
  have b4:r.d*(t.1-r.f*t.2)<2 ^ (44+400):=ay (by omega) b2
  have b5:(r.l-r.f)*t.2<2 ^ (44+400):=ay (by omega) tz.b
  have pw1:(2:Nat) ^ (44+(44+400))+2 ^ (44+400)<2 ^ 500:=by decide
  have pw2:(2:Nat) ^ (44+400)<2 ^ 500:=by decide
  refine .inl (k (r.c*(r.l*t.2-t.1)+r.d*(t.1-r.f*t.2),(r.l-r.f)*t.2) ⟨?_,?_,NP (by omega) tz.pos⟩ ?_)
  ·show r.c*(r.l*t.2-t.1)+r.d*(t.1-r.f*t.2)<2 ^ 500
   generalize (2:Nat) ^ 200=B at *
   omega
  ·show (r.l-r.f)*t.2<2 ^ 500
   generalize (2:Nat) ^ 200=B at *
   omega
  ·have x1:((r.l*t.2-t.1:Nat):Rat)=(r.l-val t)*t.2:=by
    have:=NV (fun k:Nat=>(k:Rat)) (N6 lN)
    simp only[Rat.natCast_add,Rat.natCast_mul] at this
    grind
   have x2:((t.1-r.f*t.2:Nat):Rat)=(val t-r.f)*t.2:=by
    have:=NV (fun k:Nat=>(k:Rat)) (N6 fN)
    simp only[Rat.natCast_add,Rat.natCast_mul] at this
    grind
   have x3:((r.l-r.f:Nat):Rat)=r.l-r.f:=by
    have:=NV (fun k:Nat=>(k:Rat)) (N6 fl)
    simp only[Rat.natCast_add] at this
    grind
   have ne:¬(r.f:Rat)=r.l:=fun z=>e (Q2.mp z)
   have nn:(r.l:Rat)-r.f≠0:=by grind
   show ((r.c*(r.l*t.2-t.1)+r.d*(t.1-r.f*t.2):Nat):Rat)/(((r.l-r.f)*t.2:Nat):Rat)=_
   unfold Rr.to
   rw[MJ (show ¬(r.r).F=(r.r).L from ne)]
   simp only[Rat.natCast_add,Rat.natCast_mul]
   rw[x1,x2,x3]
   show _=(r.c:Rat)+(r.d-r.c)*((val t-r.f)/(r.l-r.f))
   generalize val t=T
   generalize (t.2:Rat)=u at *
   have:(r.l-(r.f:Rat))*u≠0:=by
    intro z
    rcases PU.mp z with z|z
    ·exact nn z
    ·grind
   grind
def RwI (st:AH)(n:Nat)(R:List Rd)(t:Nat × Nat)(i:Nat)(ρ:Fr)(s:AH):Prop:=s=st/\∃(o:Option (Nat × Nat)) (a b:Option PV),(∀p,o=some p->Sz 500 p)/\IsOff ((R.take i).map Rd.r) (val t) (o.map val)/\ρ=[some (.ref n),some (fr t),some (uj o),a,b]
theorem sf {r:Rd}{t:Nat × Nat}(tz:Sz 400 t):r.r.has (val t)↔r.f*t.2<=t.1/\t.1<=r.l*t.2:=by
 have a:=cI (p:=(r.f,1)) (q:=t) Nat.one_pos tz.pos
 have b:=cI (p:=t) (q:=(r.l,1)) tz.pos Nat.one_pos
 rw[kl] at a b
 simp only[Nat.mul_one] at a b
 rw[a,b]
 rfl
theorem vN {as st Q}(h:dE as st Q):au Γ fI (frame 5 as) st (ad st Q):=by
 obtain⟨n,R,t,rfl,hn,hR,tz,k⟩:=h
 unfold fI
 walk_at "WP"
 refine⟨_,ac hn,c_ Γm (RwI st n R t) ⟨rfl,none,_,_,fun p hp=>(nomatch hp),fun r hr=>by simp at hr,rfl⟩ ?_ ?_⟩
 ·rintro i v ρ s hi ⟨rfl,o,a,b,ho,hI,rfl⟩
  refine⟨rfl,?_⟩
  rw[MN] at hi
  obtain⟨r,hr,rfl⟩:=M0.mp hi
  have ok:=hR r (MQ hr)
  have l1:=ok.bigl
  have fl:=ok.fl
  have et:(R.take (i+1)).map Rd.r=(R.take i).map Rd.r++[r.r]:=by rw[O0,hr,M8];rfl
  have no:¬r.r.has (val t)->IsOff ((R.take (i+1)).map Rd.r) (val t) (o.map val):=fun z=>by rw[et];exact hI.snoc z
  walk_at "WP"
  refine⟨ip (by exact Int.natCast_nonneg _) (by omega),?_⟩
  rw[<-MR]
  refine dJ (fun c1=>?_) fun c1=>?_
  ·refine⟨ip (by exact Int.natCast_nonneg _) (by omega),?_⟩
   rw[<-MR]
   refine dJ (fun c2=>?_) fun c2=>?_
   ·have hh:r.r.has (val t):=(sf tz).mpr ⟨ON.mp c1,ON.mp c2⟩
    refine⟨r,t,rfl,ok,tz,hh,fun p pz vp=>?_⟩
    cases o with
    | none =>
     walk_at "WPO"
     refine⟨rfl,some p,_,_,fun p' hp'=>by cases hp';exact pz,?_,rfl⟩
     rw[et]
     show IsOff _ _ (some (val p))
     rw[vp]
     exact hI.new hh fun y hy=>by cases hy
    | some x =>
     have xz:=ho x rfl
     have up:∀ {a:Nat},a<2 ^ 500->a<2 ^ 3000:=fun h=>MG h (bp (by decide))
     walk_at "WPO"
     refine⟨aS (up pz.a) (up xz.b),aS (up xz.a) (up pz.b),?_⟩
     rw[<-MR,<-MR]
     refine dJ (fun c=>?_) fun c=>?_
     ·have lt:=(iA pz.pos xz.pos).mp (QV.mp c)
      refine⟨rfl,some p,_,_,fun p' hp'=>by cases hp';exact pz,?_,rfl⟩
      rw[et]
      show IsOff _ _ (some (val p))
      rw[vp]
      exact hI.new hh fun y hy=>by cases hy;rw[<-vp];exact NB lt
     ·have le:val x<=val p:=MH fun z=>c (QV.mpr ((iA pz.pos xz.pos).mpr (by grind)))
      refine⟨rfl,some x,_,_,ho,?_,rfl⟩
      rw[et]
      exact IsOff.keep hI fun _=>by rw[<-vp];exact le
   ·exact⟨rfl,o,_,_,ho,no fun z=>c2 (ON.mpr ((sf tz).mp z).2),rfl⟩
  ·exact⟨rfl,o,_,_,ho,no fun z=>c1 (ON.mpr ((sf tz).mp z).1),rfl⟩
 ·rintro ρ s ⟨rfl,o,a,b,ho,hI,rfl⟩
  refine⟨rfl,?_⟩
  rw[MS,N7] at hI
  walk_at "WP"
  exact .inl (k o ho hI)
structure DuI (X:List Rr)(t:Rat)(P:List Rat)(o:Option (Rat × Rat)):Prop where
 all:∀m∈P,t<=m->∃om,IsOff X m om/\∀z,om=some z->∃p,o=some p/\p.2<=z/\(z=p.2->p.1<=m)
 src:∀p,o=some p->p.1∈P/\t<=p.1/\IsOff X p.1 (some p.2)
theorem DuI.nil {X:List Rr}{t:Rat}:DuI X t [] none:=⟨fun m hm=>(nomatch hm),fun p hp=>(nomatch hp)⟩
theorem DuI.skip {X:List Rr}{t m:Rat}{P:List Rat}{o:Option (Rat × Rat)}{om:Option Rat}(h:DuI X t P o)(hm:IsOff X m om)(no:om=none\/m<t):DuI X t (P++[m]) o:=by
 refine⟨fun m' hm' tm=>?_,fun p hp=>?_⟩
 ·rcases MW.mp hm' with hm' | hm'
  ·exact h.all m' hm' tm
  ·rw[MI] at hm'
   rw[hm'] at tm |-
   refine⟨om,hm,fun z hz=>?_⟩
   rcases no with no|no
   ·rw[no] at hz;cases hz
   ·exfalso;grind
 ·obtain⟨a,b⟩:=h.src p hp;exact⟨by simp[a],b⟩
theorem DuI.keep {X:List Rr}{t m z:Rat}{P:List Rat}{p:Rat × Rat}(h:DuI X t P (some p))(hm:IsOff X m (some z))(le:p.2<=z)(ord:∀q∈P,t<=q->q<=m):DuI X t (P++[m]) (some p):=by
 refine⟨fun m' hm' tm=>?_,fun p hp=>?_⟩
 ·rcases MW.mp hm' with hm' | hm'
  ·exact h.all m' hm' tm
  ·rw[MI] at hm'
   rw[hm'] at tm |-
   refine⟨_,hm,fun z' hz=>⟨p,rfl,?_,fun _=>?_⟩⟩
   ·cases hz;exact le
   ·obtain⟨a,b,_⟩:=h.src p rfl;exact ord _ a b
 ·obtain⟨a,b⟩:=h.src p hp;exact⟨by simp[a],b⟩
theorem DuI.new {X:List Rr}{t m z:Rat}{P:List Rat}{o:Option (Rat × Rat)}(h:DuI X t P o)(hm:IsOff X m (some z))(tm:t<=m)(lt:∀p,o=some p->z<p.2):DuI X t (P++[m]) (some (m,z)):=by
 refine⟨fun m' hm' tm'=>?_,fun p hp=>?_⟩
 ·rcases MW.mp hm' with hm' | hm'
  ·obtain⟨om,a,b⟩:=h.all m' hm' tm'
   refine⟨om,a,fun z' hz=>?_⟩
   obtain⟨p,e,h1,h2⟩:=b z' hz
   have:=lt p e
   exact⟨_,rfl,by show z<=z';grind,fun e=>by have e:z'=z:=e;exfalso;grind⟩
  ·rw[MI] at hm'
   rw[hm']
   exact⟨_,hm,fun z' hz=>⟨_,rfl,by cases hz;exact MV,fun _=>MV⟩⟩
 ·cases hp;exact⟨by simp,tm,hm⟩
theorem DuI.out {X:List Rr}{t:Rat}{P:List Rat}{o:Option (Rat × Rat)}(h:DuI X t P o)(hX:∀r∈X,r.Ok)(ht:t∈P)(hP:∀r∈X,r.F∈P/\r.L∈P):IsOut X t o:=by
 have off:∀r∈X,∀m∈P,t<=m->r.has m->∃p,o=some p/\p.2<=r.to m/\(r.to m=p.2->p.1<=m):=fun r hr m hm tm hh=>by
  obtain⟨om,a,b⟩:=h.all m hm tm
  cases om with
  | none=>exact absurd hh (a r hr)
  | some z =>
   obtain⟨p,e,h1,h2⟩:=b z rfl
   have:=a.2 r hr hh
   exact⟨p,e,by grind,fun e2=>h2 (by grind)⟩
 cases o with
 | none =>
  intro r hr
  refine MH fun z=>?_
  obtain⟨p,e,_⟩:=off r hr r.L (hP r hr).2 (by grind) ⟨(hX r hr).fl,MV⟩
  cases e
 | some p =>
  obtain⟨a,b,c⟩:=h.src p rfl
  refine⟨b,c.1,fun r hr v tv hv=>?_⟩
  have ok:=hX r hr
  have v1:=hv.1
  have v2:=hv.2
  obtain⟨bb,hbP,tb,hb1,hb2⟩:∃bb,bb∈P/\t<=bb/\r.F<=bb/\bb<=v:=by
   by_cases w:t<=r.F
   ·exact⟨r.F,(hP r hr).1,w,MV,v1⟩
   ·exact⟨t,ht,MV,by grind,tv⟩
  obtain⟨p1,e1,q1,q2⟩:=off r hr bb hbP tb ⟨hb1,by grind⟩
  cases e1
  obtain⟨p2,e2,q3,q4⟩:=off r hr r.L (hP r hr).2 (by grind) ⟨ok.fl,MV⟩
  cases e2
  by_cases eq:r.F=r.L
  ·have:r.to v=r.to bb:=by unfold Rr.to;rw[ML eq,ML eq]
   rw[this]
   exact⟨q1,fun z=>by have:=q2 z;grind⟩
  ·obtain⟨s,hs,hl⟩:=Rr.line (r:=r) (by have:=ok.fl;grind)
   rw[hl] at q1 q2 q3 q4 |-
   by_cases w:0<=s
   ·have:=M5 (a:=s) (b:=v-bb) w (by grind)
    exact⟨by grind,fun z=>by have:=q2 (by grind);grind⟩
   ·have:=M5 (a:=-s) (b:=r.L-v) (by grind) (by grind)
    refine⟨by grind,fun z=>?_⟩
    have e:v=r.L:=MH fun y=>by
     have:=NC (a:=-s) (b:=r.L-v) (by grind) (by grind)
     grind
    have:=q4 (by rw[<-e];exact z)
    grind
structure TOk (R:List Rd)(t:Nat × Nat)(T:List (Nat × Nat)):Prop where
 sz:∀m∈T,Sz 400 m
 hd:∃rest,T=t::rest/\rest.Pairwise fun a b=>val a<val b
 yes:∀r∈R,(r.f,1)∈T/\(r.l,1)∈T
 ln:T.length<=80
theorem TOk.ord {R:List Rd}{t:Nat × Nat}{T:List (Nat × Nat)}(h:TOk R t T){i:Nat}{m:Nat × Nat}(hm:T[i]?=some m)(tm:val t<=val m):∀q∈(T.take i).map val,val t<=q->q<=val m:=by
 obtain⟨rest,rfl,pw⟩:=h.hd
 intro q hq _
 obtain⟨x,hx,rfl⟩:=MZ.mp hq
 cases i with
 | zero=>simp at hx
 | succ i =>
  rw[PL] at hx
  rw[P0] at hm
  rcases NA.mp hx with rfl|hx
  ·exact tm
  ·obtain⟨j,hj⟩:=NM hx
   have jl:=(MC.mp hj).1
   rw[OS] at jl
   rw[OG (by omega)] at hj
   obtain⟨j1,e1⟩:=MC.mp hj
   obtain⟨i1,e2⟩:=MC.mp hm
   have:=N3.mp pw j i j1 i1 (by omega)
   rw[e1,e2] at this
   exact NB this
def DvI (st:AH)(n:Nat)(R:List Rd)(t:Nat × Nat)(G:AH)(T:List (Nat × Nat))(mr:Nat)(x:Option PV)(i:Nat)(ρ:Fr)(s:AH):Prop:=s=st++G/\∃(o:Option Fr2) (a b:Option PV),(∀p,o=some p->Sz 500 p.1/\Sz 500 p.2/\p.1∈T)/\DuI (R.map Rd.r) (val t) ((T.take i).map val) (o.map v2)/\ρ=[some (.ref n),some (.bl true),some (fr t),some (.ref mr),x,some (o2V o),a,b]
theorem wj {as st Q}(h:dA as st Q):au Γ fM (frame 8 as) st (ad st Q):=by
 obtain⟨n,R,t,rfl,hn,hR,lR,tz,k⟩:=h
 have gn:∀g:AH,(st++g)[n]?=some (.lst (R.map rdV)):=fun g=>ai hn
 unfold fM
 show au Γ (.cons _ _) [some (.ref n),some (.bl true),some (fr t),none,none,none,none,none] st _
 refine eP (fun ρ s=>s=st++[.lst [fr t]]/\ρ=[some (.ref n),some (.bl true),some (fr t),some (.ref st.length),none,none,none,none]) ?_ ?_
 ·walk_at "WPN"
 rintro ρ s ⟨rfl,rfl⟩
 refine eP (fun ρ s=>∃(G:AH) (T:List (Nat × Nat)) (mr:Nat) (x:Option PV),s=st++G/\s[mr]?=some (.lst (T.map fr))/\TOk R t T/\ρ=[some (.ref n),some (.bl true),some (fr t),some (.ref mr),x,none,none,none]) ?_ ?_
 ·refine ifS (fun s=>s=st++[.lst [fr t]]) (fun _=>False) ?_ ?_ fun _ z=>z.elim
  ·walk_at "WP"
  rintro s rfl
  have el:∀(x:PV),x∈R.map rdV->∃r,r∈R/\x=rdV r:=fun x hx=>by obtain⟨p,hp,rfl⟩:=MZ.mp hx;exact⟨p,hp,rfl⟩
  have eF:(R.map rdV).map (fun x=>match x with | .tup [a,_,_,_]=>a|v=>v)=(R.map fun r=>(r.f:Int)).map PV.int:=by rw[NQ,NQ];rfl
  have eL:(R.map rdV).map (fun x=>match x with | .tup [_,a,_,_]=>a|v=>v)=(R.map fun r=>(r.l:Int)).map PV.int:=by rw[NQ,NQ];rfl
  obtain⟨NS,hNS⟩:∃NS,(R.map fun r=>(r.f:Int))++(R.map fun r=>(r.l:Int))=NS:=⟨_,rfl⟩
  have lNS:NS.length<60:=by rw[<-hNS];simp;omega
  have mNS:∀i,i∈NS↔(∃r∈R,i=r.f)\/∃r∈R,i=r.l:=fun i=>by
   rw[<-hNS,MW,MZ,MZ]
   constructor
   ·rintro (⟨r,hr,rfl⟩|⟨r,hr,rfl⟩)
    ·exact .inl ⟨r,hr,rfl⟩
    ·exact .inr ⟨r,hr,rfl⟩
   ·rintro (⟨r,hr,rfl⟩|⟨r,hr,rfl⟩)
    ·exact .inl ⟨r,hr,rfl⟩
    ·exact .inr ⟨r,hr,rfl⟩
  refine eP (fun ρ s=>∃(G:AH) (er:Nat),s=st++[.lst [fr t]]++G/\s[er]?=some (.lst (NS.map PV.int))/\ρ=[some (.ref n),some (.bl true),some (fr t),some (.ref st.length),some (.ref er),none,none,none]) ?_ ?_
  ·walk_at "WPN"
   refine⟨_,ac (gn _),by simp;omega,FW.comp_map Γm (fun x=>match x with | .tup [a,_,_,_]=>a|v=>v) rfl (fun x hx=>by obtain⟨p,hp,rfl⟩:=el x hx;walk_at "WP") ?_⟩
   rw[eF]
   refine⟨R.map rdV,ac (ai (gn _)),by simp;omega,FW.comp_map Γm (fun x=>match x with | .tup [_,a,_,_]=>a|v=>v) rfl (fun x hx=>by obtain⟨p,hp,rfl⟩:=el x hx;walk_at "WP") ?_⟩
   rw[eL]
   refine⟨_,ai aq,by simp;omega,⟨_,by simp only[List.append_assoc];rfl⟩,_,?_,rfl⟩
   rw[bc]
   show some (Cell.lst (_++_))=_
   rw[<-M8,hNS]
  rintro ρ s ⟨G,er,hS,he,rfl⟩
  have h0:s[st.length]?=some (.lst [fr t]):=by rw[hS];exact ai aq
  walk_at "WPN"
  refine⟨NS,he,lNS,fun ns p1 p2 p3=>?_⟩
  have nn:∀i∈ns,∃k:Nat,i=k/\k<130000000000:=fun i hi=>by
   rcases (mNS i).mp ((p2 i).mp hi) with⟨r,hr,rfl⟩|⟨r,hr,rfl⟩
   ·have:=(hR r hr).fl;have:=(hR r hr).bigl;exact⟨r.f,rfl,by omega⟩
   ·exact⟨r.l,rfl,(hR r hr).bigl⟩
  have lns:ns.length<=60:=by omega
  refine⟨_,ac aq,by simp;omega,FW.comp_map Γm (fun x=>.tup [x,.int 1]) rfl (fun x hx=>by walk_at "WP") ?_⟩
  have eT:(ns.map PV.int).map (fun x=>PV.tup [x,.int 1])=(ns.map fun i=>(i.toNat,1)).map fr:=by
   rw[NQ,NQ]
   refine QG fun i hi=>?_
   obtain⟨k,rfl,_⟩:=nn i hi
   rfl
  rw[eT]
  refine⟨[fr t],ai (ai h0),by simp;omega,⟨_,by rw[hS];simp only[List.append_assoc];rfl⟩,t::ns.map fun i=>(i.toNat,1),_,by rw[bc];rfl,⟨fun m hm=>?_,⟨_,rfl,?_⟩,fun r hr=>?_,by simp;omega⟩,rfl⟩
  ·rcases NA.mp hm with rfl|hm
   ·exact tz
   ·obtain⟨i,hi,rfl⟩:=MZ.mp hm
    obtain⟨k,rfl,hk⟩:=nn i hi
    exact⟨by show (k:Int).toNat<_;omega,by show 1<2 ^ 400;decide,Nat.one_pos⟩
  ·rw[List.pairwise_map]
   refine p1.imp_of_mem fun {a b} ha hb lt=>?_
   obtain⟨x,rfl,_⟩:=nn a ha
   obtain⟨y,rfl,_⟩:=nn b hb
   show val (x,1)<val (y,1)
   rw[kl,kl]
   exact O2.mpr (by omega)
  ·have a:=(p2 r.f).mpr ((mNS _).mpr (.inl ⟨r,hr,rfl⟩))
   have b:=(p2 r.l).mpr ((mNS _).mpr (.inr ⟨r,hr,rfl⟩))
   exact⟨MT _ (MZ.mpr ⟨_,a,rfl⟩),MT _ (MZ.mpr ⟨_,b,rfl⟩)⟩
 rintro ρ s ⟨G,T,mr,x,rfl,hT,ok,rfl⟩
 refine eP (fun ρ s=>s=st++G/\ρ=[some (.ref n),some (.bl true),some (fr t),some (.ref mr),x,some .non,none,none]) ?_ ?_
 ·walk_at "WPN"
 rintro ρ s ⟨rfl,rfl⟩
 walk_at "WP"
 refine⟨_,ac hT,c_ Γm (DvI st n R t G T mr x) ⟨rfl,none,_,_,fun p hp=>(nomatch hp),.nil,rfl⟩ ?_ ?_⟩
 ·rintro i v ρ s hi ⟨rfl,o,a,b,ho,hI,rfl⟩
  refine⟨rfl,?_⟩
  rw[MN] at hi
  obtain⟨m,hm,rfl⟩:=M0.mp hi
  have mT:=MQ hm
  have mz:=ok.sz m mT
  have et:(T.take (i+1)).map val=(T.take i).map val++[val m]:=by rw[O0,hm,M8];rfl
  have up:∀ {a k:Nat},a<2 ^ k->k<=3000->a<2 ^ 3000:=fun h hk=>MG h (bp hk)
  walk_at "WP"
  refine⟨n,R,m,rfl,gn _,hR,mz,fun om hom hoff=>?_⟩
  cases om with
  | none =>
   walk_at "WPO"
   refine⟨rfl,o,_,_,ho,?_,rfl⟩
   rw[et]
   exact hI.skip hoff (.inl rfl)
  | some y =>
   have yz:=hom y rfl
   walk_at "WPO"
   refine⟨aS (up mz.a (by decide)) (up tz.b (by decide)),aS (up tz.a (by decide)) (up mz.b (by decide)),?_⟩
   rw[<-MR,<-MR]
   refine dJ (fun c=>?_) fun c=>?_
   ·have tm:val t<=val m:=(cI tz.pos mz.pos).mp (ON.mp c)
    cases o with
    | none =>
     ((try walk_at "WP");repeat (simp only[o2V];try walk_at "WP"))
     refine⟨rfl,some (m,y),_,_,fun p hp=>by cases hp;exact⟨mz.mono (by decide),yz,mT⟩,?_,rfl⟩
     rw[et]
     exact hI.new hoff tm fun p hp=>by cases hp
    | some f =>
     obtain⟨f1,f2,f3⟩:=ho f rfl
     ((try walk_at "WP");repeat (simp only[o2V];try walk_at "WP"))
     refine⟨aS (up yz.a (by decide)) (up f2.b (by decide)),aS (up f2.a (by decide)) (up yz.b (by decide)),?_⟩
     rw[<-MR,<-MR]
     refine dJ (fun c=>?_) fun c=>?_
     ·have lt:=(iA yz.pos f2.pos).mp (QV.mp c)
      refine⟨rfl,some (m,y),_,_,fun p hp=>by cases hp;exact⟨mz.mono (by decide),yz,mT⟩,?_,rfl⟩
      rw[et]
      exact hI.new hoff tm fun p hp=>by cases hp;exact lt
     ·have le:val f.2<=val y:=MH fun z=>c (QV.mpr ((iA yz.pos f2.pos).mpr (by grind)))
      refine⟨rfl,some f,_,_,ho,?_,rfl⟩
      rw[et]
      exact DuI.keep hI hoff le (ok.ord hm tm)
   ·have lt:val m<val t:=MH fun z=>c (ON.mpr ((cI tz.pos mz.pos).mpr (by grind)))
    refine⟨rfl,o,_,_,ho,?_,rfl⟩
    rw[et]
    exact hI.skip hoff (.inr lt)
 ·rintro ρ s ⟨rfl,o,a,b,ho,hI,rfl⟩
  refine⟨rfl,?_⟩
  rw[MS,N7] at hI
  walk_at "WP"
  refine .inr (.app (by cases o <;> rfl) (k o (fun p hp=>⟨(ho p hp).1,(ho p hp).2.1⟩) ?_))
  obtain⟨rest,eT,_⟩:=ok.hd
  refine hI.out (fun r hr=>?_) (PM (by rw[eT];simp)) fun r hr=>?_
  ·obtain⟨q,hq,rfl⟩:=MZ.mp hr;exact(hR q hq).r
  ·obtain⟨q,hq,rfl⟩:=MZ.mp hr
   obtain⟨a,b⟩:=ok.yes q hq
   have a:=PM (f:=val) a
   have b:=PM (f:=val) b
   rw[kl] at a b
   exact⟨a,b⟩
open PySem L2 HX FW
theorem oj {d:Nat}{U:List Un3}(h0:0<d)(h1:d<=10 ^ 11)(hU:RUF U)(h:BdU (2 ^ 37) U)(hl:U.length<=2):Stl d 38 150 37 2 (fR (U.map (b8 d))):=by
 have a:=Gh (m:=1) h0 h1 hU h (by omega)
 rw[Nat.mul_one] at a
 exact⟨a.rt,a.ng,fun p hp=>(a.en p hp).mono (by decide),a.lin,a.hi,NI me (by simpa using hl)⟩
theorem wH {b:Rat}{e l:Nat × Nat}{r:List Pc}{t:Rat}:cm b (⟨e,l,l⟩::r) t=if t<=val e then some (val l) else cm (val e) r t:=by
 rw[cm]
 show (if t<=val e then some (if b=val e then val l else val l+(val l-val l)*((t-b)/(val e-b))) else _)=_
 rw[Rat.sub_self,Rat.zero_mul,Rat.add_zero,ite_self]
theorem wJ {r:Rr}{t:Rat}(h:¬t<=r.L):IsOut [r] t none:=fun q hq=>by rw[MI] at hq;rw[hq];grind
theorem Dz {r:Rr}{e l:Nat × Nat}(ok:r.Ok)(f:r.D<r.C)(he:val e=r.L)(hl:val l=r.D):WtF [r] (cm 0 [⟨e,l,l⟩]):=fun t _=>by
 rw[wH,he,hl]
 by_cases h:t<=r.L
 ·rw[ML h];exact⟨_,AQ ok h f,rfl⟩
 ·rw[MJ h];exact⟨none,wJ h,rfl⟩
theorem Hx {r:Rr}{e l:Nat × Nat}(ok:r.Ok)(f:r.F=r.L)(he:val e=r.F)(hl:val l=r.C):WtF [r] (cm 0 [⟨e,l,l⟩]):=fun t _=>by
 rw[wH,he,hl]
 by_cases h:t<=r.F
 ·rw[ML h];exact⟨_,nR ok (by rw[<-f];exact h) (by rw[ok.eq f];exact MV) (.inr ⟨h,rfl⟩),by rw[Rr.to_F];rfl⟩
 ·rw[MJ h];exact⟨none,wJ (by rw[<-f];exact h),rfl⟩
theorem DB {r:Rr}{e c l d:Nat × Nat}(ok:r.Ok)(f:r.F≠r.L)(g:r.C<=r.D)(he:val e=r.F)(hc:val c=r.C)(hl:val l=r.L)(hd:val d=r.D):WtF [r] (cm 0 [⟨e,c,c⟩,⟨l,c,d⟩]):=fun t _=>by
 rw[wH,he,hc]
 have fl:=ok.fl
 by_cases h:t<=r.F
 ·rw[ML h];exact⟨_,nR ok (by grind) g (.inr ⟨h,rfl⟩),by rw[Rr.to_F];rfl⟩
 ·rw[MJ h,cm]
  show ∃o,IsOut [r] t o/\(if t<=val l then some (if r.F=val l then val c else val c+(val d-val c)*((t-r.F)/(val l-r.F))) else none)=_
  rw[hl,hc,hd]
  by_cases h2:t<=r.L
  ·rw[ML h2]
   refine⟨_,nR ok h2 g (.inl ⟨by grind,rfl⟩),?_⟩
   show some _=some (r.to t)
   rw[Rr.to,MJ f]
  ·rw[MJ h2];exact⟨none,wJ h2,rfl⟩
theorem mZ {as st Q}(h:bi as st Q):au Γ cy (frame 5 as) st (ad st Q):=by
 obtain⟨d,r,rfl,ok,d0,d1,k⟩:=h
 have qk:FE 50 (r.q d):=ok.q d0 d1
 have fl:=ok.fl
 have ld:=ok.ld
 have b1:=ok.big
 have b2:=ok.bigc
 have b3:=ok.bigl
 have vv:∀n:Nat,val (aG n d)=(n:Rat)/d:=fun n=>aA d0
 have pd:=av d0
 unfold cy
 walk_at "WP"
 refine⟨50,r.q d,rfl,by decide,qk,fun b hb=>?_⟩
 cases b with
 | true =>
  walk_at "WP"
  have lt:(r.q d).r.D<(r.q d).r.C:=hb.mp rfl
  refine .inl (k [b8 d (r.l,r.d,r.d)] ?_ (Dz qk.ok lt rfl rfl))
  exact oj (U:=[(r.l,r.d,r.d)]) d0 d1 ⟨MM _,ld,fun _=>rfl,trivial⟩ (fun u hu=>by rw[MI] at hu;rw[hu];exact⟨by show r.l<=_;omega,by show r.d<=_;omega,by show r.d<=_;omega⟩) (by simp)
 | false =>
  walk_at "WP"
  have le:(r.q d).r.C<=(r.q d).r.D:=MH fun z=>by
   have:=hb.mpr (by grind)
   cases this
  have cd:r.c<=r.d:=by
   have h1:val (aG r.c d)<=val (aG r.d d):=le
   rw[vv,vv,cU pd] at h1
   exact NJ.mp h1
  refine ir ?_
  by_cases e:aG r.f d=aG r.l d
  ·rw[NW e]
   walk_at "WP"
   have fe:(r.q d).r.F=(r.q d).r.L:=NV val e
   have fe2:r.f=r.l:=by
    have h1:val (aG r.f d)=val (aG r.l d):=fe
    rw[vv,vv] at h1
    have h2:(r.f:Rat)<=r.l:=(cU pd).mp (by rw[h1];exact MV)
    have h3:(r.l:Rat)<=r.f:=(cU pd).mp (by rw[h1];exact MV)
    exact Q0 (NJ.mp h2) (NJ.mp h3)
   have cd:=ok.eq fe2
   refine .inl (k [b8 d (r.f,r.c,r.c)] ?_ (Hx qk.ok fe rfl rfl))
   exact oj (U:=[(r.f,r.c,r.c)]) d0 d1 ⟨MM _,ok.fc,fun _=>rfl,trivial⟩ (fun u hu=>by rw[MI] at hu;rw[hu];exact⟨by show r.f<=_;omega,by show r.c<=_;omega,by show r.c<=_;omega⟩) (by simp)
  ·rw[NO e]
   walk_at "WP"
   have fe:¬(r.q d).r.F=(r.q d).r.L:=fun z=>e (ft (.low d0) (.low d0) z)
   have flt:r.f<r.l:=Nat.lt_of_le_of_ne fl fun z=>e (by rw[z])
   have hU:RUF [(r.f,r.c,r.c),(r.l,r.c,r.d)]:=⟨MM _,ok.fc,fun _=>rfl,flt,MM _,cd,ld,trivial⟩
   have hR:=hU.rt d0
   have hB:BdU (2 ^ 37) [(r.f,r.c,r.c),(r.l,r.c,r.d)]:=fun u hu=>by
    simp only[List.mem_cons,List.not_mem_nil,or_false] at hu
    rcases hu with rfl|rfl
    ·exact⟨by show r.f<=_;omega,by show r.c<=_;omega,by show r.c<=_;omega⟩
    ·exact⟨by show r.l<=_;omega,by show r.c<=_;omega,by show r.d<=_;omega⟩
   have z:∀n,n<130000000000->Sz 1400 (aG n d):=fun n hn=>⟨M4 (ga _ _) (OD (by omega:n<2 ^ 37) (PB (by decide) (by decide))),M4 (fS _ _) (OD (by omega:d<2 ^ 37) (PB (by decide) (by decide))),bF d0⟩
   refine⟨[b8 d (r.f,r.c,r.c),b8 d (r.l,r.c,r.d)],rfl,fun p hp=>?_,hR.lok,by show 2<20000;decide,.inl (k _ (oj d0 d1 hU hB (by simp)) fun t t0=>?_)⟩
   ·simp only[List.mem_cons,List.not_mem_nil,or_false] at hp
    rcases hp with rfl|rfl
    ·exact⟨z _ (by omega),z _ b2,z _ b2⟩
    ·exact⟨z _ b3,z _ b2,z _ b1⟩
   ·obtain⟨o,h1,h2⟩:=DB (e:=aG r.f d) (c:=aG r.c d) (l:=aG r.l d) (d:=aG r.d d) qk.ok fe le rfl rfl rfl rfl t t0
    exact⟨o,h1,(fV hR t0).trans h2⟩
theorem WtF.les {X:List Rr}{r:Rr}{A B R:List Pc}(hA:WtF X (cm 0 A))(hB:WtF [r] (cm 0 B))(hR:∀t,0<=t->cm 0 R t=les A B t):WtF (X++[r]) (cm 0 R):=fun t t0=>by
 obtain⟨o,h1,h2⟩:=hA t t0
 obtain⟨p,h3,h4⟩:=hB t t0
 rw[hR t t0]
 cases p with
 | none =>
  refine⟨o,h1.skip (h3 r (by simp)),?_⟩
  unfold My.les
  rw[h2,h4]
  cases o <;> rfl
 | some p =>
  obtain⟨k1,k2⟩:=h1.more h3
  cases o with
  | none=>exact⟨some p,k2 (.inl rfl),by unfold My.les;rw[h2,h4];rfl⟩
  | some b =>
   by_cases q:(p.2=b.2/\p.1<b.1)\/p.2<b.2
   ·refine⟨some p,k2 (.inr ⟨b,rfl,q⟩),uS h4 fun x hx=>?_⟩
    rw[h2] at hx
    have:=NE hx
    have:b.2=x:=this
    grind
   ·refine⟨some b,k1 b rfl q,tw h2 fun y hy=>?_⟩
    rw[h4] at hy
    have:p.2=y:=NE hy
    grind
noncomputable def nn:Nat->Nat
 | 0=>2
 | i+1=>4*nn i+2
theorem Ew {i:Nat}(h:i<=5):2<=nn i/\nn i<=2730/\(i<=4->nn i<=2000):=by
 have:i=0\/i=1\/i=2\/i=3\/i=4\/i=5:=by omega
 rcases this with rfl|rfl|rfl|rfl|rfl|rfl <;> decide
noncomputable abbrev JR (d:Nat)(M:List Rd):PV:=.tup (M.map fun r=>rqV (r.q d))
def SfI (st:AH)(d:Nat)(M:List Rd)(i:Nat)(ρ:Fr)(s:AH):Prop:=s=st/\∃(S:List Pc) (a:Option PV),Stl d 38 150 37 (nn i) S/\WtF ((M.take i).map fun r=>(r.q d).r) (cm 0 S)/\ρ=[some (JR d M),some (.bl true),some (a8 S),a]
theorem wG {as st Q}(h:du as st Q):au Γ fG (frame 4 as) st (ad st Q):=by
 obtain⟨d,M,rfl,ok,lM,d0,d1,k⟩:=h
 have dD:d<2 ^ 37:=by omega
 unfold fG
 walk_at "WP"
 refine c_ Γm (SfI st d M) ⟨rfl,[],none,.nil,fun t _=>⟨none,fun r hr=>(nomatch hr),rfl⟩,rfl⟩ ?_ ?_
 ·rintro i v ρ s hi ⟨rfl,S,a,hS,hW,rfl⟩
  refine⟨trivial,?_⟩
  rw[MN] at hi
  obtain⟨r,hr,rfl⟩:=M0.mp hi
  have il:=(MC.mp hr).1
  obtain⟨n1,n2,n3⟩:=Ew (i:=i) (by omega)
  walk_at "WP"
  refine⟨d,r,rfl,ok r (MQ hr),d0,d1,fun W hW1 hW2=>?_⟩
  refine⟨d,37,38,150,150,37,nn i,S,W,rfl,⟨d0,dD,by decide,by decide,by decide,by decide,by decide,by decide,n3 (by omega)⟩,hS,hW1.mono (MM _) n1,fun R hR cR=>?_⟩
  refine⟨rfl,R,_,hR,?_,rfl⟩
  rw[O0,hr,M8]
  exact hW.les hW2 cR
 ·rintro ρ s ⟨rfl,S,a,hS,hW,rfl⟩
  refine⟨trivial,?_⟩
  rw[MS] at hS hW
  rw[N7] at hW
  walk_at "WP"
  exact .inl (k S (hS.mono (MM _) (Ew lM).2.1) hW)
theorem StW.sz {d:Nat}{R:List Rd}{S:List Pc}(h:StW d R S):SzL 262 S:=h.st.sz (by decide) h.d0 (by have:=h.d1;omega)
theorem GQ {d:Nat}{R:List Rd}{S:List Pc}{t:Nat × Nat}{o:Option Fr2}(h:StW d R S)(tp:0<t.2)(ho:IsOut (R.map Rd.r) (val (t.1*d,t.2)) (o.map v2)):cm 0 S (val t)=o.map fun p=>val p.2/d:=by
 obtain⟨oo,i1,i2⟩:=h.wt (val t) (aN tp)
 have pd:=av h.d0
 have e:=ho.sc pd
 have pt:=av tp
 have ev:val (t.1*d,t.2)/(d:Rat)=val t:=by
  show ((t.1*d:Nat):Rat)/(t.2:Rat)/(d:Rat)=(t.1:Rat)/(t.2:Rat)
  rw[Q3]
  grind
 have el:(R.map Rd.r).map (Rr.sc (d:Rat))=R.map fun r=>(r.q d).r:=by
  rw[NQ]
  exact QG fun r _=>(Rd.qr h.d0).symm
 rw[ev,el] at e
 rw[i2,i1.uniq e]
 cases o <;> rfl
theorem nj {as st Q}(h:bn as st Q):au Γ cz (frame 6 as) st (ad st Q):=by
 obtain⟨n,d,R,S,t,rfl,hn,hS,tz,k⟩:=h
 have dD:d<2 ^ 37:=by have:=hS.d1;omega
 have up:∀ {a i:Nat},a<2 ^ i->i<=3000->a<2 ^ 3000:=fun h hj=>MG h (bp hj)
 unfold cz
 walk_at "WP"
 refine⟨aS (up tz.a (by decide)) (up dD (by decide)),?_⟩
 rw[<-MR]
 refine⟨n,R,(t.1*d,t.2),rfl,hn,hS.ok,by have:=hS.ln;omega,⟨MG (ay tz.a dD) (bp (by decide)),MG tz.b (bp (by decide)),tz.pos⟩,fun o ho hout=>?_⟩
 refine⟨262,303,S,t,rfl,⟨by decide,by decide⟩,hS.st.rt,hS.sz,tz,by have:=hS.st.ln;omega,fun o' ho' hc=>?_⟩
 rw[GQ hS tz.pos hout] at hc
 cases o with
 | none =>
  cases o' with
  | none=>((try walk_at "WP");repeat (simp only[o2V,uj];try walk_at "WP"));exact .inl k
  | some y=>cases hc
 | some x =>
  cases o' with
  | none=>cases hc
  | some y =>
   have xz:=(ho x rfl).2
   have yz:=ho' y rfl
   have e:val x.2/(d:Rat)=val y:=NE hc
   have pd:=av hS.d0
   have px:=av xz.pos
   have py:=av yz.pos
   have e2:y.1*x.2.2*d=x.2.1*y.2:=by
    have h1:val x.2=val y*d:=by rw[<-e];grind
    have h2:(x.2.1:Rat)=val x.2*x.2.2:=by unfold val;grind
    have h3:(y.1:Rat)=val y*y.2:=by unfold val;grind
    refine Q2.mp ?_
    simp only[Rat.natCast_mul]
    grind
   ((try walk_at "WP");repeat (simp only[o2V,uj];try walk_at "WP"))
   have m1:=ay yz.a xz.b
   refine⟨aS (up yz.a (by decide)) (up xz.b (by decide)),?_⟩
   rw[<-MR]
   refine⟨aS (up m1 (by decide)) (up dD (by decide)),aS (up xz.a (by decide)) (up yz.b (by decide)),?_⟩
   rw[<-MR,<-MR,e2,NW rfl]
   exact .inl k
def Ke (R:List Rd)(ns:List Int):Prop:=(∀i∈ns,∃k:Nat,i=k/\k<130000000000)/\ns≠[]/\ns.length<60
noncomputable abbrev mfF (S:List Pc)(n d:Nat)(a b c e f g:Option PV):Fr:=[some (a8 S),some (.ref n),some (.int d),a,b,c,e,f,g]
def MfI (st:AH)(S:List Pc)(n d:Nat)(er mr:Nat)(i:Nat)(ρ:Fr)(s:AH):Prop:=∃(g:AH) (T:List (Nat × Nat)) (a b c:Option PV),s=st++g/\s[mr]?=some (.lst (T.map fr))/\st.length<=mr/\(∀t∈T,Sz 303 t)/\T.length<=200+2*i/\ρ=mfF S n d (some (.ref er)) (some (.ref mr)) (some (fr (bg S i))) a b c
theorem Ap {a b:Nat}(ha:a<2 ^ 60)(hb:b<2 ^ 60)(b0:0<b):Sz 303 (a,b):=⟨OD ha (PB (by decide) (by decide)),OD hb (PB (by decide) (by decide)),b0⟩
theorem z_ {st g:AH}{mr:Nat}{c:Cell}(h:st.length<=mr):(st++g).set mr c=st++g.set (mr-st.length) c:=by
 rw[Q4,MJ (by exact Nat.not_lt.mpr ‹_›)]
theorem oN {as st Q}(h:bG as st Q):au Γ cG (frame 9 as) st (ad st Q):=by
 obtain⟨n,d,R,S,rfl,hn,hS,k⟩:=h
 have d0:=hS.d0
 have dD:d<2 ^ 37:=by have:=hS.d1;omega
 have lR:=hS.ln
 have hR:=hS.ok
 have lS:=hS.st.ln
 unfold cG
 show au Γ (.cons _ _) (mfF S n d none none none none none none) st _
 refine eP (fun ρ s=>∃(g:AH) (er:Nat) (ns:List Int),Ke R ns/\s=st++g/\s[er]?=some (.lst (ns.map PV.int))/\ρ=mfF S n d (some (.ref er)) none none none none none) ?_ ?_
 ·have el:∀(x:PV),x∈R.map rdV->∃r,r∈R/\x=rdV r:=fun x hx=>by obtain⟨p,hp,rfl⟩:=MZ.mp hx;exact⟨p,hp,rfl⟩
  have eF:(R.map rdV).map (fun x=>match x with | .tup [a,_,_,_]=>a|v=>v)=(R.map fun r=>(r.f:Int)).map PV.int:=by rw[NQ,NQ];rfl
  have eL:(R.map rdV).map (fun x=>match x with | .tup [_,a,_,_]=>a|v=>v)=(R.map fun r=>(r.l:Int)).map PV.int:=by rw[NQ,NQ];rfl
  walk_at "WPN"
  refine⟨_,ac (ai hn),by simp;omega,FW.comp_map Γm (fun x=>match x with | .tup [a,_,_,_]=>a|v=>v) rfl (fun x hx=>by obtain⟨p,hp,rfl⟩:=el x hx;walk_at "WP") ?_⟩
  rw[eF]
  refine⟨[.int 0],ai aq,by simp;omega,?_⟩
  refine⟨R.map rdV,ac (ai (ai hn)),by simp;omega,FW.comp_map Γm (fun x=>match x with | .tup [_,a,_,_]=>a|v=>v) rfl (fun x hx=>by obtain⟨p,hp,rfl⟩:=el x hx;walk_at "WP") ?_⟩
  rw[eL]
  refine⟨_,ai (by rw[bc];rfl),by simp;omega,[0]++(R.map fun r=>(r.f:Int))++(R.map fun r=>(r.l:Int)),by simp,by simp;omega,fun ns p1 p2 p3=>?_⟩
  refine⟨_,_,ns,⟨fun i hi=>?_,fun z=>?_,by simp at p3;omega⟩,by simp only[List.append_assoc];rfl,by rw[bc];rfl,rfl⟩
  ·have:=(p2 i).mp hi
   simp only[List.mem_append,List.mem_cons,List.not_mem_nil,or_false,List.mem_map] at this
   rcases this with (rfl|⟨r,hr,rfl⟩)|⟨r,hr,rfl⟩
   ·exact⟨0,rfl,by decide⟩
   ·have:=(hR r hr).fl;have:=(hR r hr).bigl;exact⟨r.f,rfl,by omega⟩
   ·exact⟨r.l,rfl,(hR r hr).bigl⟩
  ·have:=(p2 0).mpr (by simp)
   rw[z] at this
   cases this
 rintro ρ s1 ⟨g1,er,ns,⟨en1,en2,en3⟩,hs1,he,rfl⟩
 obtain⟨ll,hl1,hl2⟩:∃l:Nat,atI (ns.map PV.int) (-1)=some (.int l)/\l<130000000000:=by
  rcases dS ns with rfl|⟨Y,c,rfl⟩
  ·exact absurd rfl en2
  ·obtain⟨l,rfl,hl⟩:=en1 c (by simp)
   exact⟨l,by rw[M8];exact eJ,hl⟩
 refine eP (fun ρ s=>∃(g:AH) (mr:Nat) (T:List (Nat × Nat)),(∀t∈T,Sz 303 t)/\T.length<=61/\s=st++g/\s[er]?=some (.lst (ns.map PV.int))/\s[mr]?=some (.lst (T.map fr))/\st.length<=mr/\ρ=mfF S n d (some (.ref er)) (some (.ref mr)) none none none none) ?_ ?_
 ·walk_at "WPN"
  refine⟨_,ac he,_,hl1,?_⟩
  walk_at "WP"
  refine⟨_,ai he,by simp;omega,_,ac (by rw[bc];rfl),by simp;omega,FW.comp_map Γm (fun x=>.tup [x,.int d]) rfl (fun x hx=>by walk_at "WP") ?_⟩
  have eT:(ns.map PV.int++[PV.int ((ll:Int)+1)]).map (fun x=>PV.tup [x,.int d])=((ns.map fun i=>(i.toNat,d))++[(ll+1,d)]).map fr:=by
   rw[M8,M8,NQ,NQ]
   congr 1
   refine QG fun i hi=>?_
   obtain⟨k,rfl,_⟩:=en1 i hi
   rfl
  rw[eT]
  refine⟨_,_,(ns.map fun i=>(i.toNat,d))++[(ll+1,d)],fun t ht=>?_,by simp;exact Nat.le_of_lt ‹_›,by rw[hs1];simp only[List.append_assoc];rfl,ai (ai he),aq,by rw[hs1];simp,rfl⟩
  rcases MW.mp ht with ht|ht
  ·obtain⟨i,hi,rfl⟩:=MZ.mp ht
   obtain⟨k,rfl,hk⟩:=en1 i hi
   exact Ap (by omega) (by omega) d0
  ·rw[MI] at ht
   rw[ht]
   exact Ap (by omega) (by omega) d0
 rintro ρ s2 ⟨g2,mr,T,hT,lT,hs2,he,hm,ml,rfl⟩
 refine eP (fun ρ s=>∃(g:AH) (T:List (Nat × Nat)),(∀t∈T,Sz 303 t)/\T.length<=200/\s=st++g/\s[mr]?=some (.lst (T.map fr))/\ρ=mfF S n d (some (.ref er)) (some (.ref mr)) none none none none) ?_ ?_
 ·walk_at "WPN"
  refine⟨⟨_,aw hm⟩,_,aw he,?_⟩
  rw[C4,<-QB]
  refine⟨_,ac (ai he),_,ac aq,by rw[fO];simp;omega,?_⟩
  refine i8 Γm (fun j acc s=>s=s2++[Cell.lst ((ns.drop 1).map PV.int)]/\∃T:List (Nat × Nat),acc=T.map fr/\(∀t∈T,Sz 303 t)/\T.length=j) ⟨rfl,[],rfl,fun t ht=>(nomatch ht),rfl⟩ ?_ ?_
  ·rintro j v acc s hv ⟨rfl,T,rfl,hT,lT⟩
   refine⟨⟨rfl,rfl⟩,?_⟩
   obtain⟨x,y,e1,e2,rfl⟩:=iB hv
   rw[MN] at e1 e2
   obtain⟨a,ha,rfl⟩:=M0.mp e1
   obtain⟨b,hb,rfl⟩:=M0.mp e2
   obtain⟨a,rfl,a1⟩:=en1 a (MQ ha)
   obtain⟨b,rfl,b1⟩:=en1 b (QD (MQ hb))
   walk_at "WP"
   refine⟨ip (by decide) (by decide),T++[(a+b,2*d)],by rw[M8];rfl,fun t ht=>?_,by simp[lT]⟩
   rcases MW.mp ht with ht|ht
   ·exact hT t ht
   ·rw[MI] at ht
    rw[ht]
    exact Ap (by omega) (by omega) (by omega)
  ·rintro acc s ⟨rfl,T2,rfl,hT2,lT2⟩
   refine⟨⟨rfl,rfl⟩,?_⟩
   rw[fO] at lT2
   simp only[List.length_map,List.length_drop] at lT2
   have hm2:=ai (g:=[Cell.lst (T2.map fr)]) (ai (g:=[Cell.lst ((ns.drop 1).map PV.int)]) hm)
   refine⟨_,hm2,by simp;omega,g2.set (mr-st.length) (.lst (T.map fr++T2.map fr))++[Cell.lst ((ns.drop 1).map PV.int),Cell.lst (T2.map fr)],T++T2,fun t ht=>?_,by simp;omega,?_,?_⟩
   ·rcases MW.mp ht with ht|ht
    ·exact hT t ht
    ·exact hT2 t ht
   ·rw[OC,Q4,ML (aK hm),hs2,z_ ml]
    simp only[List.append_assoc]
    rfl
   ·rw[M_ (aK hm2),M8]
 rintro ρ s ⟨g3,T3,hT3,lT3,rfl,hm,rfl⟩
 refine eP (fun ρ s=>s=st++g3/\ρ=mfF S n d (some (.ref er)) (some (.ref mr)) (some (fr (bg S 0))) none none none) ?_ ?_
 ·walk_at "WPN"
  exact⟨rfl,rfl⟩
 rintro ρ s ⟨rfl,rfl⟩
 walk_at "WP"
 refine c_ Γm (MfI st S n d er mr) ⟨g3,T3,none,none,none,rfl,hm,ml,hT3,by assumption,rfl⟩ ?_ ?_
 ·rintro i v ρ s hi ⟨g,T,a,b,c,hs,hm,ml,hT,lT,rfl⟩
  refine⟨trivial,?_⟩
  rw[MN] at hi
  obtain⟨p,hp,rfl⟩:=M0.mp hi
  have il:=(MC.mp hp).1
  have pz:=hS.st.en p (MQ hp)
  have bz:Sz 150 (bg S i):=by
   cases i with
   | zero=>exact⟨by show 0<2 ^ 150;decide,by show 1<2 ^ 150;decide,by show 0<1;decide⟩
   | succ i=>rw[bgS (MK (by exact Nat.le_of_lt ‹_›:i<S.length))];exact hS.st.en _ (NN _)
  have up:∀ {a i:Nat},a<2 ^ i->i<=3000->a<2 ^ 3000:=fun h hj=>MG h (bp hj)
  have m1:=ay bz.a pz.b
  have m2:=ay pz.a bz.b
  have m3:=ay (show 2<2 ^ 2 by decide) bz.b
  have m4:=ay m3 pz.b
  have e:PV.tup [PV.int (((bg S i).1:Int)*p.e.2+p.e.1*(bg S i).2),PV.int (2*((bg S i).2:Int)*p.e.2)]=fr ((bg S i).1*p.e.2+p.e.1*(bg S i).2,2*(bg S i).2*p.e.2):=by
   show _=PV.tup [PV.int (((bg S i).1*p.e.2+p.e.1*(bg S i).2:Nat):Int),PV.int ((2*(bg S i).2*p.e.2:Nat):Int)]
   rw[Q1,MR,MR,MR,MR]
   rfl
  have ez:Sz 303 ((bg S i).1*p.e.2+p.e.1*(bg S i).2,2*(bg S i).2*p.e.2):=by
   refine⟨?_,MG m4 (bp (by decide)),NP (NP (by decide) bz.pos) pz.pos⟩
   show _<2 ^ 303
   omega
  walk_at "WP"
  refine⟨⟨_,aw hm⟩,aS (up bz.a (by decide)) (up pz.b (by decide)),aS (up pz.a (by decide)) (up bz.b (by decide)),ip (by decide) (by decide),?_,?_⟩
  ·rw[show (2:Int)*((bg S i).2:Int)=((2*(bg S i).2:Nat):Int) by rw[MR];rfl]
   exact aS (up m3 (by decide)) (up pz.b (by decide))
  rw[e]
  have hm2:=ai (g:=[Cell.lst [fr ((bg S i).1*p.e.2+p.e.1*(bg S i).2,2*(bg S i).2*p.e.2),fr p.e]]) hm
  refine⟨_,hm2,by simp;omega,g.set (mr-st.length) (.lst (T.map fr++[fr ((bg S i).1*p.e.2+p.e.1*(bg S i).2,2*(bg S i).2*p.e.2),fr p.e]))++[Cell.lst [fr ((bg S i).1*p.e.2+p.e.1*(bg S i).2,2*(bg S i).2*p.e.2),fr p.e]],T++[((bg S i).1*p.e.2+p.e.1*(bg S i).2,2*(bg S i).2*p.e.2),p.e],_,_,_,?_,?_,ml,fun t ht=>?_,by simp;omega,by rw[bgS hp]⟩
  ·rw[Q4,ML (aK hm),hs,z_ ml]
   simp only[List.append_assoc]
  ·rw[M_ (aK hm2),M8]
   rfl
  ·rcases MW.mp ht with ht|ht
   ·exact hT t ht
   ·simp only[List.mem_cons,List.not_mem_nil,or_false] at ht
    rcases ht with rfl|rfl
    ·exact ez
    ·exact pz.mono (by decide)
 ·rintro ρ s ⟨g,T,a,b,c,rfl,hm,ml,hT,lT,rfl⟩
  refine⟨trivial,?_⟩
  walk_at "WP"
  exact .inl (k T g mr hm hT)
theorem WtF.nil {S:List Pc}(h:WtF [] (cm 0 S))(hR:RtF S):S=[]:=by
 cases S with
 | nil=>rfl
 | cons p r =>
  obtain⟨y,hy⟩:=Im (b:=0) (p:=p) (r:=r)
  obtain⟨o,h1,h2⟩:=h p.E (aN hR.1.e.pos)
  rw[hy] at h2
  cases o with
  | none=>cases h2
  | some q=>obtain⟨_,⟨r,hr,_⟩,_⟩:=h1;cases hr
theorem StW.nil {d:Nat}{R:List Rd}{S:List Pc}(h:StW d R S):R=[]↔S=[]:=by
 refine⟨fun z=>?_,fun z=>?_⟩
 ·have:=h.wt
  rw[z] at this
  exact WtF.nil this h.st.rt
 ·cases R with
  | nil=>rfl
  | cons r R =>
   obtain⟨o,h1,h2⟩:=h.wt 0 MV
   rw[z] at h2
   cases o with
   | some q=>cases h2
   | none =>
    have:=h1 (r.q d).r (by simp)
    have e:=aN (bF (n:=r.l) h.d0)
    exfalso
    have:val (aG r.l d)<0:=this
    grind
theorem StW.last {d:Nat}{R:List Rd}{S:List Pc}{i:Nat}(h:StW d R S)(h1:∃r∈R,r.l=i)(h2:∀r∈R,r.l<=i):S.getLast?.map Pc.e=some (aG i d):=by
 have pd:=av h.d0
 have vv:∀n:Nat,val (aG n d)=(n:Rat)/d:=fun n=>aA h.d0
 rcases dS S with e|⟨Y,q,rfl⟩
 ·obtain⟨r,hr,_⟩:=h1
  have:=h.nil.mpr e
  rw[this] at hr
  cases hr
 ·rw[OZ]
  have hR:=h.st.rt
  have hq:(Y++[q])[Y.length]?=some q:=by simp
  have qok:=(hR.at_ hq).1
  show some q.e=_
  congr 1
  refine ft qok.e (.low h.d0) ?_
  refine Rat.le_antisymm ?_ ?_
  ·obtain⟨o,i1,i2⟩:=h.wt q.E (aN qok.e.pos)
   rw[Cg hR] at i2
   cases o with
   | none=>cases i2
   | some p =>
    obtain⟨a,⟨r,hr,b,_⟩,_⟩:=i1
    obtain⟨r,hr',rfl⟩:=MZ.mp hr
    have b2:p.1<=val (aG r.l d):=b.2
    have c:val (aG r.l d)<=val (aG i d):=by rw[vv,vv,cU pd];exact NJ.mpr (h2 r hr')
    grind
  ·obtain⟨r,hr,rfl⟩:=h1
   obtain⟨o,i1,i2⟩:=h.wt (val (aG r.l d)) (aN (bF h.d0))
   refine MH fun z=>?_
   rw[lH hR (by grind)] at i2
   cases o with
   | some p=>cases i2
   | none =>
    have:val (aG r.l d)<val (aG r.l d):=i1 (r.q d).r (MZ.mpr ⟨r,hr,rfl⟩)
    grind
theorem AB:∀ {L:List PV},RNs L->∃R:List Rd,L=R.map rdV/\∀r∈R,nX r
 | [],_=>⟨[],rfl,fun r hr=>(nomatch hr)⟩
 | v::L,h=>by
  obtain⟨R,rfl,hR⟩:=AB (L:=L) fun w hw=>h w (by simp[hw])
  obtain⟨f,l,c,d,rfl,ok⟩:=h v (by simp)
  refine⟨⟨f,l,c,d⟩::R,rfl,fun r hr=>?_⟩
  rcases NA.mp hr with rfl|hr
  ·exact ok
  ·exact hR r hr
noncomputable abbrev lwF (ns0:List Int)(k:Nat)(a b c d e f:Option PV):Fr:=[some (.rdl (ns0.map PV.int)),some (.int k),a,b,c,d,e,f]
noncomputable abbrev Co:Ss:=(.cons (.set (.name 2) (.call 33 (.cons (.var 0) (.cons (.var 1) .nil)))) (.cons (.set (.name 3) (.call 40 (.cons (.var 2) .nil))) (.cons (.set (.name 4) (.call 41 (.cons (.var 2) .nil))) (.cons (.set (.name 5) (.call 32 (.cons (.call 42 (.cons (.var 2) (.cons (.var 3) (.cons (.var 4) .nil)))) (.cons (.bl true) .nil)))) (.cons (.ifS (.bop false (.cons (.not (.call 17 (.cons (.var 5) .nil))) (.cons (.cmp .NotEq (.call 32 (.cons (.tup .nil) (.cons (.bl true) .nil))) (.tup .nil)) (.cons (.cmp .NotEq (.cmp .Eq (.var 3) (.lst .nil)) (.cmp .Eq (.var 5) (.tup .nil))) .nil)))) (.cons (.ret (.bl false)) .nil) .nil) (.cons (.set (.name 6) (.comp (.ix (.var 0) (.int 1)) (.name 0) (.seq (.var 3)) .nil ["_law_ride_here"] [])) (.cons (.ifS (.bop true (.cons (.cmp .NotEq (.var 6) (.lst .nil)) (.cons (.cmp .NotEq (.call 20 (.cons (.var 5) .nil)) (.call 35 (.cons (.blt .max1 (.cons (.var 6) .nil)) (.cons (.var 4) .nil)))) .nil))) (.cons (.ret (.bl false)) .nil) .nil) (.cons (.forS (.name 7) (.seq (.call 48 (.cons (.var 5) (.cons (.var 3) (.cons (.var 4) .nil))))) (.cons (.ifS (.not (.call 47 (.cons (.var 5) (.cons (.var 3) (.cons (.var 4) (.cons (.var 7) .nil)))))) (.cons (.ret (.bl false)) .nil) .nil) .nil)) .nil))))))))
noncomputable abbrev BF:Ss:=(.cons (.ret (.bl true)) .nil)
theorem AM {Q:EK}{st:AH}{ns0:List Int}{k:Nat}{s0:AH}{a b c d e f:Option PV}(hk:k<9):au Γ Co (lwF ns0 k a b c d e f) s0 (LD (fun ρ _=>∃x a b c d e f,ρ=[some (.rdl (ns0.map PV.int)),x,a,b,c,d,e,f]) (aft Γ BF (ad st Q))):=by
 refine eP (fun ρ s=>∃p,Pot s p/\ρ=lwF ns0 k (some (.ref p)) b c d e f) ?_ ?_
 ·walk_at "WPN"
  exact⟨ns0,k,rfl,hk,fun q r pk=>⟨_,⟨q,r,aq,pk⟩,rfl⟩⟩
 rintro ρ s1 ⟨p,hp,rfl⟩
 refine eP (fun ρ s=>∃(n:Nat) (R:List Rd),Pot s p/\n≠p/\s[n]?=some (.lst (R.map rdV))/\(∀r∈R,nX r)/\R.length<=5/\ρ=lwF ns0 k (some (.ref p)) (some (.ref n)) c d e f) ?_ ?_
 ·walk_at "WPN"
  refine⟨p,rfl,hp,fun m L s g m0 hm hL lL=>?_⟩
  obtain⟨R,rfl,hR⟩:=AB hL
  have:=hp.lt
  exact⟨g.pot,m,by omega,R,hm,hR,by simpa using lL,rfl⟩
 rintro ρ s2 ⟨n,R,hp,np,hn,hR,lR,rfl⟩
 refine eP (fun ρ s=>∃x:Nat,0<x/\x<=10 ^ 11/\Pot s p/\s[n]?=some (.lst (R.map rdV))/\ρ=lwF ns0 k (some (.ref p)) (some (.ref n)) (some (.int x)) d e f) ?_ ?_
 ·walk_at "WPN"
  exact⟨p,rfl,hp,fun x s x0 x1 g=>⟨x,x0,x1,g.pot,g.get hn np,rfl⟩⟩
 rintro ρ s3 ⟨x,x0,x1,hp,hn,rfl⟩
 refine eP (fun ρ s=>∃S:List Pc,StW x R S/\s[n]?=some (.lst (R.map rdV))/\ρ=lwF ns0 k (some (.ref p)) (some (.ref n)) (some (.int x)) (some (a8 S)) e f) ?_ ?_
 ·walk_at "WPN"
  refine⟨p,n,x,R,rfl,hp,hn,np,hR,by omega,x0,x1,fun M s g pm=>?_⟩
  refine⟨x,M,rfl,fun r hr=>hR r (pm.mem_iff.mp hr),by rw[pm.length_eq];exact lR,x0,x1,fun S hS hW=>?_⟩
  refine⟨S,⟨x0,x1,hR,lR,hS,fun t t0=>?_⟩,g.get hn np,rfl⟩
  obtain⟨o,h1,h2⟩:=hW t t0
  exact⟨o,h1.congr fun r=>(pm.map _).mem_iff,h2⟩
 rintro ρ s4 ⟨S,hS,hn,rfl⟩
 have lS:=hS.st.ln
 have dR:bT 5 (R.map rdV)=true:=ej fun v hv=>by obtain⟨r,_,rfl⟩:=MZ.mp hv;rfl
 refine eP (fun ρ s=>s[n]?=some (.lst (R.map rdV))/\ρ=lwF ns0 k (some (.ref p)) (some (.ref n)) (some (.int x)) (some (a8 S)) e f) ?_ ?_
 ·walk_at "WPN"
  refine⟨S,rfl,hS.st.rt,hS.st.ng,hS.sz.mono (by decide),by omega,?_⟩
  walk_at "WP"
  refine⟨x,[],rfl,fun r hr=>(nomatch hr),by simp,x0,x1,fun S' hS' hW'=>?_⟩
  rw[WtF.nil hW' hS'.rt]
  refine dP (n:=4) (by decide) rfl rfl ?_
  rw[show (a8 []).same (PV.tup [])=true from fo _,MJ (by decide)]
  refine i_ (ai hn) aq dR ?_
  refine dP (n:=4) (by decide) gQ rfl ?_
  rw[fW,MJ]
  ·exact ai hn
  ·have:=hS.nil
   cases R <;> cases S <;> simp_all
 rintro ρ s5 ⟨hn,rfl⟩
 have eL:(R.map rdV).map (fun x=>match x with | .tup [_,a,_,_]=>a|v=>v)=(R.map fun r=>(r.l:Int)).map PV.int:=by rw[NQ,NQ];rfl
 refine eP (fun ρ s=>∃er:Nat,s[er]?=some (.lst ((R.map fun r=>(r.l:Int)).map PV.int))/\s[n]?=some (.lst (R.map rdV))/\ρ=lwF ns0 k (some (.ref p)) (some (.ref n)) (some (.int x)) (some (a8 S)) (some (.ref er)) f) ?_ ?_
 ·walk_at "WPN"
  refine⟨_,ac hn,by simp;omega,FW.comp_map Γm (fun x=>match x with | .tup [_,a,_,_]=>a|v=>v) rfl (fun x hx=>by obtain⟨p,hp,rfl⟩:=MZ.mp hx;walk_at "WP") ?_⟩
  rw[eL]
  exact⟨_,aq,ai hn,rfl⟩
 rintro ρ s6 ⟨er,he,hn,rfl⟩
 have dI:bT 5 ((R.map fun r=>(r.l:Int)).map PV.int)=true:=ej fun v hv=>by obtain⟨r,_,rfl⟩:=MZ.mp hv;rfl
 refine eP (fun ρ s=>s[n]?=some (.lst (R.map rdV))/\ρ=lwF ns0 k (some (.ref p)) (some (.ref n)) (some (.int x)) (some (a8 S)) (some (.ref er)) f) ?_ ?_
 ·walk_at "WPN"
  refine i_ (ai he) aq dI ?_
  cases hRe:R with
  | nil =>
   rw[MJ (by simp)]
   rw[<-hRe]
   exact ai hn
  | cons r0 R0 =>
   rw[<-hRe]
   rw[ML (by rw[hRe];rfl)]
   refine⟨S,rfl,R.map fun r=>(r.l:Int),aw (ai he),by rw[hRe];simp,fun i hi hj=>?_⟩
   obtain⟨r,hr,rfl⟩:=MZ.mp hi
   refine⟨r.l,x,rfl,x0,M4 x1 (OD (by decide:10 ^ 11<10 ^ 12) Ek),?_⟩
   rw[hS.last (i:=r.l) ⟨r,hr,rfl⟩ fun q hq=>by have:=hj q.l (MZ.mpr ⟨q,hq,rfl⟩);omega]
   refine dP (n:=4) (by decide) rfl rfl ?_
   rw[show (uj (some (aG r.l x))).same (low r.l x)=true from fo _,MJ (by decide)]
   exact ai hn
 rintro ρ s7 ⟨hn,rfl⟩
 walk_at "WP"
 refine⟨n,x,R,S,rfl,hn,hS,fun T g mr hm hT=>?_⟩
 refine⟨_,ac hm,c_ Γm (fun _ ρ s=>s=s7++g/\∃h,ρ=lwF ns0 k (some (.ref p)) (some (.ref n)) (some (.int x)) (some (a8 S)) (some (.ref er)) h) ⟨rfl,_,rfl⟩ ?_ ?_⟩
 ·rintro i v ρ s hi ⟨rfl,h,rfl⟩
  refine⟨rfl,?_⟩
  rw[MN] at hi
  obtain⟨t,ht,rfl⟩:=M0.mp hi
  walk_at "WP"
  refine⟨n,x,R,S,t,rfl,ai hn,hS,hT t (MQ ht),?_⟩
  walk_at "WP"
 ·rintro ρ s ⟨rfl,h,rfl⟩
  refine⟨rfl,?_⟩
  walk_at "WP"
theorem HK {as st Q}(h:jz as st Q):au Γ o_ (frame 8 as) st (ad st Q):=by
 obtain⟨ns,rfl,hl,k⟩:=h
 unfold o_
 walk_at "WP"
 rw[MS]
 obtain⟨N,hN,hN6⟩:∃N:Nat,(if 1<if 2<(ns.length:Int) then 2 else (ns.length:Int) then if 2<(ns.length:Int) then 2 else (ns.length:Int) else 1)=(N:Int)/\N<=3:=by
  refine⟨(if 1<if 2<(ns.length:Int) then 2 else (ns.length:Int) then if 2<(ns.length:Int) then 2 else (ns.length:Int) else 1).toNat,?_,?_⟩ <;> (repeat' split) <;> omega
 rw[hN]
 refine⟨by exact Int.natCast_nonneg _,by omega,?_⟩
 refine c_ Γm (fun i ρ s=>∃x a b c d e f,ρ=[some (.rdl (ns.map PV.int)),x,a,b,c,d,e,f]) ⟨_,_,_,_,_,_,_,rfl⟩ ?_ ?_
 ·rintro i v ρ s hi ⟨x,a,b,c,d,e,f,rfl⟩
  obtain⟨rfl,hi⟩:=ow hi
  exact⟨trivial,AM (by omega)⟩
 ·rintro ρ s ⟨x,a,b,c,d,e,f,rfl⟩
  refine⟨trivial,?_⟩
  walk_at "WP"
  exact .inl (k _)
noncomputable abbrev og:Stmt:=top 28
local macro_rules | `(tactic| walk_at "AR")=>`(tactic| first|exact fun _ _ _ _ _ _ us hl=>ar1 (P:=fun us=>bindArgs _ { pos:=us }=pure (List.zip _ us)) (fun _=>rfl) us hl|exact fun _ _ _ _ _ _ us hl=>ar2 (P:=fun us=>bindArgs _ { pos:=us }=pure (List.zip _ us)) (fun _ _=>rfl) us hl|exact fun _ _ _ _ _ _ us hl=>ar3 (P:=fun us=>bindArgs _ { pos:=us }=pure (List.zip _ us)) (fun _ _ _=>rfl) us hl|exact fun _ _ _ _ _ _ us hl=>ar4 (P:=fun us=>bindArgs _ { pos:=us }=pure (List.zip _ us)) (fun _ _ _ _=>rfl) us hl|exact fun _ _ _ _ _ _ us hl=>ar5 (P:=fun us=>bindArgs _ { pos:=us }=pure (List.zip _ us)) (fun _ _ _ _ _=>rfl) us hl)
abbrev zn (K:W.Frag)(n:Str):Prop:=W.nsIn K mainGlobals n=some none
theorem all_mk {l:W.OpenLaw}{q:Program}{w:World}{K:W.Frag}{h:Heap}{mg:Str->Option Value}{fa:Addr}(X:K.In h)(G:h.Ns mainGlobals mg)(hfa:mg "law"=some (.ref fa))
  {f50:Addr}{oc50 kV50 dc50 pm50 ct50:Value}{od50 an50:Option Addr}{sl50:Array (Option Value)}{cc50 tT50:Addr}{tx50:Value}{ty50:Option Addr}{tw50:Array Value}{tu50:Array (Option Value)}{td50:PySem.DefRec}
  {ga0:Addr}{gd0:Option Addr}{gn0:Nat}{gs0:Array (Option Value)}{t0_0 t0_1:Tok}
  (d0:DI K "is_whole" gw) (d1:DI K "common_divisor" bV) (d2:DI K "is_fraction" dh) (d3:DI K "fraction" gG) (d4:DI K "plus" sX) (d5:DI K "less" sV) (d6:DI K "times" nF) (d7:DI K "is_below" gZ) (d8:DI K "crosswise" fm) (d9:DI K "on_straight" dj) (d10:DI K "is_piece" gF) (d11:DI K "is_right_alone" bW) (d12:DI K "is_right_first" bY) (d13:DI K "is_right_behind" bM) (d14:DI K "is_row" k8) (d15:DI K "goes_on" iX) (d16:DI K "lean" rT) (d17:DI K "is_stair" gk) (d18:DI K "beginning_of" cH) (d19:DI K "height" ki) (d20:DI K "last" rH) (d21:DI K "merged" j0) (d22:DI K "cut_at" kd) (d23:DI K "leaders" i4) (d24:DI K "common" k7) (d25:DI K "apart" nH) (d26:DI K "crossed" i6) (d27:DI K "compared_between" bw) (d28:DI K "compared" gD) (d29:DI K "lesser" kJ) (d30:DI K "falls" nJ) (d31:DI K "waiting_stair" cu) (d32:DI K "stair_of" gO) (d33:DI K "_law_pot" gq) (d34:DI K "_law_take" e_) (d35:DI K "_law_moment" dr) (d36:DI K "_law_points" dq) (d37:DI K "_law_late" fh) (d38:DI K "_law_ride" fu) (d39:DI K "_law_chain" d_) (d40:DI K "_law_rides" dQ) (d41:DI K "_law_part" fv) (d42:DI K "_law_handed" di) (d43:DI K "_law_comes" dZ) (d44:DI K "_law_raw" gu) (d45:DI K "_law_due" gI) (d46:DI K "_law_on" jf) (d47:DI K "_law_comes_so" cw) (d48:DI K "_law_moments" cO) (d49:DI K "law" mW) (a50:W.nsIn K mainGlobals "coming"=some (some (.ref f50))) (l50:K.lookup f50=some ⟨oc50,od50,.func (W.fnOf "coming" "coming" (cJ og) (af og) (ab og) .none kV50 dc50 pm50 an50 (.ref cc50) ct50),sl50⟩) (tc50:K.lookup cc50=some ⟨tx50,ty50,.fields tw50,tu50⟩) (tv50:tw50[11]?=some (.ref tT50)) (tn50:K.lookup tT50=none) (tr50:(PyProof.Rows.recsOf q).find? (fun e=>e.name == ("coming":Str))=some td50) (z0:zn K "isinstance") (z1:zn K "bool") (z2:zn K "int") (z3:zn K "len") (z4:zn K "tuple") (z5:zn K "all") (z6:zn K "zip") (z7:zn K "enumerate") (z8:zn K "abs") (z9:zn K "max") (z10:zn K "divmod") (z11:zn K "range") (z12:zn K "sorted") (z13:zn K "set") (z14:zn K "min") (tz1:zn K "latest") (tz2:zn K "through") (ga0_:W.nsIn K mainGlobals "NOUGHT"=some (some (.ref ga0))) (gl0_:K.lookup ga0=some ⟨.type "tuple",gd0,.seq #[.int 0 t0_0,.int 1 t0_1] gn0,gs0⟩)
  : ∃fd:FuncData,(∀(s:Shared) (v:Value),BindsTo s fd ⟨[v],[]⟩ [("_law_script",v)])/\Df K/\(∀x∈aZ,W.tabIn K x=none\/∃d,(PyProof.Rows.recsOf q).find? (fun e=>e.name == x)=some d)/\∀base:Heap,K.In base->base.Ns mainGlobals mg->nI K mg base->pZ l.prog w K mg base CX0 50 fa fd ["_law_script"] (eN K jz):=by
 obtain⟨f,oc,od,kV,dc,pm,an,cd,ct,sl,aL,lL,cL,kL⟩:=d49
 have e:=hfa.symm.trans (W.mg_of X G aL)
 cases e
 have hb:∀x∈Fh,mg x=none:=by
  intro x hx
  simp only[Fh,List.mem_cons,List.not_mem_nil,or_false] at hx
  rcases hx with rfl|rfl|rfl|rfl|rfl|rfl|rfl|rfl|rfl|rfl|rfl|rfl|rfl|rfl|rfl
  ·exact N0 X G z0
  ·exact N0 X G z1
  ·exact N0 X G z2
  ·exact N0 X G z3
  ·exact N0 X G z4
  ·exact N0 X G z5
  ·exact N0 X G z6
  ·exact N0 X G z7
  ·exact N0 X G z8
  ·exact N0 X G z9
  ·exact N0 X G z10
  ·exact N0 X G z11
  ·exact N0 X G z12
  ·exact N0 X G z13
  ·exact N0 X G z14
 have hgl:∀x v,glL.lookup x=some v->∃u y,mg x=some u/\RelV y u/\∀m H,R K m H v y:=by
  intro x v hx
  by_cases q0:x=("NOUGHT":Str)
  ·subst q0
   have e:v=a9:=by
    have:glL.lookup ("NOUGHT":Str)=some a9:=rfl
    rw[this] at hx;cases hx;rfl
   subst e
   exact⟨_,.ref ga0,W.mg_of X G ga0_,rfl,fun m H=>R_tup.mpr ⟨ga0,[.int 0,.int 1],rfl,.inr ⟨_,_,_,gl0_,rfl,rfl,(show 2<=sizeLine by decide),(.cons ⟨t0_0,rfl⟩ (.cons ⟨t0_1,rfl⟩ .nil))⟩,by simp only[Rs_cons',Rs_nil,R_int,and_self]⟩⟩
  exact absurd hx (by simp only[glL,List.lookup_cons,List.lookup_nil];simp only[beq_eq_false_iff_ne.mpr q0];exact fun z=>nomatch z)
 have t_coming:=Fb a50 l50 tc50 tv50
 have t_latest:=Aj tz1
 have t_through:=Aj tz2
 refine ⟨W.fnOf "law" "law" (cJ mW) (af mW) (ab mW) .none kV dc pm an cd ct,fun s v=>.of_eq rfl,?lk,?lq,fun base _ _ B=>?_⟩
 case lk =>
  refine Dn fun x hx=>?_
  simp only[aZ,List.mem_cons,List.not_mem_nil,or_false] at hx
  rcases hx with rfl|rfl|rfl
  ·refine .inr ⟨_,_,t_coming,tn50,fun y hy ne d e=>?_⟩
   simp only[aZ,List.mem_cons,List.not_mem_nil,or_false] at hy
   rcases hy with rfl|rfl|rfl
   ·exact ne rfl
   ·rw[t_latest] at e;cases e
   ·rw[t_through] at e;cases e
  ·exact .inl t_latest
  ·exact .inl t_through
 case lq =>
  intro x hx
  simp only[aZ,List.mem_cons,List.not_mem_nil,or_false] at hx
  rcases hx with rfl|rfl|rfl
  ·exact .inr ⟨_,tr50⟩
  ·exact .inl t_latest
  ·exact .inl t_through
 have G0:GOk l.prog w K mg base oi Γ:=⟨fun f x hf=>absurd hf (OW _),hb,hgl,Γm⟩
 have G1:GOk l.prog w K mg base f7 Γ:=G0.nx X G d0 uh wQ r_ vz (by walk_at "AR")
 have G2:GOk l.prog w K mg base ju Γ:=G1.nx X G d1 kG lP jK lE (by walk_at "AR")
 have G3:GOk l.prog w K mg base oB Γ:=G2.nx X G d2 nS qa mY pM (by walk_at "AR")
 have G4:GOk l.prog w K mg base AK Γ:=G3.nx X G d3 uB wX sE wc (by walk_at "AR")
 have G5:GOk l.prog w K mg base BZ Γ:=G4.nx X G d4 Dh EH Cr F7 (by walk_at "AR")
 have G6:GOk l.prog w K mg base xP Γ:=G5.nx X G d5 C5 Gf Ca F3 (by walk_at "AR")
 have G7:GOk l.prog w K mg base oK Γ:=G6.nx X G d6 A9 CP ya Cw (by walk_at "AR")
 have G8:GOk l.prog w K mg base mV Γ:=G7.nx X G d7 uL v6 si vS (by walk_at "AR")
 have G9:GOk l.prog w K mg base jC Γ:=G8.nx X G d8 sm vn pX tV (by walk_at "AR")
 have G10:GOk l.prog w K mg base nP Γ:=G9.nx X G d9 o8 pN m5 pS (by walk_at "AR")
 have G11:GOk l.prog w K mg base f8 Γ:=G10.nx X G d10 uI wl sh v5 (by walk_at "AR")
 have G12:GOk l.prog w K mg base fQ Γ:=G11.nx X G d11 kH mf jY lj (by walk_at "AR")
 have G13:GOk l.prog w K mg base fk Γ:=G12.nx X G d12 kW l_ jO lK (by walk_at "AR")
 have G14:GOk l.prog w K mg base vk Γ:=G13.nx X G d13 jP kC ji km (by walk_at "AR")
 have G15:GOk l.prog w K mg base qN Γ:=G14.nx X G d14 yv Bt wu Cl (by walk_at "AR")
 have G16:GOk l.prog w K mg base Cm Γ:=G15.nx X G d15 wf yY tZ yT (by walk_at "AR")
 have G17:GOk l.prog w K mg base oD Γ:=G16.nx X G d16 D0 E3 Ad Fd (by walk_at "AR")
 have G18:GOk l.prog w K mg base iO Γ:=G17.nx X G d17 u6 vG sP wR (by walk_at "AR")
 have G19:GOk l.prog w K mg base uA Γ:=G18.nx X G d18 nA oH lJ pC (by walk_at "AR")
 have G20:GOk l.prog w K mg base Bd Γ:=G19.nx X G d19 zC A5 wF AX (by walk_at "AR")
 have G21:GOk l.prog w K mg base vj Γ:=G20.nx X G d20 CV Gk As FV (by walk_at "AR")
 have G22:GOk l.prog w K mg base tJ Γ:=G21.nx X G d21 xV AN vJ Bp (by walk_at "AR")
 have G23:GOk l.prog w K mg base qJ Γ:=G22.nx X G d22 zR Cf ww BL (by walk_at "AR")
 have G24:GOk l.prog w K mg base uG Γ:=G23.nx X G d23 v9 zF uP yi (by walk_at "AR")
 have G25:GOk l.prog w K mg base xu Γ:=G24.nx X G d24 yf AL v8 BB (by walk_at "AR")
 have G26:GOk l.prog w K mg base qT Γ:=G25.nx X G d25 BS CO xW CC (by walk_at "AR")
 have G27:GOk l.prog w K mg base eG Γ:=G26.nx X G d26 we zD uY yp (by walk_at "AR")
 have G28:GOk l.prog w K mg base oV Γ:=G27.nx X G d27 jk jI iI jX (by walk_at "AR")
 have G29:GOk l.prog w K mg base tR Γ:=G28.nx X G d28 tD wT sI vT (by walk_at "AR")
 have G30:GOk l.prog w K mg base xR Γ:=G29.nx X G d29 zN A1 w4 Cp (by walk_at "AR")
 have G31:GOk l.prog w K mg base hJ Γ:=G30.nx X G d30 B5 DS zy CN (by walk_at "AR")
 have G32:GOk l.prog w K mg base o0 Γ:=G31.nx X G d31 lD nh ka mZ (by walk_at "AR")
 have G33:GOk l.prog w K mg base oP Γ:=G32.nx X G d32 tW vL sF wG (by walk_at "AR")
 have G34:GOk l.prog w K mg base mI Γ:=G33.nx X G d33 uD vQ rF vK (by walk_at "AR")
 have G35:GOk l.prog w K mg base jv Γ:=G34.nx X G d34 rZ t9 pD uO (by walk_at "AR")
 have G36:GOk l.prog w K mg base jB Γ:=G35.nx X G d35 oT qo nD qh (by walk_at "AR")
 have G37:GOk l.prog w K mg base mH Γ:=G36.nx X G d36 oM qd nq pO (by walk_at "AR")
 have G38:GOk l.prog w K mg base mL Γ:=G37.nx X G d37 rX tP qt tO (by walk_at "AR")
 have G39:GOk l.prog w K mg base kX Γ:=G38.nx X G d38 sR ub p9 ve (by walk_at "AR")
 have G40:GOk l.prog w K mg base k_ Γ:=G39.nx X G d39 qi rW nO sC (by walk_at "AR")
 have G41:GOk l.prog w K mg base mP Γ:=G40.nx X G d40 pP rQ oq se (by walk_at "AR")
 have G42:GOk l.prog w K mg base jt Γ:=G41.nx X G d41 sk tL qc tX (by walk_at "AR")
 have G43:GOk l.prog w K mg base j7 Γ:=G42.nx X G d42 oG qg na pW (by walk_at "AR")
 have G44:GOk l.prog w K mg base oA Γ:=G43.nx X G d43 qf sN oQ su (by walk_at "AR")
 have G45:GOk l.prog w K mg base n8 Γ:=G44.nx X G d44 uZ wg rC vN (by walk_at "AR")
 have G46:GOk l.prog w K mg base rA Γ:=G45.nx X G d45 uc vI rL wj (by walk_at "AR")
 have G47:GOk l.prog w K mg base g9 Γ:=G46.nx X G d46 vW xX uk yC (by walk_at "AR")
 have G48:GOk l.prog w K mg base iQ Γ:=G47.nx X G d47 lg nk kw nj (by walk_at "AR")
 have G49:GOk l.prog w K mg base Ex Γ:=G48.nx X G d48 nB n5 mo oN (by walk_at "AR")
 exact CL (qual:="law") (Au (st:=mW) lL cL kL) Fn rfl rfl G' G49 (fun as st Q=>C_) (fun as st Q=>HK)
end My
namespace PySem.W.Fast
def tw16645661774631568248:=Nat
def tw16428152085165690243:=Nat
def tw14853706091034675940:=Nat
def tw3883017101881394377:=Nat
def tw5302004691660745287:=Nat
def tw9365874401380327900:=Nat
def tw13208205304778179607:=Nat
def tw11485238343679847483:=Nat
def tw15964261202945737695:=Nat
def tw16540927122372537050:=Nat
def tw10006438289892021990:=Nat
def tw8382186428458278141:=Nat
def tw16992051370104761184:=Nat
def tw6991359348576278816:=Nat
def tw11015782202187475594:=Nat
def tw5614523692474460056:=Nat
def tw12240035374900878448:=Nat
def tw13628345951859679825:=Nat
def tw18156090565300896372:=Nat
def tw13665668581640416032:=Nat
def tw7958991517697062209:=Nat
def tw11560166479569460332:=Nat
def tw2050595981470168779:=Nat
def tw12281816399544737955:=Nat
def tw824310433432020351:=Nat
def tw16300118437281986244:=Nat
def tw10106645515145146149:=Nat
def tw14016467176037382464:=Nat
def tw11346813423309195284:=Nat
def tw7791474151522099123:=Nat
def tw17816639337256355527:=Nat
def tw13492283037173153376:=Nat
def tw5229880856664464345:=Nat
def tw810392759700791590:=Nat
def tw7790683616578967474:=Nat
def tw1936281897223295020:=Nat
def tw14145492720981879193:=Nat
def tw15448653583024968303:=Nat
def tw5864499912448317938:=Nat
def tw5693331187298694038:=Nat
def tw10715853504723825426:=Nat
def tw15331784502745394149:=Nat
def tw17185159107632218456:=Nat
def tw11469984302036765268:=Nat
def tw14999296147458905244:=Nat
def tw9788754299397234159:=Nat
def tw9914288919912973649:=Nat
def tw907851404425516024:=Nat
def tw2269733298378610294:=Nat
def tw9015935621857049524:=Nat
def tw2581852714549792731:=Nat
def tw13812043718508582861:=Nat
def tw14689483826184257668:=Nat
def tw1434553931677240346:=Nat
def tw10064155702069358381:=Nat
def tw8412165323740811132:=Nat
def tw10041700753673394366:=Nat
def tw11617362898694987578:=Nat
def tw810792570393688084:=Nat
def tw8066138811800915388:=Nat
def tw2781338517183872515:=Nat
def tw35309575715397773:=Nat
def tw13203149729279522306:=Nat
def tw5926096818513474458:=Nat
def tw11664046994807043785:=Nat
def tw3774742787812625739:=Nat
def tw18029704766476903013:=Nat
def tw8466421226507252440:=Nat
def tw42513440176309519:=Nat
def tw13146339330908255638:=Nat
def tw658762762149436692:=Nat
def tw7851590885963964827:=Nat
def tw16885038082647988998:=Nat
def tw8549458036540903792:=Nat
def tw1202872421289053645:=Nat
def tw12299080905034150741:=Nat
def tw943700328035108375:=Nat
def tw17295397837623561935:=Nat
def tw2272801867320623004:=Nat
def tw13164929274246948832:=Nat
def tw16953398805341629553:=Nat
def tw8122102514081283219:=Nat
def tw17942161333678476279:=Nat
def tw834583002733779815:=Nat
def tw1155184844819403739:=Nat
def tw2590848783454902176:=Nat
def tw3553721403450112538:=Nat
def tw17043110964838236422:=Nat
def tw14153778730191734951:=Nat
def tw2689089689347129897:=Nat
def tw11065907541507651772:=Nat
def tw16817985043129827059:=Nat
def tw11427593305684783865:=Nat
def tw14524320381227197826:=Nat
def tw528607003759859774:=Nat
def tw7187791912405256284:=Nat
def tw17034459460893251344:=Nat
def tw15579377923216098986:=Nat
def tw2379532843642188018:=Nat
def tw4679260127957742472:=Nat
def tw17466013105973459770:=Nat
def tw8047678670648250232:=Nat
def tw3407119568249026688:=Nat
def tw11334975666536302769:=Nat
def tw5982279739854871657:=Nat
def tw17776151978366698746:=Nat
def tw11980818138456477285:=Nat
def tw15276373866430095992:=Nat
def tw12040367420157093089:=Nat
def tw17899779915226364826:=Nat
def tw11650630201686906533:=Nat
def tw10443123812189365566:=Nat
def tw12712429860927612234:=Nat
def tw9487740863600999942:=Nat
def tw3214535078579145762:=Nat
def tw2547825192115203622:=Nat
def tw6481155857533857753:=Nat
def tw13449361414241801433:=Nat
def tw4844911801427158115:=Nat
def tw15404929476497290621:=Nat
def tw2676062238427813223:=Nat
def tw11596585247774550296:=Nat
def tw472165625258750113:=Nat
def tw25713672713190963:=Nat
def tw9702171133273477816:=Nat
def tw12372723552885374980:=Nat
def tw14223148167836760037:=Nat
def tw10405327531809390968:=Nat
def tw1237851854909518809:=Nat
def tw5921784067027064147:=Nat
def tw6241802439681133059:=Nat
def tw3734368912438631604:=Nat
def tw871531586661485556:=Nat
def tw14325858794587078288:=Nat
def tw13619337611040291508:=Nat
def tw2795928852933460505:=Nat
def tw1843086470875101808:=Nat
def tw17948408794278558564:=Nat
def tw8663968187956415976:=Nat
def tw435432684661140031:=Nat
def tw1911447202401207007:=Nat
def tw4125911760194181786:=Nat
def tw15860623913032864474:=Nat
def tw14634523983218561350:=Nat
def tw14270143790761789585:=Nat
def tw6031506235548410420:=Nat
def tw4130379771500305848:=Nat
def tw17614171386380879272:=Nat
def tw11275404254427583496:=Nat
def tw8400060698877153277:=Nat
def tw4943941615999069669:=Nat
def tw6124806305858878919:=Nat
def tw9128587271868158832:=Nat
def tw15312344269585052289:=Nat
def tw4919863474507671232:=Nat
def tw9919439855653157897:=Nat
def tw9749732698649434390:=Nat
def tw9702705573246723990:=Nat
def tw9161216555257778556:=Nat
def tw9129046808310937988:=Nat
def tw8777685120512639628:=Nat
def tw8670290268999926724:=Nat
def tw8635318797195018206:=Nat
def tw746476521399261360:=Nat
def tw6462996409408733439:=Nat
def tw5944087926486609699:=Nat
def tw4918743337118595391:=Nat
def tw4009406537753379935:=Nat
def tw3780734973780150009:=Nat
def tw3597847967166899130:=Nat
def tw3508614696973498215:=Nat
def tw3395399563301921480:=Nat
def tw3040553168603177553:=Nat
def tw2972665306065999622:=Nat
def tw2756728321995056059:=Nat
def tw2430473213436678527:=Nat
def tw2323553916332419163:=Nat
def tw213419798613738616:=Nat
def tw2019976934502648281:=Nat
def tw1970661023636858142:=Nat
def tw18200104727320930171:=Nat
def tw18024213092132935920:=Nat
def tw17923825108454827910:=Nat
def tw17802138955835913783:=Nat
def tw17654862056584282415:=Nat
def tw16955489224568746520:=Nat
def tw16612376397636814972:=Nat
def tw1597115850892224058:=Nat
def tw15968166340481226874:=Nat
def tw15507052994705008948:=Nat
def tw14548907694056550468:=Nat
def tw1319528775173184587:=Nat
def tw1299844909240823302:=Nat
def tw12684201400394936981:=Nat
def tw1266705510635134412:=Nat
def tw12365411137683270951:=Nat
def tw11926360731011272442:=Nat
def tw11234845738052329845:=Nat
def tw11092742734335950105:=Nat
def tw10501077974064996496:=Nat
def tw9857673156114145070:=Nat
def tw9358814850231177407:=Nat
def tw9247795328190439539:=Nat
def tw8493336533213378752:=Nat
def tw6728931433919024673:=Nat
def tw13787458733090083441:=Nat
def tw10057467000418967944:=Nat
def tw8173338459141821902:=Nat
def tw7763339349625258735:=Nat
def tw7126022154502975658:=Nat
def tw6741902061274650930:=Nat
def tw6404405846187515352:=Nat
def tw6077466181336866206:=Nat
def tw1992778342645522592:=Nat
def tw17876295871369035717:=Nat
def tw6136412021470607058:=Nat
def tw8642322740320969209:=Nat
def tw5429268546235057411:=Nat
def tw17256592486163688809:=Nat
def tw18302629799637431649:=Nat
def tw11216148996880582383:=Nat
def tw12994579396113165539:=Nat
def tw12115222660956235557:=Nat
def tw10862038937042860733:=Nat
def tw539426675089702696:=Nat
def tw11687002008509457761:=Nat
def tw4613422737164082731:=Nat
def tw2662088281607126043:=Nat
def tw15243814933238477564:=Nat
def tw15237421651299383323:=Nat
def tw2147843378745396752:=Nat
def tw9450229184364720458:=Nat
def tw8703272385580542761:=Nat
def tw435470409717109519:=Nat
def tw3633300696974130015:=Nat
def tw14618924543580502716:=Nat
def tw5610647145014376057:=Nat
def tw3839726436944283386:=Nat
def tw3234740711277154690:=Nat
def tw12859678147380763589:=Nat
def tw12061426770302537511:=Nat
def tw5976815372473739954:=Nat
def tw16749815594694100564:=Nat
def tw15911812029027913350:=Nat
def tw14098998792163520548:=Nat
def tw8640773553006105501:=Nat
def tw8219699987296813266:=Nat
def tw4332916108758646027:=Nat
def tw2331317268319438975:=Nat
def tw1137217994635206374:=Nat
def tw11064923481668362516:=Nat
def tw6628415138799505902:=Nat
def tw4389189261962474769:=Nat
def tw17044392333647385206:=Nat
def tw8917238852507007953:=Nat
def tw6951228162369804701:=Nat
def tw17124754356705188007:=Nat
def tw1537385717452447889:=Nat
def tw12272025657360235273:=Nat
def tw14169309456823125220:=Nat
def tw8528213079922558394:=Nat
def tw5682794805353364437:=Nat
def tw4954204041170757796:=Nat
def tw1767982235600153510:=Nat
def tw15247115963272186887:=Nat
def tw14453836217104133720:=Nat
def tw14041299865060654192:=Nat
def tw12754603837906416123:=Nat
def tw5888518110257918728:=Nat
def tw14237893014144226282:=Nat
def tw1232063181714781561:=Nat
def tw4236773590397799850:=Nat
def tw16229766022166528292:=Nat
def tw7920544398008962380:=Nat
def tw7687546648103617684:=Nat
def tw7212235489784950393:=Nat
def tw6389159082686541847:=Nat
def tw5743742995861430955:=Nat
def tw4566694462009473046:=Nat
def tw4320439095876555590:=Nat
def tw2722527281792569436:=Nat
def tw18148012488974812161:=Nat
def tw1764530577132334636:=Nat
def tw17368742508281912474:=Nat
def tw17264139835401771007:=Nat
def tw13177782108359326776:=Nat
def tw12110323422539728701:=Nat
def tw11874287695302427006:=Nat
def tw1498914291828523522:=Nat
def tw9943064683621529041:=Nat
def tw8076833090017072075:=Nat
def tw5703896341484515543:=Nat
def tw3925920076177820521:=Nat
def tw15782166000965028409:=Nat
def tw1482207624205324261:=Nat
def tw10002379563828717269:=Nat
def tw4556996640751731056:=Nat
def tw15292466530508618750:=Nat
def tw10511279157369638613:=Nat
def tw4150620113165858838:=Nat
end PySem.W.Fast
open PySem PySem.W PyProof.Rows
local macro_rules | `(tactic| walk_at "DI")=>`(tactic| (refine' FW.DI_mk ?a ?l ?c ?k;(case a=>k_is);(case l=>k_is);(case c=>k_is);(case k=>k_is)))
set_option maxRecDepth 100000 in
set_option maxHeartbeats 0 in
theorem PySem.Challenge.cw_hourstairs_k32_whole_stairs_let_wait_holds : PySem.Challenge.rw_hourstairs_k32_whole_stairs_let_wait.Holds := by
 w_on;o_law;k_head;(case hw=>w_witness2)
 k_fill
 refine FW.walkF (l:=PySem.Challenge.rw_hourstairs_k32_whole_stairs_let_wait) (k:=50) (x:="_law_script") rfl rfl ⟨rfl,by decide,by decide,rfl⟩ (fun w h Y=>PySem.W.km_in_of Y) ?F
 case F =>
  intro w mg fa h KX G hmg
  refine' My.all_mk KX G hmg ?d0 ?d1 ?d2 ?d3 ?d4 ?d5 ?d6 ?d7 ?d8 ?d9 ?d10 ?d11 ?d12 ?d13 ?d14 ?d15 ?d16 ?d17 ?d18 ?d19 ?d20 ?d21 ?d22 ?d23 ?d24 ?d25 ?d26 ?d27 ?d28 ?d29 ?d30 ?d31 ?d32 ?d33 ?d34 ?d35 ?d36 ?d37 ?d38 ?d39 ?d40 ?d41 ?d42 ?d43 ?d44 ?d45 ?d46 ?d47 ?d48 ?d49 ?a50 ?l50 ?tc50 ?tv50 ?tn50 ?tr50 ?z0 ?z1 ?z2 ?z3 ?z4 ?z5 ?z6 ?z7 ?z8 ?z9 ?z10 ?z11 ?z12 ?z13 ?z14 ?tz1 ?tz2 ?ga0_ ?gl0_
  all_goals first|delta My.zn|skip
  (case d0=>walk_at "DI")
  (case d1=>walk_at "DI")
  (case d2=>walk_at "DI")
  (case d3=>walk_at "DI")
  (case d4=>walk_at "DI")
  (case d5=>walk_at "DI")
  (case d6=>walk_at "DI")
  (case d7=>walk_at "DI")
  (case d8=>walk_at "DI")
  (case d9=>walk_at "DI")
  (case d10=>walk_at "DI")
  (case d11=>walk_at "DI")
  (case d12=>walk_at "DI")
  (case d13=>walk_at "DI")
  (case d14=>walk_at "DI")
  (case d15=>walk_at "DI")
  (case d16=>walk_at "DI")
  (case d17=>walk_at "DI")
  (case d18=>walk_at "DI")
  (case d19=>walk_at "DI")
  (case d20=>walk_at "DI")
  (case d21=>walk_at "DI")
  (case d22=>walk_at "DI")
  (case d23=>walk_at "DI")
  (case d24=>walk_at "DI")
  (case d25=>walk_at "DI")
  (case d26=>walk_at "DI")
  (case d27=>walk_at "DI")
  (case d28=>walk_at "DI")
  (case d29=>walk_at "DI")
  (case d30=>walk_at "DI")
  (case d31=>walk_at "DI")
  (case d32=>walk_at "DI")
  (case d33=>walk_at "DI")
  (case d34=>walk_at "DI")
  (case d35=>walk_at "DI")
  (case d36=>walk_at "DI")
  (case d37=>walk_at "DI")
  (case d38=>walk_at "DI")
  (case d39=>walk_at "DI")
  (case d40=>walk_at "DI")
  (case d41=>walk_at "DI")
  (case d42=>walk_at "DI")
  (case d43=>walk_at "DI")
  (case d44=>walk_at "DI")
  (case d45=>walk_at "DI")
  (case d46=>walk_at "DI")
  (case d47=>walk_at "DI")
  (case d48=>walk_at "DI")
  (case d49=>walk_at "DI")
  (case a50=>k_is)
  (case l50=>k_is)
  (case tc50=>k_is)
  (case tv50=>rfl)
  (case tn50=>rfl)
  (case tr50=>rfl)
  (case z0=>k_is)
  (case z1=>k_is)
  (case z2=>k_is)
  (case z3=>k_is)
  (case z4=>k_is)
  (case z5=>k_is)
  (case z6=>k_is)
  (case z7=>k_is)
  (case z8=>k_is)
  (case z9=>k_is)
  (case z10=>k_is)
  (case z11=>k_is)
  (case z12=>k_is)
  (case z13=>k_is)
  (case z14=>k_is)
  (case tz1=>k_is)
  (case tz2=>k_is)
  (case ga0_=>k_is)
  (case gl0_=>k_is)
