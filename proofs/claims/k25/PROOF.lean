import PyProof.Rows.All
import Wide.All
import OpenK.AllK
import Wide.FinOn
import Lean
import PyProof.EqAt
import PyProof.EqKinds
import PyProof.TupleCall
import PyProof.FactsAll.set
import PyProof.DictWalks
import PyProof.CollectWalk
import PyProof.Rows.SetFrom
import PyProof.Rows.SortWalk
import PyProof.Rows.SortStr
import PyProof.Rows.MinMaxN
import PyProof.StrCalls2
import PyProof.FString5
import KE.LcSums
import KE.KDictSum
import PyProof.DictItems
import PyProof.DictCompW
import PyProof.NeKinds
import KE.KEqDict
import KE.KPairComp
import KE.KDictOf
import PyProof.AttrMissHeap
import PyProof.RaisesMany
import PyProof.Rows.CatchOwn
import PyProof.Rows.TopTwo
import PyProof.IsInstanceT
import OpenK.KOwn
import PyProof.ExcBaseAll.ValueError
import PyProof.ExcAttrAll.ValueError
import PyProof.IsiTupleAll
import OpenK.KMore
import PySem.Challenge.RW_hourstairs_k25_texts_there_and_back
open PySem PySem.Spec
open PyProof.Rows hiding K st lo ad
set_option Elab.async false
set_option linter.all false
set_option maxRecDepth 100000
set_option maxHeartbeats 4000000
set_option genSizeOf false
set_option compiler.extract_closed false
set_option genSizeOfSpec false
abbrev P2:=@PySem.Heap.get?_push_of_some
abbrev P4:=@PySem.wpAny_bind
abbrev P5:=@Bool.false_ne_true
abbrev P6:=@Nat.le_refl
abbrev P7:=@Nat.lt_of_lt_of_le
abbrev P8:=@List.getElem?_eq_some_iff
abbrev P9:=@List.getElem?_eq_getElem
abbrev P_:=@List.mem_of_getElem?
abbrev QA:=@if_pos
abbrev QB:=@Bool.and_eq_true
abbrev QC:=@if_neg
abbrev QD:=@List.mem_cons_of_mem
abbrev QE:=@PySem.wpAny_pure
abbrev QF:=@PySem.Heap.lt_size
abbrev QG:=@PySem.Heap.get?_push_size
abbrev QH:=@List.nodup_cons
abbrev QI:=@List.mem_singleton
abbrev QJ:=@decide_eq_false
abbrev QK:=@List.getElem?_map
abbrev QL:=@List.mem_cons_self
abbrev QM:=@decide_eq_true
abbrev QN:=@List.map_cons
abbrev QO:=@List.length_map
abbrev QP:=@Nat.le_trans
abbrev QQ:=@List.mem_map
abbrev QR:=@List.size_toArray
abbrev QS:=@List.length_append
abbrev QT:=@List.getElem?_append_left
abbrev QU:=@Nat.ne_of_lt
abbrev QV:=@List.getElem?_append_right
abbrev QW:=@Int.natCast_mul
abbrev QX:=@List.mem_append_right
abbrev QY:=@List.append_assoc
abbrev QZ:=@List.mem_cons
abbrev Q0:=@congrArg
abbrev Q1:=@List.filterMap_cons
abbrev Q2:=@Option.some.inj
abbrev Q3:=@Nat.lt_of_le_of_lt
abbrev Q4:=@PySem.mem_of_lookup
abbrev Q5:=@List.mem_append
abbrev Q6:=@List.getElem?_set_self
abbrev Q7:=@List.getElem?_set_ne
abbrev Q8:=@Nat.zero_le
abbrev Q9:=@Option.map_eq_some_iff
abbrev Q_:=@Nat.le_of_lt
abbrev RA:=@PyProof.Rows.callWith_type1
abbrev RB:=@of_decide_eq_true
abbrev RC:=@PySem.StrLaws.strSub_toList
abbrev RD:=@PySem.F.plainAttrs_list
abbrev RE:=@Nat.pow_le_pow_right
abbrev RG:=@List.any_cons
abbrev RI:=@List.length_take
abbrev RJ:=@PySem.W.mg_none_of
abbrev RK:=@List.replicate_succ
abbrev RL:=@Int.toNat_of_nonneg
abbrev RM:=@Nat.mul_pos
abbrev RN:=@List.all_cons
abbrev RO:=@PySem.Heap.get?_update_other
abbrev RP:=@Array.getElem?_eq_some_iff
abbrev RQ:=@Nat.lt_trans
abbrev RR:=@Rat.le_of_lt
abbrev RS:=@Nat.not_lt_zero
abbrev RT:=@PyProof.Rows.slot_tuple_getitem
abbrev RV:=@List.drop_eq_getElem_cons
abbrev RW:=@List.getElem?_eq_none
abbrev RX:=@Nat.lt_irrefl
abbrev RY:=@List.mem_append_left
abbrev RZ:=@List.length_eq_zero_iff
abbrev R1:=@List.getLast?_cons_cons
abbrev R3:=@Bool.or_eq_true
abbrev R4:=@PySem.W.kia_one
abbrev R5:=@List.length_drop
abbrev R6:=@List.length_cons
abbrev R7:=@List.mem_filterMap
abbrev R8:=@List.drop_zero
abbrev R9:=@PySem.F.slot_tuple_iterator_next
abbrev R_:=@List.getD_eq_getElem?_getD
abbrev SA:=@Rat.not_lt
abbrev SB:=@PySem.Heap.get?_update_self
abbrev SD:=@List.append_nil
abbrev SE:=@List.flatten_cons
abbrev SF:=@List.map_nil
abbrev SG:=@List.getElem?_of_mem
abbrev SH:=@List.getElem?_take_of_lt
abbrev SI:=@List.getElem?_range
abbrev SJ:=@List.take_length
abbrev SK:=@PySem.Heap.size_push
abbrev SL:=@List.getElem?_cons_succ
abbrev SN:=@List.all_eq_true
abbrev SO:=@List.map_map
abbrev SQ:=@PySem.F.plainAttrs_str
abbrev SR:=@Bool.eq_iff_iff
abbrev SS:=@List.forIn_cons
abbrev SU:=@List.set_append_right
abbrev SV:=@List.nodup_append
abbrev SW:=@Bool.eq_false_iff
abbrev SX:=@Rat.le_refl
abbrev SY:=@Nat.mul_le_mul_right
abbrev SZ:=@List.mem_of_mem_take
abbrev S0:=@List.prefix_refl
abbrev S1:=@Nat.lt_succ_self
abbrev S2:=@Nat.zero_lt_succ
abbrev S3:=@Int.natCast_ediv
abbrev S4:=@PySem.wpAny_holding
abbrev S5:=@PySem.F.args_tuple_add_2
abbrev S6:=@PyProof.noPylong_of_log2
abbrev S7:=@List.length_filterMap_le
abbrev S8:=@Nat.gcd_pos_of_pos_right
abbrev S9:=@PySem.StrLaws.join_split
abbrev S_:=@List.foldl_cons
abbrev TC:=@List.map_append
abbrev TF:=@Option.map_some
abbrev TH:=@Nat.one_lt_two_pow
abbrev TJ:=@List.getElem?_drop
abbrev TK:=@PySem.F.entry_tuple_add
abbrev TL:=@PySem.StrLaws.found_one
abbrev TM:=@Rat.mul_pos
abbrev TN:=@Nat.ne_of_gt
abbrev TQ:=@PySem.F.slot_tuple_add
abbrev TR:=@Nat.gcd_comm
abbrev TU:=@List.take_of_length_le
abbrev TV:=@Rat.natCast_lt_natCast
abbrev TY:=@Nat.le_add_right
abbrev TZ:=@beq_iff_eq
abbrev T1:=@List.drop_length
abbrev T2:=@PySem.W.mg_of
abbrev T3:=@List.of_mem_zip
abbrev T4:=@List.nil_append
abbrev T5:=@Int.natCast_add
abbrev T6:=@PySem.F.slot_zip_next
abbrev T7:=@Int.natCast_sub
abbrev T8:=@beq_eq_false_iff_ne
abbrev T9:=@Array.toList_append
abbrev T_:=@Nat.mul_comm
abbrev UA:=@Nat.pow_succ
abbrev UB:=@Bool.false_and
abbrev UC:=@List.prefix_append
abbrev UD:=@PySem.F.args_str_split_2
abbrev UE:=@Int.natAbs_natCast
abbrev UF:=@Rat.div_lt_iff
abbrev UG:=@Nat.sub_add_cancel
abbrev UH:=@Rat.not_le
abbrev UI:=@Nat.add_sub_cancel
abbrev UJ:=@Int.toNat_natCast
abbrev UK:=@Nat.log2_lt
abbrev UL:=@PySem.F.entry_str_split
abbrev UM:=@List.take_add_one
abbrev UN:=@PySem.W.cellsFrom_some
abbrev UO:=@PySem.F.slot_str_split
abbrev UP:=@List.getElem_mem
abbrev UQ:=@Nat.succ_ne_zero
abbrev UR:=@Nat.sub_self
abbrev US:=@Nat.le_of_eq
abbrev UT:=@Nat.not_lt
abbrev UU:=@List.all_map
abbrev UV:=@List.length_set
abbrev UW:=@Int.natCast_pow
abbrev UX:=@Int.ediv_nonneg
abbrev UY:=@List.head?_drop
abbrev UZ:=@List.nodup_nil
abbrev U1:=@List.take_left
abbrev U2:=@List.tail_drop
abbrev U3:=@Nat.pow_pos
abbrev U4:=@PySem.W.callWith_K
abbrev U5:=@Nat.add_comm
abbrev U6:=@Int.le_of_lt
abbrev U7:=@Nat.zero_mul
abbrev U8:=@PySem.W.kitx_list
abbrev U9:=@PySem.W.kitx_dict
abbrev U_:=@Iff.rfl
abbrev VA:=@Nat.mod_lt
abbrev VB:=@Nat.sub_le
namespace L2
noncomputable abbrev Key:=Sum Int Str
noncomputable def K7:Key->Value->Bool
 | .inl k,v=>Value.isInt k v
 | .inr x,v=>Value.isStrOf x v
noncomputable def Pb (w:World):Key->Int
 | .inl k=>hashInt k
 | .inr x=>hashStr w x
theorem bO:∀ {k:Key}{v:Value},K7 k v=true->(∃i t,k=Sum.inl i/\v=Value.int i t)\/(∃x t,k=Sum.inr x/\v=Value.str x t)
 | .inl i,v,h=>by obtain⟨t,e⟩:=Value.isInt_shape (k:=i) (v:=v) h;exact .inl ⟨i,t,rfl,e⟩
 | .inr x,v,h=>by obtain⟨t,e⟩:=Value.isStrOf_shape (x:=x) (v:=v) h;exact .inr ⟨x,t,rfl,e⟩
theorem Lg (a b:Int):decide ((Sum.inl a:Key)=Sum.inl b)=(a == b):=by
 by_cases e:a=b
 ·subst e;simp
 ·have h:¬(Sum.inl a:Key)=Sum.inl b:=fun q=>e (Sum.inl.inj q);rw[QJ h];exact(beq_eq_false_iff_ne.mpr e).symm
theorem Md (a b:Str):decide ((Sum.inr a:Key)=Sum.inr b)=decide (a=b):=by
 by_cases e:a=b
 ·subst e;simp
 ·have h:¬(Sum.inr a:Key)=Sum.inr b:=fun q=>e (Sum.inr.inj q);rw[QJ h,QJ e]
theorem MI (a:Int)(b:Str):decide ((Sum.inl a:Key)=Sum.inr b)=false:=QJ (fun q=>nomatch q)
theorem LL (a:Str)(b:Int):decide ((Sum.inr a:Key)=Sum.inl b)=false:=QJ (fun q=>nomatch q)
noncomputable def vM (prog:Program)(w:World):PySem.KeyKind prog w Key where
 is:=K7
 hash:=Pb w
 inj:=fun v a b ha hb=>by
  rcases bO ha with⟨i,t,rfl,rfl⟩|⟨x,t,rfl,rfl⟩
  ·rcases bO hb with⟨j,u,rfl,e⟩|⟨y,u,rfl,e⟩
   ·injection e with e1 _;rw[e1]
   ·exact nomatch e
  ·rcases bO hb with⟨j,u,rfl,e⟩|⟨y,u,rfl,e⟩
   ·exact nomatch e
   ·injection e with e1 _;rw[e1]
 byValue:=fun k v h=>by rcases bO h with⟨i,t,rfl,rfl⟩|⟨x,t,rfl,rfl⟩ <;> rfl
 pyHash:=fun hv h=>by
  rcases bO hv with⟨i,t,rfl,rfl⟩|⟨x,t,rfl,rfl⟩
  ·exact wpAny_pyHash_int h
  ·exact wpAny_pyHash_str h
 eqBool:=fun hu hv h=>by
  rcases bO hu with⟨i,t,rfl,rfl⟩|⟨x,t,rfl,rfl⟩
  ·rcases bO hv with⟨j,u,rfl,rfl⟩|⟨y,u,rfl,rfl⟩
   ·rw[Lg] at h;exact wpAny_eqBool_int h
   ·rw[MI] at h;exact SeqAt.EqAt.int_str i t y u _ _ _ _ h
  ·rcases bO hv with⟨j,u,rfl,rfl⟩|⟨y,u,rfl,rfl⟩
   ·rw[LL] at h;exact SeqAt.EqAt.str_int x t j u _ _ _ _ h
   ·rw[Md] at h;exact wpAny_eqBool_str h
 «strs»:=fun k x t v h=>by
  rcases bO h with⟨i,u,rfl,e⟩|⟨y,u,rfl,e⟩
  ·exact nomatch e
  ·injection e with e1 _
   subst e1;cases v <;> rfl
end L2
namespace L2
inductive V where
 | non|bl (b:Bool)|int (i:Int)|str (x:Str)|byt (b:Array UInt8)|flt (b:UInt64)|ref (a:Addr)|ty (n:String)
 deriving DecidableEq
noncomputable def RelV:V->Value->Prop
 | .non,u=>u=Value.none
 | .bl b,u=>u=Value.bool b
 | .int i,u=>∃t,u=Value.int i t
 | .str x,u=>∃t,u=Value.str x t
 | .byt b,u=>∃t,u=Value.bytes b t
 | .flt b,u=>∃t,u=Value.float b t
 | .ref a,u=>u=Value.ref a
 | .ty n,u=>u=Value.type n
noncomputable abbrev Vals:List V->List Value->Prop:=Paired RelV
theorem Vals.length (r:Vals xs us):xs.length=us.length:=Paired.length r
theorem Vals.get:∀ {xs:List V}{us:List Value}{i:Nat}{x:V},Vals xs us->xs[i]?=some x->∃u,us[i]?=some u/\RelV x u
 | _,_,_,_,.nil,e=>by simp at e
 | _,_,0,_,.cons r _,e=>by simp at e;subst e;exact⟨_,rfl,r⟩
 | _,_,i+1,x,.cons _ t,e=>by obtain⟨u,h1,h2⟩:=Vals.get (i:=i) (x:=x) t (by simpa using e);exact⟨u,by simpa using h1,h2⟩
theorem Vals.set (r:RelV x u):∀ {xs:List V}{us:List Value} (i:Nat),Vals xs us->Vals (xs.set i x) (us.set i u)
 | _,_,_,.nil=>.nil
 | _,_,0,.cons _ t=>.cons r t
 | _,_,i+1,.cons q t=>.cons q (Vals.set r i t)
theorem Vals.append:∀ {xs ys:List V}{us ws:List Value},Vals xs us->Vals ys ws->Vals (xs++ys) (us++ws)
 | _,_,_,_,.nil,s=>s
 | _,_,_,_,.cons r t,s=>.cons r (Vals.append t s)
theorem Vals.take:∀ {xs:List V}{us:List Value} (n:Nat),Vals xs us->Vals (xs.take n) (us.take n)
 | _,_,0,_=>.nil
 | _,_,_+1,.nil=>.nil
 | _,_,n+1,.cons r t=>.cons r (Vals.take n t)
theorem Vals.drop:∀ {xs:List V}{us:List Value} (n:Nat),Vals xs us->Vals (xs.drop n) (us.drop n)
 | _,_,0,r=>r
 | _,_,_+1,.nil=>.nil
 | _,_,n+1,.cons _ t=>Vals.drop n t
noncomputable def MD:Option V->Option Value->Prop
 | some v,some u=>RelV v u
 | none,none=>True
 | _,_=>False
noncomputable def KV {κ:Type}:List (κ × V)->List (κ × Value)->Prop:=Paired fun (p:κ × V) (q:κ × Value)=>p.1=q.1/\RelV p.2 q.2
noncomputable def kV:Key->V
 | .inl i=>.int i
 | .inr x=>.str x
set_option genInjectivity false
inductive HO where
 | lst (xs:List V)
 | tup (xs:List V)
 | dK (kvs:List (Key × V))|dT (kvs:List (List Key × V))
 | set (S:Int->Bool) (n:Nat)
 | ins (C dx:Addr) (fs:List (Str × V))
 | own (x:Addr)
 | xd (fs:List (Str × V))
 | met (f x:Addr)
 | rng (lo hi:Int)
 | frz (o:Obj) (u:HO)
 | tbl (ps:Array Value)
 | ext (φ:Heap->Prop)
noncomputable abbrev Hp:=Addr->Option HO
noncomputable def upd (H:Hp)(a:Addr)(o:HO):Hp:=fun b=>if b=a then some o else H b
theorem bY:upd H a o a=some o:=by unfold upd;rw[QA rfl]
theorem ak {a b:Addr}(h:b≠a):upd H a o b=H b:=by unfold upd;rw[QC h]
theorem aI {H:Hp}(h:H a=some o)(h':H b=none):a≠b:=by intro e;subst e;rw[h] at h';cases h'
section
variable (P:Program) (w:World)
noncomputable def ObjOk (H:Hp)(h:Heap)(a:Addr):HO->Prop
 | .lst xs=>xs.length<=sizeLine/\∃(its:List Value) (n:Nat),Vals xs its/\h.get? a=some { cls:=.type "list",data:=.seq its.toArray n }
 | .tup xs=>xs.length<=sizeLine/\∃its:List Value,Vals xs its/\IsTup h a its.toArray
 | .dK kvs=>kvs.length<=sizeLine/\(a == sysModules)=false/\∃vs,KV kvs vs/\h.DictOf (vM P w) a vs
 | .dT kvs=>kvs.length<=sizeLine/\(a == sysModules)=false/\∃xs:List (List Key × Addr × Value),
   Paired (fun (p:List Key × V) (q:List Key × Addr × Value)=>p.1=q.1/\H q.2.1=some (.tup (p.1.map kV))/\RelV p.2 q.2.2) kvs xs /\
   ∃o es ep,h.get? a=some o/\o.ExactDict/\o.data=.dict es ep/\es.toList=xs.map (entryOfKey (tupleKind (vM P w)))/\(xs.map (·.1)).Nodup
 | .set S n=>h.SetOf (intKind P w) a S n
 | .ins C dx fs=>H dx=some (.own a)/\fs.length<=1000/\dx≠a/\h.get? a=some (W.instObj C dx) /\
   ∃mA,h.Ns1 dx mA/\(∀f,MD (fs.lookup f) (mA f))/\PySem.Within mA (fs.map (·.1))
 | .own _=>∃o,h.get? a=some o
 | .xd fs=>∃mA,h.Ns1 a mA/\∀f,MD (fs.lookup f) (mA f)
 | .rng lo hi=>∃t u v,h.get? a=some { cls:=.type "range",data:=.fields #[.int lo t,.int hi u,.int 1 v] }
 | .frz o u=>h.get? a=some o/\ObjOk H h a u
 | .tbl ps=>h.get? a=some { cls:=.none,data:=.fields ps }
 | .met f x=>h.get? a=some (W.methodObj (.ref f) (.ref x))
 | .ext φ=>φ h/\(∃o,h.get? a=some o)/\∀h1 h2:Heap,φ h1->(∀o,h1.get? a=some o->h2.get? a=some o)->φ h2
def HOk (H:Hp)(h:Heap):Prop:=∀a o,H a=some o->ObjOk P w H h a o
end
section
variable {P:Program}{w:World}{H H':Hp}{h h':Heap}{a:Addr}{o:HO}
theorem ObjOk.lt (x:ObjOk P w H h a o):a<h.objs.size:=by
 cases o with
 | lst xs=>obtain⟨_,_,_,_,e⟩:=x;exact QF e
 | tup xs=>obtain⟨_,_,_,p⟩:=x;exact p.lt
 | dK kvs=>obtain⟨_,_,_,_,o,_,_,e,_⟩:=x;exact QF e
 | dT kvs=>obtain⟨_,_,_,_,o,_,_,e,_⟩:=x;exact QF e
 | set S n=>obtain⟨o,_,_,_,e,_⟩:=x;exact QF e
 | ins C dx fs=>obtain⟨_,_,_,e,_⟩:=x;exact QF e
 | own y=>obtain⟨_,e⟩:=x;exact QF e
 | xd fs=>obtain⟨_,⟨_,_,_,e,_⟩,_⟩:=x;exact QF e
 | rng lo hi=>obtain⟨_,_,_,e⟩:=x;exact QF e
 | frz ob u=>obtain⟨e,_⟩:=x;exact QF e
 | tbl ps=>exact QF (show h.get? a=some _ from x)
 | met f y=>exact QF (show h.get? a=some _ from x)
 | ext φ=>obtain⟨_,⟨_,e⟩,_⟩:=x;exact QF e
theorem Paired.mapP {α β:Type}{F G:α->β->Prop}:∀ {l₁:List α}{l₂:List β},Paired F l₁ l₂->(∀a b,F a b->G a b)->Paired G l₁ l₂
 | _,_,.nil,_=>.nil
 | _,_,.cons r t,f=>.cons (f _ _ r) (Paired.mapP t f)
theorem ObjOk.stay (x:ObjOk P w H h a o)(k:∀b u,(b=a\/H b=some (.own a))->h.get? b=some u->h'.get? b=some u)
  (ho:∀b,H b=some (.own a)->H' b=some (.own a)) (ht:∀b xs,H b=some (.tup xs)->H' b=some (.tup xs)):ObjOk P w H' h' a o:=by
 induction o with
 | lst xs=>obtain⟨z,its,n,r,e⟩:=x;exact⟨z,its,n,r,k _ _ (.inl rfl) e⟩
 | tup xs=>obtain⟨z,its,r,ob,e,c⟩:=x;exact⟨z,its,r,ob,k _ _ (.inl rfl) e,c⟩
 | dK kvs=>obtain⟨z,y,vs,r,ob,es,ep,e,c⟩:=x;exact⟨z,y,vs,r,ob,es,ep,k _ _ (.inl rfl) e,c⟩
 | dT kvs =>obtain⟨z,y,xs,r,ob,es,ep,e,c⟩:=x;exact⟨z,y,xs,Paired.mapP r fun p q z=>⟨z.1,ht _ _ z.2.1,z.2.2⟩,ob,es,ep,k _ _ (.inl rfl) e,c⟩
 | set S n=>obtain⟨ob,es,ep,t,e,c⟩:=x;exact⟨ob,es,ep,t,k _ _ (.inl rfl) e,c⟩
 | ins C dx fs =>obtain⟨d,z,ne,e,mA,⟨od,es,ep,e2,c⟩,r⟩:=x;exact⟨ho _ d,z,ne,k _ _ (.inl rfl) e,mA,⟨od,es,ep,k _ _ (.inr d) e2,c⟩,r⟩
 | own y=>obtain⟨ob,e⟩:=x;exact⟨ob,k _ _ (.inl rfl) e⟩
 | xd fs=>obtain⟨mA,⟨od,es,ep,e,c⟩,r⟩:=x;exact⟨mA,⟨od,es,ep,k _ _ (.inl rfl) e,c⟩,r⟩
 | rng lo hi=>obtain⟨t,u,v,e⟩:=x;exact⟨t,u,v,k _ _ (.inl rfl) e⟩
 | frz ob u ih=>obtain⟨e,q⟩:=x;exact⟨k _ _ (.inl rfl) e,ih q⟩
 | tbl ps =>have e:h.get? a=some { cls:=.none,data:=.fields ps }:=x;show h'.get? a=some { cls:=.none,data:=.fields ps };exact k a _ (.inl rfl) e
 | met f y =>have e:h.get? a=some (W.methodObj (.ref f) (.ref y)):=x;show h'.get? a=some (W.methodObj (.ref f) (.ref y));exact k a _ (.inl rfl) e
 | ext φ=>obtain⟨p,⟨o,e⟩,st⟩:=x;exact⟨st _ _ p fun o q=>k _ _ (.inl rfl) q,⟨o,k _ _ (.inl rfl) e⟩,st⟩
theorem HOk.lt (x:HOk P w H h)(e:H a=some o):a<h.objs.size:=(x a o e).lt
theorem HOk.fresh (x:HOk P w H h)(e:h.objs.size<=a):H a=none:=by
 cases q:H a with
 | none=>rfl
 | some u=>exact absurd (P7 (x.lt q) e) (RX _)
theorem HOk.kept (x:HOk P w H h)(k:∀b u,h.get? b=some u->h'.get? b=some u):HOk P w H h':=fun a o e =>
 (x a o e).stay (fun b u _ q=>k b u q) (fun _ q=>q) fun _ _ q=>q
theorem HOk.laid (x:HOk P w H h)(k:∀b u,h.get? b=some u->h'.get? b=some u)(hp:h.objs.size<=a)(new:ObjOk P w (upd H a o) h' a o):HOk P w (upd H a o) h':=fun b u e=>by
 have hn:=x.fresh hp;by_cases hb:b=a
 ·subst hb;rw[bY] at e;cases e;exact new
 ·rw[ak hb] at e;exact(x b u e).stay (fun c v _ q=>k c v q) (fun c q=>by rw[ak (aI q hn)];exact q) fun c xs q=>by rw[ak (aI q hn)];exact q
end
def Rd (H:Hp)(a:Addr)(u:HO):Prop:=H a=some u\/∃o,H a=some (.frz o u)
theorem Rd.ok (r:Rd H a u)(x:HOk P w H h):ObjOk P w H h a u:=by
 rcases r with r|⟨o,r⟩
 ·exact x a u r
 ·obtain⟨_,q⟩:=x a _ r;exact q
noncomputable def Mut:Option HO->Prop
 | some (.lst _)=>True
 | some (.dK _)=>True
 | some (.dT _)=>True
 | some (.set _ _)=>True
 | some (.ins _ _ _)=>True
 | some (.ext _)=>True
 | _=>False
section
variable {P:Program}{w:World}{H:Hp}{h h':Heap}{x e:Addr}{o':HO}
theorem HOk.write (ok:HOk P w H h)(mu:Mut (H x))(he:e=x\/H e=some (.own x))(k:∀b u,b≠e->h.get? b=some u->h'.get? b=some u)(heo:∃u,h'.get? e=some u)
  (new:ObjOk P w (upd H x o') h' x o'):HOk P w (upd H x o') h':=fun b u q=>by
 have nown:∀c y,H c=some (.own y)->c≠x:=fun c y r z=>by subst z;rw[r] at mu;exact mu
 have ntup:∀c xs,H c=some (.tup xs)->c≠x:=fun c xs r z=>by subst z;rw[r] at mu;exact mu
 by_cases hb:b=x
 ·subst hb;rw[bY] at q;cases q;exact new
 ·rw[ak hb] at q;by_cases hbe:b=e
  ·have q':H b=some (.own x):=by
    rcases he with z|z
    ·exact absurd (hbe.trans z) hb
    ·rw[hbe];exact z
   rw[q] at q';cases q';obtain⟨v,hv⟩:=heo;exact⟨v,by rw[hbe];exact hv⟩
  ·refine(ok b u q).stay (fun c v hc r=>k c v ?_ r) (fun c r=>by rw[ak (nown c b r)];exact r) fun c xs r=>by rw[ak (ntup c xs r)];exact r
   rcases hc with rfl|hc
   ·exact hbe
   ·rintro rfl;rcases he with z|z
    ·exact nown c b hc z
    ·rw[hc] at z;cases z;exact hb rfl
end
set_option genCtorIdx false
structure Un (fs ex:List Addr)(H H':Hp)(h h':Heap):Prop where
 keep:∀b o,h.get? b=some o->H b=none->b ∉ fs->b ∉ ex->h'.get? b=some o
 slot:∀b o,h.get? b=some o->H b=none->b∈fs->b ∉ ex->∃sl,h'.get? b=some { o with slots:=sl }
 free:∀b o,h.get? b=some o->H b=none->b ∉ ex->H' b=none
 there:∀b o,h.get? b=some o->b ∉ ex->∃o',h'.get? b=some o'
 tups:∀b xs,H b=some (.tup xs)->H' b=some (.tup xs)
 frzs:∀b o u,H b=some (.frz o u)->H' b=some (.frz o u)
 tbls:∀b ps,H b=some (.tbl ps)->∃more,H' b=some (.tbl (ps++more))
section
variable {fs fs' ex ex':List Addr}{H H1 H2:Hp}{h h1 h2 h':Heap}{a x e:Addr}{o:HO}
theorem Un.any (u:Un fs ex H H1 h h1)(q:h.get? b=some ob)(n:H b=none)(hx:b ∉ ex):∃sl,h1.get? b=some { ob with slots:=sl }:=by
 by_cases hb:b∈fs
 ·exact u.slot b ob q n hb hx
 ·exact⟨ob.slots,u.keep b ob q n hb hx⟩
theorem Un.kept (k:∀b u,h.get? b=some u->h'.get? b=some u):Un fs ex H H h h' :=
 ⟨fun b ob q _ _ _=>k b ob q,fun b ob q _ _ _=>⟨ob.slots,k b ob q⟩,fun _ _ _ n _=>n,fun b ob q _=>⟨ob,k b ob q⟩,fun _ _ q=>q,fun _ _ _ q=>q,fun _ ps q=>⟨#[],by rw[q];simp⟩⟩
theorem Un.refl:Un fs ex H H h h:=Un.kept fun _ _ q=>q
theorem Un.laid (k:∀b u,h.get? b=some u->h'.get? b=some u)(hp:h.objs.size<=a)(hn:H a=none):Un fs ex H (upd H a o) h h' where
 keep:=fun b u q _ _ _=>k b u q
 slot:=fun b u q _ _ _=>⟨u.slots,k b u q⟩
 free:=fun b u q n _=>by rw[ak (QU (P7 (QF q) hp))];exact n
 there:=fun b u q _=>⟨u,k b u q⟩
 tups:=fun b xs q=>by rw[ak (aI q hn)];exact q
 frzs:=fun b u xs q=>by rw[ak (aI q hn)];exact q
 tbls:=fun b ps q=>⟨#[],by rw[ak (aI q hn),q];simp⟩
theorem Un.write (mu:Mut (H x))(he:e=x\/H e=some (.own x))(k:∀b u,b≠e->h.get? b=some u->h'.get? b=some u)(heo:∃u,h'.get? e=some u):Un fs ex H (upd H x o) h h':=by
 have hx:∀b,H b=none->b≠x:=fun b n z=>by subst z;rw[n] at mu;exact mu
 have hb:∀b,H b=none->b≠e:=fun b n z=>by
  subst z;rcases he with r|r
  ·exact hx b n r
  ·rw[n] at r;cases r
 have hm:∀b u,H b=some u->¬Mut (some u)->b≠x:=fun b u q nm z=>by subst z;rw[q] at mu;exact nm mu
 refine⟨fun b u q n _ _=>k b u (hb b n) q,fun b u q n _ _=>⟨u.slots,k b u (hb b n) q⟩,fun b u q n _=>by rw[ak (hx b n)];exact n,fun b u q _=>?_,
  fun b xs q=>by rw[ak (hm b _ q fun z=>z)];exact q,fun b u xs q=>by rw[ak (hm b _ q fun z=>z)];exact q,fun b ps q=>⟨#[],by rw[ak (hm b _ q fun z=>z),q];simp⟩⟩
 by_cases hbe:b=e
 ·subst hbe;exact heo
 ·exact⟨u,k b u hbe q⟩
end
noncomputable def trk (h:Heap)(H:Hp):List Addr:=(List.range h.objs.size).filter fun a=>(H a).isSome
noncomputable def tj (h:Heap)(H:Hp):Heap:=W.hideAll h (trk h H)
theorem B9 (h:Heap)(H:Hp):(tj h H).objs.size=h.objs.size:=W.hideAll_size _ _
theorem Gj {h:Heap}{H:Hp}(e:h.get? b=some o)(n:H b=none):(tj h H).get? b=some o :=
 W.hideAll_get _ e fun hm=>by have q:(H b).isSome=true:=(List.mem_filter.mp hm).2;rw[n] at q;simp at q
theorem Iz (e:(tj h H).get? b=some o):h.get? b=some o/\H b=none:=by
 have e':h.get? b=some o:=W.of_hideAll (trk h H) e;refine⟨e',?_⟩;cases q:H b with
 | none=>rfl
 | some x =>have hm:b∈trk h H:=List.mem_filter.mpr ⟨List.mem_range.mpr (QF e'),by simp[q]⟩;have z:(tj h H).get? b=none:=W.hideAll_none (trk h H) hm;rw[z] at e;cases e
end L2
namespace L2
structure Mod (K:W.Frag)(mg:Str->Option Value)(base:Heap):Prop where
 kin:K.In base
 glob:base.Ns mainGlobals mg
 blt:∃mb,base.Ns builtinsNs mb/\∀x:Str,x≠"__name__"->mb x=bootBuiltins x
 nolimit:base.NoLimit
structure Cx where
 prog:Program
 w:World
 K:W.Frag
 mg:Str->Option Value
 base:Heap
 A:Around
 N:List Str
 s₀:Shared
 H₀:Hp
 env:Env
 outer:List Env
 stack:List Env
 ex:List Addr
 fn:Str->Bool
 calm:Bool
 pn:List (Addr × Obj)
 xe:Value->Shared->Prop
noncomputable def frs (l:List Env):List Addr:=l.filterMap (·.frame)
noncomputable abbrev Cx.fs (X:Cx):List Addr:=frs X.outer
def Vis (sc:Scope)(x:Str):Prop:=sc.names.lookup x=some .local\/sc.names.lookup x=some .cell\/sc.names.lookup x=some .free
def Loc (sc:Scope)(x:Str):Prop:=sc.names.lookup x=some .local\/sc.names.lookup x=some .cell
def PB (env:Env)(h:Heap)(m:Str->Option Value)(x:Str)(u:Value):Prop :=
 (env.kindOf x=some .local/\m x=some u)\/((env.kindOf x=some .cell\/env.kindOf x=some .free)/\∃c,env.cells.lookup x=some c/\h.IsCell c (some u))
structure Cx.Ok (X:Cx):Prop where
 mod:Mod X.K X.mg X.base
 kind:X.env.scope.kind=.function
 glob:X.env.globals=mainGlobals
 blt:X.env.builtins=builtinsNs
 above:X.s₀.heap.objs.size<=X.env.locals
 inj:∀x y c,X.env.cells.lookup x=some c->X.env.cells.lookup y=some c->x=y
 has:∀x,(X.env.kindOf x=some .cell\/X.env.kindOf x=some .free)->∃c,X.env.cells.lookup x=some c
 cab:∀x c,X.fn x=true->X.env.cells.lookup x=some c->X.s₀.heap.objs.size<=c
 hd:X.calm=true->X.A.handled=none
 frames:X.A.frames=some X.stack
 stk:X.stack=X.outer\/(X.stack=X.env::X.outer/\X.env.frame=some X.env.locals)
 exf:∀b∈X.ex,b≠X.env.locals/\∀x c,X.env.cells.lookup x=some c->c≠b
 bs:∀b o,X.base.get? b=some o->X.s₀.heap.get? b=some o/\X.H₀ b=none
 bsz:X.base.objs.size<=X.s₀.heap.objs.size
 noex:∀b o,X.base.get? b=some o->b ∉ X.ex
 exfs:∀b∈X.ex,b ∉ X.fs
 funs:X.s₀.heap.FunFrames X.base X.outer
 frf:∀b∈X.fs,X.H₀ b=none
structure Inv (X:Cx)(pins:List (Addr × Obj))(σ:List (Option V))(H:Hp)(s:Shared):Prop where
 ok:X.Ok
 os:s.os=X.s₀.os
 bare:AllBare s.gens
 base:Un X.fs X.ex X.H₀ H X.s₀.heap s.heap
 loc:∃m,s.heap.Ns X.env.locals m/\∀(i:Nat) (x:Str) (v:V),X.N[i]?=some x->σ[i]?=some (some v)->Vis X.env.scope x->∃u,RelV v u/\PB X.env s.heap m x u
 cell:∀x c,X.env.cells.lookup x=some c->∃v,s.heap.IsCell c v
 free:H X.env.locals=none
 freeC:∀x c,X.env.cells.lookup x=some c->H c=none
 pin:∀p∈X.pn++pins,s.heap.get? p.1=some p.2/\H p.1=none/\p.1≠X.env.locals/\p.1 ∉ X.fs/\∀v,p.2.data≠.cell v
 hok:HOk X.prog X.w H s.heap
 len:σ.length=X.N.length
section
variable {X:Cx}{pins:List (Addr × Obj)}{σ:List (Option V)}{H H':Hp}{s:Shared}{h':Heap}
theorem Cx.Ok.nofr (ok:X.Ok)(e:X.base.get? b=some o):b ∉ X.fs:=fun hb=>by have:=(ok.funs.mem hb).1;rw[e] at this;cases this
theorem Inv.bs (I:Inv X pins σ H s):∀b o,X.base.get? b=some o->s.heap.get? b=some o/\H b=none:=fun b o e =>
 ⟨I.base.keep b o (I.ok.bs b o e).1 (I.ok.bs b o e).2 (I.ok.nofr e) (I.ok.noex b o e),I.base.free b o (I.ok.bs b o e).1 (I.ok.bs b o e).2 (I.ok.noex b o e)⟩
theorem Inv.bk (I:Inv X pins σ H s):∀b o,X.base.get? b=some o->s.heap.get? b=some o:=fun b o e=>(I.bs b o e).1
theorem Inv.mod (I:Inv X pins σ H s):Mod X.K X.mg X.base:=I.ok.mod
theorem Inv.kIn (I:Inv X pins σ H s):X.K.In s.heap:=I.ok.mod.kin.keeps I.bk
theorem Inv.lt (I:Inv X pins σ H s):X.env.locals<s.heap.objs.size:=let ⟨_,hn,_⟩:=I.loc;hn.lt
theorem Inv.sz (I:Inv X pins σ H s):X.s₀.heap.objs.size<=s.heap.objs.size:=QP I.ok.above (Q_ I.lt)
theorem Inv.nofs (I:Inv X pins σ H s){a:Addr}(h:s.heap.objs.size<=a):a ∉ X.fs:=fun hb=>by obtain⟨_,o,ho,_⟩:=I.ok.funs.mem hb;exact absurd (P7 (QF ho) (QP I.sz h)) (RX _)
theorem Inv.cne (I:Inv X pins σ H s):∀x c,X.env.cells.lookup x=some c->c≠X.env.locals:=fun x c e z=>by obtain⟨v,o,ho,hd⟩:=I.cell x c e;obtain⟨m,⟨o',es,ep,ho',hd',_⟩,_⟩:=I.loc;rw[z,ho'] at ho;cases ho;rw[hd'] at hd;cases hd
theorem Inv.funs (I:Inv X pins σ H s):s.heap.FunFrames X.base X.outer:=by
 have all:∀(l:List Env),(∀b∈frs l,b∈X.fs)->X.s₀.heap.FunFrames X.base l->s.heap.FunFrames X.base l:=by
  intro l
  induction l with
  | nil=>intro _ _;trivial
  | cons env r ih =>intro hs hl;obtain⟨hk,⟨L,o,hf,hn,ho,hd⟩,hr⟩:=hl;have hL:L∈X.fs:=hs L (by unfold frs;rw[Q1,hf];exact QL);obtain⟨sl,e⟩:=I.base.slot L o ho (I.ok.frf L hL) hL fun z=>I.ok.exfs L z hL;exact⟨hk,⟨L,_,hf,hn,e,hd⟩,ih (fun b hb=>hs b (by unfold frs;rw[Q1,hf];exact QD _ hb)) hr⟩
 exact all X.outer (fun _ hb=>hb) I.ok.funs
theorem Inv.stack (I:Inv X pins σ H s):s.heap.FunFrames X.base X.stack:=by
 rcases I.ok.stk with e|⟨e,hf⟩
 ·rw[e];exact I.funs
 ·rw[e];obtain⟨m,hn,_⟩:=I.loc;refine .cons (by rw[I.ok.kind];decide) hf hn ?_ I.funs;exact Heap.get?_none_of_le (QP I.ok.bsz I.ok.above)
theorem Inv.stkSub (I:Inv X pins σ H s):∀b∈frs X.stack,b∈X.env.locals::X.fs:=fun b hb=>by
 rcases I.ok.stk with e|⟨e,hf⟩
 ·rw[e] at hb;exact QD _ hb
 ·rw[e] at hb;unfold frs at hb;rw[Q1,hf] at hb;exact hb
theorem Inv.stkFree (I:Inv X pins σ H s):∀b∈frs X.stack,H b=none:=fun b hb=>by
 rcases QZ.mp (I.stkSub b hb) with e|hb
 ·rw[e];exact I.free
 ·obtain⟨_,o,ho,_⟩:=I.ok.funs.mem hb;exact I.base.free b o ho (I.ok.frf b hb) fun z=>I.ok.exfs b z hb
theorem Inv.step {t':Nat}{d':Drawn}{ch:List Addr}(I:Inv X pins σ H s)(hch:∀b∈ch,(b∈X.ex\/X.s₀.heap.objs.size<=b)/\b≠X.env.locals/\(∀x c,X.env.cells.lookup x=some c->c≠b)/\∀p∈X.pn++pins,p.1≠b)(keep:∀b o,b≠X.env.locals->b ∉ X.fs->b ∉ ch->s.heap.get? b=some o->H b=none->h'.get? b=some o)(slot:∀b o,b≠X.env.locals->b∈X.fs->b ∉ ch->s.heap.get? b=some o->H b=none->∃sl,h'.get? b=some { o with slots:=sl })(free:∀b o,b ∉ ch->s.heap.get? b=some o->H b=none->H' b=none)(there:∀b o,b ∉ ch->s.heap.get? b=some o->∃o',h'.get? b=some o')(tups:∀b xs,H b=some (.tup xs)->H' b=some (.tup xs))(frzs:∀b o u,H b=some (.frz o u)->H' b=some (.frz o u))(tbls:∀b ps,H b=some (.tbl ps)->∃more,H' b=some (.tbl (ps++more)))(ns:∀m,s.heap.Ns X.env.locals m->h'.Ns X.env.locals m)(hok:HOk X.prog X.w H' h')(hg:AllBare g') :
  Inv X pins σ H' { s with heap:=h',gens:=g',drawn:=d',toks:=t' }:=by
 have neL:∀b o,X.s₀.heap.get? b=some o->b≠X.env.locals:=fun b o e=>QU (P7 (QF e) I.ok.above);have neC:∀b o,X.s₀.heap.get? b=some o->b ∉ X.ex->b ∉ ch:=fun b o e hx hb=>by
  rcases (hch b hb).1 with z|z
  ·exact hx z
  ·exact absurd (P7 (QF e) z) (RX _)
 have cellK:∀x c,X.env.cells.lookup x=some c->∀v,s.heap.IsCell c v->h'.IsCell c v:=fun x c e v ⟨o,ho,hd⟩=>by
  have nch:c ∉ ch:=fun z=>(hch c z).2.2.1 x c e rfl;by_cases hc:c∈X.fs
  ·obtain⟨sl,q⟩:=slot c o (I.cne x c e) hc nch ho (I.freeC x c e);exact⟨_,q,hd⟩
  ·exact⟨o,keep c o (I.cne x c e) hc nch ho (I.freeC x c e),hd⟩
 refine⟨I.ok,I.os,hg,⟨fun b o e n hb hx=>?_,fun b o e n hb hx=>?_,fun b o e n hx=>?_,fun b o e hx=>?_,fun b xs e=>tups b xs (I.base.tups b xs e),fun b o xs e=>frzs b o xs (I.base.frzs b o xs e),fun b ps e=>?_⟩,?_,fun x c e=>?_,?_,fun x c e=>?_,fun p hp=>?_,hok,I.len⟩
 ·exact keep b o (neL b o e) hb (neC b o e hx) (I.base.keep b o e n hb hx) (I.base.free b o e n hx)
 ·obtain⟨sl,e1⟩:=I.base.slot b o e n hb hx;obtain⟨sl',e2⟩:=slot b _ (neL b o e) hb (neC b o e hx) e1 (I.base.free b o e n hx);exact⟨sl',e2⟩
 ·obtain⟨o',e1⟩:=I.base.there b o e hx;exact free b o' (neC b o e hx) e1 (I.base.free b o e n hx)
 ·obtain⟨o',e1⟩:=I.base.there b o e hx;exact there b o' (neC b o e hx) e1
 ·obtain⟨m1,e1⟩:=I.base.tbls b ps e;obtain⟨m2,e2⟩:=tbls b _ e1;exact⟨m1++m2,by rw[e2,Array.append_assoc]⟩
 ·obtain⟨m,hn,hl⟩:=I.loc;refine⟨m,ns m hn,fun i x v e1 e2 e3=>?_⟩;obtain⟨u,r,l⟩:=hl i x v e1 e2 e3;refine⟨u,r,?_⟩;rcases l with l|⟨k,c,e,z⟩
  ·exact .inl l
  ·exact .inr ⟨k,c,e,cellK x c e _ z⟩
 ·obtain⟨v,z⟩:=I.cell x c e;exact⟨v,cellK x c e v z⟩
 ·obtain⟨m,⟨o,_,_,ho,_⟩,_⟩:=I.loc;exact free _ o (fun z=>(hch _ z).2.1 rfl) ho I.free
 ·obtain⟨v,o,ho,hd⟩:=I.cell x c e;exact free c o (fun z=>(hch c z).2.2.1 x c e rfl) ho (I.freeC x c e)
 ·obtain⟨e,n,ne,nf,d⟩:=I.pin p hp;have nch:p.1 ∉ ch:=fun z=>(hch p.1 z).2.2.2 p hp rfl;exact⟨keep p.1 p.2 ne nf nch e n,free p.1 p.2 nch e n,ne,nf,d⟩
theorem Inv.un {t':Nat}(I:Inv X pins σ H s)(u:Un X.fs [] H H' s.heap h')(hok:HOk X.prog X.w H' h'):Inv X pins σ H' { s with heap:=h',toks:=t' }:=by
 obtain⟨m,⟨o,es,ep,ho,r⟩,_⟩:=id I.loc;obtain⟨sl,hL⟩:=u.any ho I.free (by simp);exact I.step (g':=s.gens) (d':=s.drawn) (ch:=[]) (fun _ z=>nomatch z) (fun b o _ hb _ e n=>u.keep b o e n hb (by simp)) (fun b o _ hb _ e n=>u.slot b o e n hb (by simp)) (fun b o _ e n=>u.free b o e n (by simp)) (fun b o _ e=>u.there b o e (by simp)) u.tups u.frzs u.tbls (fun m' hm=>by obtain⟨o',es',ep',ho',r'⟩:=hm;rw[ho] at ho';cases ho';exact⟨_,es',ep',hL,r'⟩) hok I.bare
theorem Inv.call {t':Nat}{d':Drawn}(I:Inv X pins σ H s)(u:Un (frs X.stack) ch H H' s.heap h')(hok:HOk X.prog X.w H' h')(hg:AllBare g')(hch:∀b∈ch,(b∈X.ex\/X.s₀.heap.objs.size<=b)/\b≠X.env.locals/\(∀x c,X.env.cells.lookup x=some c->c≠b)/\∀p∈X.pn++pins,p.1≠b) :
  Inv X pins σ H' { s with heap:=h',gens:=g',drawn:=d',toks:=t' }:=by
 obtain⟨m,⟨o,es,ep,ho,r⟩,_⟩:=id I.loc;obtain⟨sl,hL⟩:=u.any ho I.free fun z=>(hch _ z).2.1 rfl;exact I.step (ch:=ch) hch (fun b o hL hb hc e n=>u.keep b o e n (fun z=>(QZ.mp (I.stkSub b z)).elim hL hb) hc) (fun b o _ _ hc e n=>u.any e n hc) (fun b o hc e n=>u.free b o e n hc) (fun b o hc e=>u.there b o e hc) u.tups u.frzs u.tbls (fun m' hm=>by obtain⟨o',es',ep',ho',r'⟩:=hm;rw[ho] at ho';cases ho';exact⟨_,es',ep',hL,r'⟩) hok hg
theorem Inv.turned {t':Nat}{it:Addr}(I:Inv X pins σ H s)(k:∀b o,b≠it->s.heap.get? b=some o->h'.get? b=some o)(hn:H it=none)(hL:it≠X.env.locals)
  (h1:it∈X.ex\/X.s₀.heap.objs.size<=it) (h2:∀x c,X.env.cells.lookup x=some c->c≠it) (h3:∀p∈X.pn++pins,p.1≠it):Inv X pins σ H { s with heap:=h',toks:=t' }:=by
 have nit:∀b u,H b=some u->b≠it:=fun b u e z=>by rw[z,hn] at e;cases e
 refine I.step (g':=s.gens) (d':=s.drawn) (ch:=[it]) (fun b hb=>?_) (fun b o _ _ hc e _=>k b o (fun z=>hc (by simp[z])) e) (fun b o _ _ hc e _=>⟨o.slots,k b o (fun z=>hc (by simp[z])) e⟩) (fun _ _ _ _ n=>n)
  (fun b o hc e=>⟨o,k b o (fun z=>hc (by simp[z])) e⟩) (fun _ _ e=>e) (fun _ _ _ e=>e) (fun b ps e=>⟨#[],by rw[e];simp⟩) (fun m hm=>?_) (fun b u e=>?_) I.bare
 ·have e:b=it:=by simpa using hb
  subst e;exact⟨h1,hL,h2,h3⟩
 ·obtain⟨o,es,ep,ho,r⟩:=hm;exact⟨o,es,ep,k _ o (Ne.symm hL) ho,r⟩
 ·refine(I.hok b u e).stay (fun c v hc q=>k c v ?_ q) (fun _ q=>q) fun _ _ q=>q;rcases hc with z|z
  ·rw[z];exact nit b u e
  ·exact nit c _ z
theorem Inv.tok (I:Inv X pins σ H s)(t:Nat):Inv X pins σ H { s with toks:=t }:=I.un (h':=s.heap) (t':=t) Un.refl I.hok
theorem Inv.kept {t':Nat}(I:Inv X pins σ H s)(k:∀b u,s.heap.get? b=some u->h'.get? b=some u):Inv X pins σ H { s with heap:=h',toks:=t' }:=I.un (Un.kept k) (I.hok.kept k)
theorem Inv.laid {a:Addr}{t':Nat}(I:Inv X pins σ H s)(k:∀b u,s.heap.get? b=some u->h'.get? b=some u)(hp:s.heap.objs.size<=a)(new:ObjOk X.prog X.w (upd H a o) h' a o) :
  Inv X pins σ (upd H a o) { s with heap:=h',toks:=t' }:=I.un (Un.laid k hp (I.hok.fresh hp)) (I.hok.laid k hp new)
theorem Inv.write {e:Addr}{t':Nat}(I:Inv X pins σ H s)(mu:Mut (H x))(he:e=x\/H e=some (.own x))(k:∀b u,b≠e->s.heap.get? b=some u->h'.get? b=some u)(heo:∃u,h'.get? e=some u)(new:ObjOk X.prog X.w (upd H x o) h' x o):Inv X pins σ (upd H x o) { s with heap:=h',toks:=t' }:=I.un (Un.write mu he k heo) (I.hok.write mu he k heo new)
theorem Inv.pins_of {pins':List (Addr × Obj)}(I:Inv X pins σ H s)(h:∀p∈pins',s.heap.get? p.1=some p.2/\H p.1=none/\p.1≠X.env.locals/\p.1 ∉ X.fs/\∀v,p.2.data≠.cell v):Inv X pins' σ H s :=
 ⟨I.ok,I.os,I.bare,I.base,I.loc,I.cell,I.free,I.freeC,fun p hp=>(Q5.mp hp).elim (fun z=>I.pin p (RY _ z)) (h p),I.hok,I.len⟩
theorem we {N:List Str}(hN:N.Nodup){i j:Nat}(a:N[i]?=some x)(b:N[j]?=some x):i=j:=by obtain⟨h1,e1⟩:=P8.mp a;obtain⟨h2,e2⟩:=P8.mp b;exact(List.getElem_inj hN).mp (e1.trans e2.symm)
theorem uF {M:Model}{E:Value->Shared->Prop}{i:Nat}{Q:Unit->Shared->Prop}(I:Inv X pins σ H s)(hN:X.N.Nodup)(hi:X.N[i]?=some x)(hx:Loc X.env.scope x)(r:RelV v u)(h:∀s',Inv X pins (σ.set i (some v)) H s'->(∃a,Heap.SameBut a s.heap s'.heap/\(a=X.env.locals\/X.env.cells.lookup x=some a))->Q () s')(hf:X.fn x=true\/X.env.scope.names.lookup x=some .local:=by first|exact .inl rfl|exact .inr rfl|assumption):wpAny M A (storeName X.env x u) Q E s:=by
 obtain⟨m,hn,hl⟩:=id I.loc;have hcls:(X.env.scope.kind == .class || (X.env.scope.kind == .module && X.env.locals != X.env.globals))=false:=by rw[I.ok.kind];rfl
 have hiσ:i<σ.length:=by rw[I.len];exact(P8.mp hi).1
 have cne:=I.cne;have tracked:∀ {a:Addr}{h':Heap},(∃o,s.heap.get? a=some o/\H a=none)->Heap.SameBut a s.heap h'->HOk X.prog X.w H h':=fun {a h'} ha hs b ob e=>by
  obtain⟨_,_,hfree⟩:=ha;refine(I.hok b ob e).stay (fun c w' hc q=>(hs.2 c ?_).trans q) (fun _ q=>q) fun _ _ q=>q;rintro rfl;rcases hc with rfl|hc
  ·rw[hfree] at e;cases e
  ·rw[hfree] at hc;cases hc
 rcases hx with hk|hk
 ·refine wpAny_storeName_local hk hn (fun h' hn' hs=>?_) hcls;obtain⟨oL,_,_,hoL,_⟩:=id hn;refine h _ ⟨I.ok,I.os,I.bare,⟨fun b o e n hb hx=>?_,fun b o e n hb hx=>?_,I.base.free,fun b o e hx=>?_,I.base.tups,I.base.frzs,I.base.tbls⟩,⟨_,hn',fun j y v' e1 e2 e3=>?_⟩,fun y c e=>?_,I.free,I.freeC,fun p hp=>?_,tracked ⟨oL,hoL,I.free⟩ hs,by simpa using I.len⟩ ⟨_,hs,.inl rfl⟩
  ·exact(hs.2 b (QU (P7 (QF e) I.ok.above))).trans (I.base.keep b o e n hb hx)
  ·obtain⟨sl,e1⟩:=I.base.slot b o e n hb hx;exact⟨sl,(hs.2 b (QU (P7 (QF e) I.ok.above))).trans e1⟩
  ·obtain⟨o',e1⟩:=I.base.there b o e hx;exact⟨o',(hs.2 b (QU (P7 (QF e) I.ok.above))).trans e1⟩
  ·by_cases hj:j=i
   ·subst hj;rw[hi] at e1;cases e1;rw[Q6 hiσ] at e2;cases e2;exact⟨u,r,.inl ⟨hk,by simp⟩⟩
   ·rw[Q7 (Ne.symm hj)] at e2;obtain⟨u',r',q⟩:=hl j y v' e1 e2 e3;refine⟨u',r',?_⟩;rcases q with⟨k,e⟩|⟨k,c,e,z⟩
    ·refine .inl ⟨k,?_⟩;have:y≠x:=fun e=>hj (we hN e1 (e ▸ hi));simp[this,e]
    ·exact .inr ⟨k,c,e,z.sameBut hs (cne y c e)⟩
  ·obtain⟨w',z⟩:=I.cell y c e;exact⟨w',z.sameBut hs (cne y c e)⟩
  ·obtain⟨e,n,ne,nf,d⟩:=I.pin p hp;exact⟨(hs.2 p.1 ne).trans e,n,ne,nf,d⟩
 ·have hfn:X.fn x=true:=by
   rcases hf with z|z
   ·exact z
   ·rw[z] at hk;cases hk
  obtain⟨c,hc⟩:=I.ok.has x (.inl hk);obtain⟨w',z⟩:=I.cell x c hc;refine wpAny_storeName_cell I.ok.kind hk hc z (fun h' hc' hs=>?_);obtain⟨oc,hoc,hocd⟩:=id z;refine h { s with heap:=h' } ⟨I.ok,I.os,I.bare,⟨fun b o e n hb hx=>?_,fun b o e n hb hx=>?_,I.base.free,fun b o e hx=>?_,I.base.tups,I.base.frzs,I.base.tbls⟩,⟨m,hn.sameBut hs (Ne.symm (cne x c hc)),fun j y v' e1 e2 e3=>?_⟩,fun y c' e=>?_,I.free,I.freeC,fun p hp=>?_,tracked ⟨oc,hoc,I.freeC x c hc⟩ hs,by simpa using I.len⟩ ⟨c,hs,.inr hc⟩
  ·exact(hs.2 b (QU (P7 (QF e) (I.ok.cab x c hfn hc)))).trans (I.base.keep b o e n hb hx)
  ·obtain⟨sl,e1⟩:=I.base.slot b o e n hb hx;exact⟨sl,(hs.2 b (QU (P7 (QF e) (I.ok.cab x c hfn hc)))).trans e1⟩
  ·obtain⟨o',e1⟩:=I.base.there b o e hx;exact⟨o',(hs.2 b (QU (P7 (QF e) (I.ok.cab x c hfn hc)))).trans e1⟩
  ·by_cases hj:j=i
   ·subst hj;rw[hi] at e1;cases e1;rw[Q6 hiσ] at e2;cases e2;exact⟨u,r,.inr ⟨.inl hk,c,hc,hc'⟩⟩
   ·rw[Q7 (Ne.symm hj)] at e2;obtain⟨u',r',q⟩:=hl j y v' e1 e2 e3;refine⟨u',r',?_⟩;rcases q with q|⟨k,c',e,z'⟩
    ·exact .inl q
    ·refine .inr ⟨k,c',e,z'.sameBut hs ?_⟩;rintro rfl;exact hj (we hN e1 (I.ok.inj _ _ _ e hc ▸ hi))
  ·by_cases hcc:c'=c
   ·subst hcc;exact⟨_,hc'⟩
   ·obtain⟨w2,z2⟩:=I.cell y c' e;exact⟨w2,z2.sameBut hs hcc⟩
  ·obtain⟨e,n,ne,nf,d⟩:=I.pin p hp;refine⟨(hs.2 p.1 ?_).trans e,n,ne,nf,d⟩;intro q;rw[q,hoc] at e;have q':oc=p.2:=Q2 e;exact d w' (by rw[<-q'];exact hocd)
theorem iW {M:Model}{E:Value->Shared->Prop}{i:Nat}{Q:Unit->Shared->Prop}(I:Inv X pins σ H s)(hN:X.N.Nodup)(hi:X.N[i]?=some x)(hx:Loc X.env.scope x)(r:RelV v u)(h:∀s',Inv X pins (σ.set i (some v)) H s'->Q () s')(hf:X.fn x=true\/X.env.scope.names.lookup x=some .local:=by first|exact .inl rfl|exact .inr rfl|assumption):wpAny M A (storeName X.env x u) Q E s :=
 uF I hN hi hx r (fun s' I' _=>h s' I') hf
theorem Inv.call' {s':Shared}(I:Inv X pins σ H s)(ho:s'.os=s.os)(u:Un (frs X.stack) ch H H' s.heap s'.heap)(hok:HOk X.prog X.w H' s'.heap)(hg:AllBare s'.gens)(hch:∀b∈ch,(b∈X.ex\/X.s₀.heap.objs.size<=b)/\b≠X.env.locals/\(∀x c,X.env.cells.lookup x=some c->c≠b)/\∀p∈X.pn++pins,p.1≠b):Inv X pins σ H' s':=by
 obtain⟨h',g',d',t',o'⟩:=s';have e:o'=s.os:=ho;subst e;exact I.call (g':=g') (t':=t') (d':=d') u hok hg hch
end
noncomputable abbrev XK:=Value->Option Addr->Hp->Prop
noncomputable abbrev St:=List (Option V)
noncomputable abbrev VK:=V->Hp->Prop
noncomputable abbrev TE:=St->Hp->VK->Prop
noncomputable abbrev TT:=St->Hp->(Bool->Hp->Prop)->Prop
noncomputable abbrev TA:=St->Hp->(List V->Hp->Prop)->Prop
structure Ends where
 nx:St->Hp->Prop
 rt:VK
 bk:St->Hp->Prop:=fun _ _=>False
 ct:St->Hp->Prop:=fun _ _=>False
noncomputable abbrev TS:=Ends->St->Hp->Prop
def EP (X:Cx)(pins:List (Addr × Obj))(σ:St)(Q:VK)(u:Value)(s':Shared):Prop:=∃v H',Inv X pins σ H' s'/\RelV v u/\Q v H'
def TP (X:Cx)(pins:List (Addr × Obj))(σ:St)(Q:Bool->Hp->Prop)(b:Bool)(s':Shared):Prop:=∃H',Inv X pins σ H' s'/\Q b H'
def AP (X:Cx)(pins:List (Addr × Obj))(σ:St)(Q:List V->Hp->Prop)(us:List Value)(s':Shared):Prop:=∃vs H',Inv X pins σ H' s'/\Vals vs us/\Q vs H'
def SP (X:Cx)(pins:List (Addr × Obj))(D:Ends)(f:Flow)(s':Shared):Prop :=
 match f with
 | .next=>∃σ' H',Inv X pins σ' H' s'/\D.nx σ' H'
 | .brk=>∃σ' H',Inv X pins σ' H' s'/\D.bk σ' H'
 | .cont=>∃σ' H',Inv X pins σ' H' s'/\D.ct σ' H'
 | .ret u=>∃v σ' H',Inv X pins σ' H' s'/\RelV v u/\D.rt v H'
def PE (X:Cx)(e:Expr)(t:TE):Prop :=
 ∀(pins:List (Addr × Obj)) (s:Shared) (σ:St) (H:Hp) (Q:VK),Inv X pins σ H s->t σ H Q->wpAny (model X.prog X.w) X.A (eval e X.env) (EP X pins σ Q) X.xe s
def PT (X:Cx)(e:Expr)(t:TT):Prop :=
 ∀(pins:List (Addr × Obj)) (s:Shared) (σ:St) (H:Hp) (Q:Bool->Hp->Prop),Inv X pins σ H s->t σ H Q->wpAny (model X.prog X.w) X.A (isTrue e X.env (eval e X.env)) (TP X pins σ Q) X.xe s
def PW (X:Cx)(e:Expr)(t:TT):Prop :=
 ∀(whole:Sem Value) (pins:List (Addr × Obj)) (s:Shared) (σ:St) (H:Hp) (Q:Bool->Hp->Prop),Inv X pins σ H s->t σ H Q->wpAny (model X.prog X.w) X.A (isTrue e X.env whole) (TP X pins σ Q) X.xe s
theorem PW.pt (h:PW X e t):PT X e t:=h _
def PA (X:Cx)(es:List Expr)(t:TA):Prop :=
 ∀(pos:Pos) (pins:List (Addr × Obj)) (s:Shared) (σ:St) (H:Hp) (Q:List V->Hp->Prop),Inv X pins σ H s->t σ H Q->wpAny (model X.prog X.w) X.A (spliced (backTo pos (starEach es X.env))) (AP X pins σ Q) X.xe s
def PS (X:Cx)(st:Stmt)(t:TS):Prop :=
 ∀(pins:List (Addr × Obj)) (s:Shared) (σ:St) (H:Hp) (D:Ends),Inv X pins σ H s->t D σ H->wpAny (model X.prog X.w) X.A (exec st X.env) (SP X pins D) X.xe s
def PSs (X:Cx)(st:List Stmt)(t:TS):Prop :=
 ∀(pins:List (Addr × Obj)) (s:Shared) (σ:St) (H:Hp) (D:Ends),Inv X pins σ H s->t D σ H->wpAny (model X.prog X.w) X.A (execs st X.env) (SP X pins D) X.xe s
theorem thn {α:Type}{t:Sem α}{Q Q':α->Shared->Prop}{M:Model}{E:Value->Shared->Prop}(h:wpAny M A t Q E s)(hQ:∀a s,Q a s->Q' a s):wpAny M A t Q' E s:=wpAny_mono h hQ fun _ _ x=>x
end L2
namespace L2
section
variable {X:Cx}
noncomputable def Nv (i:Nat):TE:=fun σ H Q=>∃v,σ[i]?=some (some v)/\Q v H
noncomputable def tC (v:V):TE:=fun _ H Q=>Q v H
theorem yP {i:Nat}{x:Str}{pos:Pos}(hN:X.N[i]?=some x)(hv:Vis X.env.scope x)(hd:(x == ("__debug__":Str))=false:=by decide)(hcd:(x == ("__classdict__":Str))=false:=by decide):PE X (.Name x pos) (Nv i):=by
 intro pins s σ H Q I h;obtain⟨v,e,h⟩:=h;obtain⟨m,hn,hl⟩:=I.loc;obtain⟨u,r,l⟩:=hl i x v hN e hv;have fin:EP X pins σ Q u s:=⟨v,H,I,r,h⟩;rcases l with⟨hk,hm⟩|⟨hk,c,hc,hcell⟩
 ·exact wpAny_Name (wpAny_loadName_local I.ok.kind hk hn hm fin) hd
 ·rcases hk with hk|hk
  ·exact wpAny_Name (wpAny_loadName_cell I.ok.kind hk hc hcell fin) hd
  ·exact wpAny_Name (wpAny_loadName_free I.ok.kind hk hc hcell fin hcd) hd
theorem Fh {i j pos}:PE X (.Constant (.int i) j pos) (tC (.int i)):=fun _ _ _ H _ I h=>wpAny_Constant_int ⟨.int i,H,I.tok _,⟨_,rfl⟩,h⟩
theorem Kw {b j pos}:PE X (.Constant (.bool b) j pos) (tC (.bl b)):=fun _ _ _ H _ I h=>Constant_bool ⟨.bl b,H,I,rfl,h⟩
theorem LI {j pos}:PE X (.Constant .none j pos) (tC .non):=fun _ _ _ H _ I h=>Constant_none ⟨.non,H,I,rfl,h⟩
theorem v8 {x j pos}:PE X (.Constant (.str x) j pos) (tC (.str x)):=fun _ _ _ H _ I h=>Calls.Constant_str ⟨.str x,H,I.tok _,⟨_,rfl⟩,h⟩
def Gl (X:Cx)(x:Str):Prop:=X.env.kindOf x=some .globalImplicit
theorem i7 {E:Value->Shared->Prop}{σ:St}{Q:Value->Shared->Prop}(I:Inv X pins σ H s)(hg:Gl X x)(hm:X.mg x=some u)(h:Q u s)(hd:(x == ("__debug__":Str))=false:=by decide):wpAny (model X.prog X.w) X.A (eval (.Name x pos) X.env) Q E s :=
 Calls.Name_function_global I.ok.kind hg (Calls.loadGlobal_global (by rw[I.ok.glob];exact I.mod.glob.keeps I.bk) hm h) hd
theorem jE {E:Value->Shared->Prop}{pins:List (Addr × Obj)}{s:Shared}{σ:St}{H:Hp}{x:Str}{u:Value}{pos:Pos}{Q:Value->Shared->Prop}(I:Inv X pins σ H s)(hg:Gl X x)(hm:X.mg x=none)(hv:bootBuiltins x=some u)(h:Q u s)
  (hn:x≠"__name__":=by decide) (hd:(x == ("__debug__":Str))=false:=by decide):wpAny (model X.prog X.w) X.A (eval (.Name x pos) X.env) Q E s:=by
 obtain⟨mb,h1,h2⟩:=I.mod.blt;exact Calls.Name_function_global I.ok.kind hg (Calls.loadGlobal_builtin (by rw[I.ok.glob];exact I.mod.glob.keeps I.bk) hm (by rw[I.ok.blt];exact h1.keeps I.bk) ((h2 x hn).trans hv) h) hd
theorem Hi (hg:Gl X x)(hm:X.mg x=some u)(r:RelV v u)(hd:(x == ("__debug__":Str))=false:=by decide):PE X (.Name x pos) (tC v) :=
 fun _ _ _ H _ I h=>i7 I hg hm ⟨v,H,I,r,h⟩ hd
theorem Iv {x:Str}{v:V}{u:Value}{pos:Pos}(hg:Gl X x)(hm:X.mg x=none)(hv:bootBuiltins x=some u)(r:RelV v u)(hn:x≠"__name__":=by decide)(hd:(x == ("__debug__":Str))=false:=by decide):PE X (.Name x pos) (tC v) :=
 fun _ _ _ H _ I h=>jE I hg hm hv ⟨v,H,I,r,h⟩ hn hd
variable {a b:Expr}{ta tb:TE}{pos:Pos}
variable {tA tB':TT}{rest:List Expr}
noncomputable def OW (t u:TT):TT:=fun σ H Q=>t σ H fun c H1=>if c=true then u σ H1 Q else Q false H1
noncomputable def tOr (t u:TT):TT:=fun σ H Q=>t σ H fun c H1=>if c=true then Q true H1 else u σ H1 Q
noncomputable def Pk (t:TT):TT:=fun σ H Q=>t σ H fun c H1=>Q (!c) H1
theorem HQ (ha:PT X a tA):PW X (.BoolOp .And [a] pos) tA:=by
 intro wh pins s σ H Q I h;refine isTrue_and (thn (ha pins s σ H Q I h) fun c s1 e=>?_);cases c with
 | true=>exact isTrue_and_nil e
 | false=>exact e
theorem Mw (ha:PT X a tA):PW X (.BoolOp .Or [a] pos) tA:=by
 intro wh pins s σ H Q I h;refine isTrue_or (thn (ha pins s σ H Q I h) fun c s1 e=>?_);cases c with
 | false=>exact isTrue_or_nil e
 | true=>exact e
theorem LM (ha:PT X a tA)(hb:PW X (.BoolOp .And (b::rest) pos) tB'):PW X (.BoolOp .And (a::b::rest) pos) (OW tA tB'):=by
 intro wh pins s σ H Q I h;refine isTrue_and (thn (ha pins s σ H _ I h) fun c s1 ⟨H1,I1,q1⟩=>?_);cases c with
 | true=>exact hb wh pins s1 σ H1 Q I1 q1
 | false=>exact⟨H1,I1,q1⟩
theorem N1 (ha:PT X a tA)(hb:PW X (.BoolOp .Or (b::rest) pos) tB'):PW X (.BoolOp .Or (a::b::rest) pos) (tOr tA tB'):=by
 intro wh pins s σ H Q I h;refine isTrue_or (thn (ha pins s σ H _ I h) fun c s1 ⟨H1,I1,q1⟩=>?_);cases c with
 | true=>exact⟨H1,I1,q1⟩
 | false=>exact hb wh pins s1 σ H1 Q I1 q1
theorem Lk (ha:PT X a tA):PT X (.UnaryOp .Not a pos) (Pk tA):=by intro pins s σ H Q I h;exact isTrue_not (ha pins s σ H (fun c H1=>Q (!c) H1) I h)
noncomputable def N5 (ta tb:TE):TE:=fun σ H Q=>ta σ H fun x H1=>∃c,x=.bl c/\if c=true then tb σ H1 Q else Q (.bl false) H1
noncomputable def Pa (ta tb:TE):TE:=fun σ H Q=>ta σ H fun x H1=>∃c,x=.bl c/\if c=true then Q (.bl true) H1 else tb σ H1 Q
noncomputable def Oz (ta:TE):TE:=fun σ H Q=>ta σ H fun x H1=>∃c,x=.bl c/\Q (.bl (!c)) H1
theorem Gq {op}(h:PE X a t):PE X (.BoolOp op [a] pos) t:=fun pins s σ H Q I hw=>BoolOp_one (h pins s σ H Q I hw)
theorem Le (ha:PE X a ta)(hb:PE X (.BoolOp .And (b::rest) pos) tb):PE X (.BoolOp .And (a::b::rest) pos) (N5 ta tb):=by
 intro pins s σ H Q I h;refine BoolOp_and (thn (ha pins s σ H _ I h) fun v s1 ⟨x,H1,I1,r1,q1⟩=>?_);obtain⟨c,rfl,q1⟩:=q1;cases r1;refine wpAny_truthy_bool ?_;cases c with
 | true=>exact hb pins s1 σ H1 Q I1 q1
 | false=>exact⟨.bl false,H1,I1,rfl,q1⟩
theorem OG (ha:PE X a ta)(hb:PE X (.BoolOp .Or (b::rest) pos) tb):PE X (.BoolOp .Or (a::b::rest) pos) (Pa ta tb):=by
 intro pins s σ H Q I h;refine BoolOp_or (thn (ha pins s σ H _ I h) fun v s1 ⟨x,H1,I1,r1,q1⟩=>?_);obtain⟨c,rfl,q1⟩:=q1;cases r1;refine wpAny_truthy_bool ?_;cases c with
 | false=>exact hb pins s1 σ H1 Q I1 q1
 | true=>exact⟨.bl true,H1,I1,rfl,q1⟩
theorem K_ (ha:PE X a ta):PE X (.UnaryOp .Not a pos) (Oz ta):=by intro pins s σ H Q I h;refine UnaryOp_ (thn (ha pins s σ H _ I h) fun v s1 ⟨x,H1,I1,r1,q1⟩=>?_);obtain⟨c,rfl,q1⟩:=q1;cases r1;exact not_of (wpAny_truthy_bool ⟨.bl (!c),H1,I1,rfl,q1⟩)
noncomputable def tIf (t:TT)(ta tb:TE):TE:=fun σ H Q=>t σ H fun c H1=>if c=true then ta σ H1 Q else tb σ H1 Q
theorem DD (hc:PT X c tA)(ha:PE X a ta)(hb:PE X b tb):PE X (.IfExp c a b pos) (tIf tA ta tb):=by
 intro pins s σ H Q I h;refine wpAny_IfExp (thn (hc pins s σ H _ I h) fun d s1 ⟨H1,I1,q1⟩=>?_);cases d with
 | true=>exact ha pins s1 σ H1 Q I1 q1
 | false=>exact hb pins s1 σ H1 Q I1 q1
end
end L2
namespace L2
def SqL (K:W.Frag)(H:Hp)(a:Addr)(xs:List V):Prop :=
 Rd H a (.lst xs) \/
  ∃(o:Obj) (its:Array Value) (n:Nat),K.lookup a=some o/\o.cls=.type "list"/\o.dict=none/\o.data=.seq its n/\its.size<=sizeLine/\Vals xs its.toList
def SqT (K:W.Frag)(H:Hp)(a:Addr)(xs:List V):Prop :=
 Rd H a (.tup xs) \/
  ∃(o:Obj) (its:Array Value) (n:Nat),K.lookup a=some o/\o.cls=.type "tuple"/\o.data=.seq its n/\its.size<=sizeLine/\Vals xs its.toList
noncomputable def O8:Value->Option V
 | .none=>some .non
 | .bool b=>some (.bl b)
 | .int i _=>some (.int i)
 | .str x _=>some (.str x)
 | .bytes b _=>some (.byt b)
 | .float b _=>some (.flt b)
 | .ref a=>some (.ref a)
 | .type n=>some (.ty n)
 | _=>none
theorem RelV.abs (r:RelV x u):O8 u=some x:=by
 cases x with
 | non=>cases r;rfl
 | bl _=>cases r;rfl
 | int _=>obtain⟨t,rfl⟩:=r;rfl
 | str _=>obtain⟨t,rfl⟩:=r;rfl
 | byt _=>obtain⟨t,rfl⟩:=r;rfl
 | flt _=>obtain⟨t,rfl⟩:=r;rfl
 | ref _=>cases r;rfl
 | ty _=>cases r;rfl
theorem RelV.inj (r:RelV x u)(q:RelV y u):x=y:=Q2 (r.abs.symm.trans q.abs)
theorem Vals.inj:∀ {xs ys:List V}{us:List Value},Vals xs us->Vals ys us->xs=ys
 | _,_,_,.nil,.nil=>rfl
 | _,_,_,.cons r t,.cons r' t'=>by rw[r.inj r',Vals.inj t t']
section
variable {X:Cx}{pins:List (Addr × Obj)}{σ:St}{H:Hp}{s:Shared}{a:Addr}{xs ys:List V}
theorem SqL.of (h:H a=some (.lst xs)):SqL K H a xs:=.inl (.inl h)
theorem SqT.of (h:H a=some (.tup xs)):SqT K H a xs:=.inl (.inl h)
theorem Inv.list (I:Inv X pins σ H s)(h:SqL X.K H a xs):∃its:List Value,Vals xs its/\PlainL s.heap a its.toArray/\xs.length<=sizeLine:=by
 rcases h with h|⟨o,its,n,hk,hc,hd,hs,hz,r⟩
 ·obtain⟨z,its,n,r,e⟩:=h.ok I.hok;exact⟨its,r,⟨_,n,e,rfl,rfl,rfl⟩,z⟩
 ·refine⟨its.toList,r,⟨o,n,I.kIn a o hk,hc,hd,by simpa using hs⟩,?_⟩;have e:=r.length;simp only[Array.length_toList] at e;omega
theorem Inv.tuple (I:Inv X pins σ H s)(h:SqT X.K H a xs):∃its:List Value,Vals xs its/\IsTup s.heap a its.toArray/\xs.length<=sizeLine:=by
 rcases h with h|⟨o,its,n,hk,hc,hs,hz,r⟩
 ·obtain⟨z,its,r,p⟩:=h.ok I.hok;exact⟨its,r,p,z⟩
 ·refine⟨its.toList,r,⟨o,I.kIn a o hk,hc,n,by simpa using hs⟩,?_⟩;have e:=r.length;simp only[Array.length_toList] at e;omega
theorem Inv.list_inj (I:Inv X pins σ H s)(h:SqL X.K H a xs)(h':SqL X.K H a ys):xs=ys:=by
 obtain⟨its,r,⟨o,n,e,_,_,d⟩,_⟩:=I.list h;obtain⟨its',r',⟨o',n',e',_,_,d'⟩,_⟩:=I.list h';rw[e] at e';cases e';rw[d] at d';injection d' with d1 _
 have:its=its':=by simpa using Q0 Array.toList d1
 subst this;exact r.inj r'
theorem Inv.tuple_inj (I:Inv X pins σ H s)(h:SqT X.K H a xs)(h':SqT X.K H a ys):xs=ys:=by
 obtain⟨its,r,⟨o,e,_,n,d⟩,_⟩:=I.tuple h;obtain⟨its',r',⟨o',e',_,n',d'⟩,_⟩:=I.tuple h';rw[e] at e';cases e';rw[d] at d';injection d' with d1 _
 have:its=its':=by simpa using Q0 Array.toList d1
 subst this;exact r.inj r'
end
noncomputable abbrev Cx.wish (X:Cx)(E:Value->Shared->Prop):Cx:={ X with xe:=E }
noncomputable abbrev Cx.nox (X:Cx):Cx:=X.wish fun _ _=>False
theorem Cx.Ok.wish {X:Cx}(ok:X.Ok)(E:Value->Shared->Prop):(X.wish E).Ok :=
 ⟨ok.mod,ok.kind,ok.glob,ok.blt,ok.above,ok.inj,ok.has,ok.cab,ok.hd,ok.frames,ok.stk,ok.exf,ok.bs,ok.bsz,ok.noex,ok.exfs,ok.funs,ok.frf⟩
theorem Cx.Ok.unwish {X:Cx}{E:Value->Shared->Prop}(ok:(X.wish E).Ok):X.Ok :=
 ⟨ok.mod,ok.kind,ok.glob,ok.blt,ok.above,ok.inj,ok.has,ok.cab,ok.hd,ok.frames,ok.stk,ok.exf,ok.bs,ok.bsz,ok.noex,ok.exfs,ok.funs,ok.frf⟩
section
variable {X:Cx}{pins:List (Addr × Obj)}{σ:St}{H:Hp}{s:Shared}{E:Value->Shared->Prop}
theorem Inv.wish (I:Inv X pins σ H s)(E:Value->Shared->Prop):Inv (X.wish E) pins σ H s:=⟨I.ok.wish E,I.os,I.bare,I.base,I.loc,I.cell,I.free,I.freeC,I.pin,I.hok,I.len⟩
theorem Inv.unwish (I:Inv (X.wish E) pins σ H s):Inv X pins σ H s:=⟨I.ok.unwish,I.os,I.bare,I.base,I.loc,I.cell,I.free,I.freeC,I.pin,I.hok,I.len⟩
theorem SP.unwish {D:Ends}(h:SP (X.wish E) pins D f s'):SP X pins D f s':=by
 cases f with
 | next=>obtain⟨σ',H',I,q⟩:=h;exact⟨σ',H',I.unwish,q⟩
 | brk=>obtain⟨σ',H',I,q⟩:=h;exact⟨σ',H',I.unwish,q⟩
 | cont=>obtain⟨σ',H',I,q⟩:=h;exact⟨σ',H',I.unwish,q⟩
 | ret u=>obtain⟨v,σ',H',I,r,q⟩:=h;exact⟨v,σ',H',I.unwish,r,q⟩
theorem PE.nox (h:PE X.nox e t):PE X e t:=fun pins s σ H Q I hw =>
 wpAny_mono (h pins s σ H Q (I.wish _) hw) (fun _ _ ⟨v,H',I',r,q⟩=>⟨v,H',I'.unwish,r,q⟩) fun _ _ z=>False.elim z
theorem PSs.nox (h:PSs X.nox st t):PSs X st t:=fun pins s σ H D I hw =>
 wpAny_mono (h pins s σ H D (I.wish _) hw) (fun _ _ q=>q.unwish) fun _ _ z=>False.elim z
end
section
variable {X:Cx}{st:Stmt}{rest:List Stmt}{t u:TS}{e:Expr}{te:TE}{pos:Pos}
noncomputable def IW:TS:=fun D σ H=>D.nx σ H
noncomputable def PH (t u:TS):TS:=fun D σ H=>t { D with nx:=u D } σ H
theorem BX:PSs X [] IW:=fun _ _ σ H _ I h=>wpAny_execs_nil ⟨σ,H,I,h⟩
theorem wM (h1:PS X st t)(h2:PSs X rest u):PSs X (st::rest) (PH t u):=by
 intro pins s σ H D I h;refine wpAny_execs_cons (thn (h1 pins s σ H { D with nx:=u D } I h) fun f s1 q=>?_);cases f with
 | next =>obtain⟨σ',H',I',q⟩:=q;exact h2 pins s1 σ' H' D I' q
 | ret v=>exact q
 | brk=>exact q
 | cont=>exact q
noncomputable def Lo:TS:=fun D σ H=>D.bk σ H
noncomputable def Np:TS:=fun D σ H=>D.ct σ H
theorem HV:PS X (.Pass pos) IW:=fun _ _ σ H _ I h=>wpAny_Pass ⟨σ,H,I,h⟩
theorem DG:PS X (.Break pos) Lo:=fun _ _ σ H _ I h=>wpAny_Break ⟨σ,H,I,h⟩
theorem w4:PS X (.Continue pos) Np:=fun _ _ σ H _ I h=>wpAny_Continue ⟨σ,H,I,h⟩
theorem Inv.quiet {σ:St}(I:Inv X pins σ H s):interactive X.env=false:=by simp[interactive,I.ok.kind]
noncomputable def NO (te:TE):TS:=fun D σ H=>te σ H fun _ H1=>D.nx σ H1
theorem AL (he:PE X e te)(hs:swapsWith e none pos.line X.env=pure false:=by rfl):PS X (.Expr e pos) (NO te):=by intro pins s σ H D I h;exact wpAny_Expr_any (thn (he pins s σ H _ I h) fun v s1 ⟨x,H1,I1,r1,q1⟩=>⟨σ,H1,I1,q1⟩) I.quiet hs
noncomputable def PN (te:TE):TS:=fun D σ H=>te σ H D.rt
theorem D5 (he:PE X e te):PS X (.Return (some e) pos) (PN te):=by intro pins s σ H D I h;exact wpAny_Return_some (thn (he pins s σ H _ I h) fun v s1 ⟨x,H1,I1,r1,q1⟩=>⟨x,σ,H1,I1,r1,q1⟩)
noncomputable def Og:TS:=fun D _ H=>D.rt .non H
theorem HK:PS X (.Return none pos) Og:=fun _ _ σ H _ I h=>wpAny_Return_none ⟨.non,σ,H,I,rfl,h⟩
noncomputable def Pt (c:TT)(t u:TS):TS:=fun D σ H=>c σ H fun b H1=>if b=true then t D σ H1 else u D σ H1
theorem N4 (hc:PT X c tc)(ha:PSs X a t)(hb:PSs X b u):PS X (.If c a b pos) (Pt tc t u):=by
 intro pins s σ H D I h;refine wpAny_If (thn (hc pins s σ H _ I h) fun d s1 ⟨H1,I1,q1⟩=>?_);cases d with
 | true=>exact ha pins s1 σ H1 D I1 q1
 | false=>exact hb pins s1 σ H1 D I1 q1
end
noncomputable abbrev TG:=V->St->Hp->(St->Hp->Prop)->Prop
noncomputable abbrev TGs:=List V->St->Hp->(St->Hp->Prop)->Prop
def PG (X:Cx)(target:Expr)(t:TG):Prop :=
 ∀(pins:List (Addr × Obj)) (s:Shared) (σ:St) (H:Hp) (v:V) (u:Value) (Q:St->Hp->Prop),Inv X pins σ H s->RelV v u->t v σ H Q ->
  wpAny (model X.prog X.w) X.A (assign target X.env u) (fun _ s'=>∃σ' H',Inv X pins σ' H' s'/\Q σ' H') X.xe s
def PGs (X:Cx)(ts:List Expr)(t:TGs):Prop :=
 ∀(pins:List (Addr × Obj)) (s:Shared) (σ:St) (H:Hp) (vs:List V) (us:List Value) (Q:St->Hp->Prop),Inv X pins σ H s->Vals vs us->t vs σ H Q ->
  wpAny (model X.prog X.w) X.A (assignInOrder ((assignEach ts X.env).map (·.2)) us) (fun _ s'=>∃σ' H',Inv X pins σ' H' s'/\Q σ' H') X.xe s
noncomputable abbrev Mi:=V->V->V->Hp->(Hp->Prop)->Prop
def LZ (X:Cx)(t:Mi):Prop :=
 ∀(pins:List (Addr × Obj)) (s:Shared) (σ:St) (H:Hp) (o i v:V) (ov iv u:Value) (Q:Hp->Prop),Inv X pins σ H s->RelV o ov->RelV i iv->RelV v u->t o i v H Q ->
  wpAny (model X.prog X.w) X.A (setItem ov iv u) (fun _ s'=>∃H',Inv X pins σ H' s'/\Q H') X.xe s
section
variable {X:Cx}{pos:Pos}
noncomputable def Jw (i:Nat):TG:=fun v σ H Q=>Q (σ.set i (some v)) H
theorem Ir {i:Nat}(hN:X.N.Nodup)(hi:X.N[i]?=some x)(hx:Loc X.env.scope x)(hf:X.fn x=true\/X.env.scope.names.lookup x=some .local:=by first|exact .inl rfl|exact .inr rfl|assumption):PG X (.Name x pos) (Jw i):=by intro pins s σ H v u Q I r h;exact wpAny_assign_Name (iW I hN hi hx r (fun s' I'=>⟨_,H,I',h⟩) hf)
noncomputable def PQ:TGs:=fun vs σ H Q=>vs=[]/\Q σ H
noncomputable def M4 (t:TG)(u:TGs):TGs:=fun vs σ H Q=>∃v r,vs=v::r/\t v σ H fun σ' H'=>u r σ' H' Q
theorem He:PGs X [] PQ:=by intro pins s σ H vs us Q I r h;obtain⟨e,h⟩:=h;subst e;cases r;exact assignInOrder_nil ⟨σ,H,I,h⟩
theorem Fb (h1:PG X e t)(h2:PGs X es u)(hs:(assignEach (e::es) X.env).map (·.2)=assign e X.env::(assignEach es X.env).map (·.2):=by rfl):PGs X (e::es) (M4 t u):=by
 intro pins s σ H vs us Q I r h;obtain⟨v,vr,e1,h⟩:=h;subst e1;cases r with
 | cons r rr =>rw[hs];refine assignInOrder_cons (thn (h1 pins s σ H _ _ _ I r h) fun _ s1 ⟨σ1,H1,I1,q1⟩=>?_);exact h2 pins s1 σ1 H1 _ _ Q I1 rr q1
noncomputable def Pj (K:W.Frag)(n:Nat)(t:TGs):TG:=fun v σ H Q=>∃a xs,v=.ref a/\SqT K H a xs/\xs.length=n/\t xs σ H Q
theorem Mh {es:List Expr}{k:Nat}{t:TGs}{n:Nat}(hc:X.calm=true)(h:PGs X es t)
  (hn:(assignEach es X.env).length=n:=by rfl) (hst:(assignEach es X.env).findIdx? (·.1)=none:=by rfl):PG X (.Tuple es k pos) (Pj X.K n t):=by
 intro pins s σ H v u Q I r hw;obtain⟨a,xs,e1,hq,hl,hw⟩:=hw;subst e1;cases r;obtain⟨its,rv,ht,hz⟩:=I.tuple hq;refine assign_Tuple_tuple (I.ok.hd hc) ht (by simp[hn,<-hl,rv.length]) hst fun h' hx=>?_;have I1:Inv X pins σ H { s with heap:=h' }:=I.kept (t':=s.toks) fun b o e=>hx b o (QU (QF e)) e;exact h pins _ σ H xs _ Q I1 (by simpa using rv) hw
noncomputable def PF (to ti:TE)(t:Mi):TG:=fun v σ H Q=>to σ H fun o H1=>ti σ H1 fun i H2=>t o i v H2 fun H3=>Q σ H3
theorem MG (ho:PE X o to)(hi:PE X i ti)(hs:LZ X t)(ha:∀v,assign (.Subscript o i pos) X.env v=(do
   let ov <-holding [v] (eval o X.env);let iv <-holding [v,ov] (eval i X.env)
   standAt pos
   holding [v,ov,iv] (setItem ov iv v)
   release [v,ov,iv] []):=by intro _;rfl):PG X (.Subscript o i pos) (PF to ti t):=by
 intro pins s σ H v u Q I r h;rw[ha];refine P4 (S4 (thn (ho pins s σ H _ I h) fun ov s1 ⟨x,H1,I1,r1,q1⟩=>?_));refine P4 (S4 (thn (hi pins s1 σ H1 _ I1 q1) fun iv s2 ⟨y,H2,I2,r2,q2⟩=>?_));refine P4 (wpAny_standAt (P4 (S4 (thn (hs pins s2 σ H2 x y v ov iv u _ I2 r1 r2 r q2) fun _ s3 ⟨H3,I3,q3⟩=>?_))));exact wpAny_release ⟨σ,H3,I3,q3⟩
noncomputable def IG (te:TE)(g:TG):TS:=fun D σ H=>te σ H fun x H1=>g x σ H1 D.nx
theorem qQ (he:PE X e te)(hg:PG X tg g)(hs:swapsWithSole [tg] e pos.line X.env=pure false:=by rfl)(hw:swappedStores [tg] e X.env=pure none:=by rfl)(h1:(assignEach [tg] X.env).map (·.2)=[assign tg X.env]:=by rfl):PS X (.Assign [tg] e pos) (IG te g):=by
 intro pins s σ H D I h;refine wpAny_Assign_stores (thn (he pins s σ H _ I h) fun v s1 ⟨x,H1,I1,r1,q1⟩=>?_) hs hw;rw[h1];exact thn (hg pins s1 σ H1 x v _ I1 r1 q1) fun _ s2 q=>q
theorem qr {i:Nat}(hN:X.N.Nodup)(hi:X.N[i]?=some x)(hx:Loc X.env.scope x)(he:PE X e te)(hs:swapsWith e (some (.Name x pos')) pos.line X.env=pure false:=by rfl)(hf:X.fn x=true\/X.env.scope.names.lookup x=some .local:=by first|exact .inl rfl|exact .inr rfl|assumption) :
  PS X (.Assign [.Name x pos'] e pos) (IG te (Jw i)):=by
 intro pins s σ H D I h;refine wpAny_Assign_Name (thn (he pins s σ H _ I h) fun v s1 ⟨y,H1,I1,r1,q1⟩=>?_) hs;exact iW I1 hN hi hx r1 (fun s2 I2=>⟨_,H1,I2,q1⟩) hf
noncomputable def Pm (i j:Nat)(ta:TA):TS:=fun D σ H=>ta σ H fun vs H1=>∃v w,vs=[v,w]/\D.nx ((σ.set i (some v)).set j (some w)) H1
theorem La {i j:Nat}{a:Expr}{kt k2 pt2}(hc:X.calm=true)(hN:X.N.Nodup)(hi:X.N[i]?=some x)(hj:X.N[j]?=some y)(hij:i≠j)(hx:X.env.scope.names.lookup x=some .local)(hy:X.env.scope.names.lookup y=some .local)(ha:PA X [a,b] ta)(hw:swappedStores [.Tuple [.Name x px,.Name y py] kt pt] (.Tuple [a,b] k2 pt2) X.env=pure (some [x,y]))(hs:swapsWithSole [.Tuple [.Name x px,.Name y py] kt pt] (.Tuple [a,b] k2 pt2) pos.line X.env=pure false:=by rfl) :
  PS X (.Assign [.Tuple [.Name x px,.Name y py] kt pt] (.Tuple [a,b] k2 pt2) pos) (Pm i j ta):=by
 intro pins s σ H D I h;rw[exec_Assign_arm];refine P4 (wpAny_standAt ?_);rw[hs];refine P4 (QE ?_);rw[QC (by decide)];refine P4 (Tuple_ (thn (ha _ pins s σ H _ I h) fun us s1 ⟨vs,H1,I1,r1,q1⟩=>?_));obtain⟨v,w,e1,q1⟩:=q1;subst e1;obtain⟨u1,u2,rfl,rv,rw'⟩:∃u1 u2,us=[u1,u2]/\RelV v u1/\RelV w u2:=by
  cases r1 with
  | cons p q =>
   cases q with
   | cons p' q' =>cases q';exact⟨_,_,rfl,p,p'⟩
 refine wpAny_newObj_type ?_ (by show 2<=sizeLine;decide);have I2:Inv X pins σ H1 { s1 with heap:=s1.heap.push { cls:=.type "tuple",data:=.seq [u1,u2].toArray } }:=I1.kept (t':=s1.toks) fun b o e=>P2 _ e;rw[hw];refine P4 (QE ?_);show wpAny (model X.prog X.w) X.A (do rule "assign.swapped-stores";let items <-unpackItems (.ref s1.heap.objs.size) 2 none;assignInOrder [fun v=>bindName X.env y v,fun v=>bindName X.env x v] items.reverse;pure Flow.next) _ _ _;refine P4 (wpAny_rule (P4 (unpackItems_tuple (items:=#[u1,u2]) (I.ok.hd hc) (IsTup.new s1.heap _) fun h' hx'=>?_)));have I3:=I2.kept (h':=h') (t':=s1.toks) fun b o e=>hx' b o (QU (QF e)) e;show wpAny _ _ (assignInOrder [fun v=>bindName X.env y v,fun v=>bindName X.env x v] [u2,u1] >>= fun _=>pure Flow.next) _ _ _;refine P4 (assignInOrder_cons (wpAny_bindName (iW I3 hN hj (.inl hy) rw' (fun s2 I4=>?_) (.inr hy))));refine assignInOrder_cons (wpAny_bindName (iW I4 hN hi (.inl hx) rv (fun s3 I5=>assignInOrder_nil (QE ?_)) (.inr hx)));rw[List.set_comm _ _ (Ne.symm hij)] at I5;exact⟨_,H1,I5,q1⟩
end
section
variable {X:Cx}{pos:Pos}
noncomputable def Gk (c:TT)(tb:TS):TS:=fun D σ H=>∃W:Nat->St->Hp->Prop,(∃m,W m σ H)/\∀m σ H,W m σ H ->
 c σ H fun b H1=>if b=true then ∃N:St->Hp->Prop,(∀σ' H',N σ' H'->∃m',m'<m/\W m' σ' H')/\tb { D with nx:=N,ct:=N,bk:=D.nx } σ H1 else D.nx σ H1
theorem DP (hp:PassesOwn (model X.prog X.w) X.A X.env X.xe)(hc:PT X c tc)(hb:PSs X body tb):PS X (.While c body [] pos) (Gk tc tb):=by
 intro pins s σ H D I h;obtain⟨W,⟨m0,w0⟩,turn⟩:=h;refine wpAny_While (codeAny_whileLoop (fun n s'=>∃σ' H',Inv X pins σ' H' s'/\W n σ' H') ?_ m0 ⟨σ,H,I,w0⟩);rintro n s1 ⟨σ1,H1,I1,w1⟩;refine wpAny_passesOwn hp (thn (hc pins s1 σ1 H1 _ I1 (turn n σ1 H1 w1)) fun b s2 ⟨H2,I2,q2⟩=>?_);cases b with
 | true =>
  obtain⟨N,hN,q2⟩:=q2;rw[QA rfl];refine wpAny_passesOwn hp (thn (hb pins s2 σ1 H2 _ I2 q2) fun f s3 q3=>?_);cases f with
  | next =>obtain⟨σ3,H3,I3,n3⟩:=q3;obtain⟨m',hm,w3⟩:=hN σ3 H3 n3;exact⟨m',hm,σ3,H3,I3,w3⟩
  | cont =>obtain⟨σ3,H3,I3,n3⟩:=q3;obtain⟨m',hm,w3⟩:=hN σ3 H3 n3;exact⟨m',hm,σ3,H3,I3,w3⟩
  | brk=>exact q3
  | ret v=>exact q3
 | false =>rw[QC P5];exact wpAny_execs_nil ⟨σ1,H2,I2,q2⟩
end
structure It where
 go:Nat->Hp->Prop
 yld:Nat->Hp->V->Hp->Prop
 stop:Nat->Hp->Prop
def jX (X:Cx)(pins:List (Addr × Obj))(H:Hp)(b:Addr):Prop :=
 H b=none/\b≠X.env.locals/\b ∉ X.fs/\(b∈X.ex\/X.s₀.heap.objs.size<=b)/\(∀x c,X.env.cells.lookup x=some c->c≠b)/\∀p∈X.pn++pins,p.1≠b
theorem Inv.fpOk {σ:St}{H':Hp}{b:Addr}(I:Inv X pins σ H s)(hb:s.heap.objs.size<=b)(hn:H' b=none):jX X pins H' b:=by
 refine⟨hn,TN (P7 I.lt hb),I.nofs hb,.inr (QP I.sz hb),fun x c e z=>?_,fun p hp z=>?_⟩
 ·obtain⟨v,q⟩:=I.cell x c e;exact absurd (P7 q.lt (by rw[z];exact hb)) (RX _)
 ·exact absurd (P7 (QF (I.pin p hp).1) (by rw[z];exact hb)) (RX _)
structure xJ (P:Program)(w:World)(K:W.Frag)(tg:Expr)(J:It)(fp:List Addr)(it:Addr)(tn:Nat->Heap->Prop):Prop where
 mem:it∈fp
 obj:∀i h,tn i h->∀b∈fp,∃o,h.get? b=some o/\∀v,o.data≠.cell v
 keep:∀i h h',tn i h->(∀b∈fp,∀o,h.get? b=some o->h'.get? b=some o)->tn i h'
 item:∀(X:Cx),X.prog=P->X.w=w->X.K=K->X.calm=true->∀(i:Nat) (pins:List (Addr × Obj)) (s:Shared) (σ:St) (H:Hp) (E:Value->Shared->Prop),Inv X pins σ H s->(∀b∈fp,jX X pins H b)->tn i s.heap->J.go i H ->
  wpAny (model P w) X.A (pyNext (.ref it)) (fun r s1=>∃u,r=some u /\
   wpAny (model P w) X.A (letOwnedTupleGo tg (.ref it) u) (fun _ s2=>∃x H',Inv X pins σ H' s2/\RelV x u/\J.yld i H x H'/\tn (i+1) s2.heap/\∀b∈fp,H' b=none) E s1) E s
 done:∀(X:Cx),X.prog=P->X.w=w->X.K=K->X.calm=true->∀(i:Nat) (pins:List (Addr × Obj)) (s:Shared) (σ:St) (H:Hp) (E:Value->Shared->Prop),Inv X pins σ H s->(∀b∈fp,jX X pins H b)->tn i s.heap->J.stop i H ->
  wpAny (model P w) X.A (pyNext (.ref it)) (fun r s1=>r=none/\Inv X pins σ H s1) E s
 self:∀(A:Around) (i:Nat) (s:Shared) (Q:Value->Shared->Prop) (E:Value->Shared->Prop),tn i s.heap->Q (.ref it) s->wpAny (model P w) A (pyIter (.ref it)) Q E s
noncomputable abbrev TI:=St->Hp->(It->Hp->Prop)->Prop
def PIE (X:Cx)(pins:List (Addr × Obj))(σ:St)(tg:Expr)(R:It->Hp->Prop)(itv:Value)(s2:Shared):Prop :=
 ∃(it:Addr) (fp:List Addr) (tn:Nat->Heap->Prop) (J:It) (H':Hp),itv=.ref it/\Inv X pins σ H' s2/\xJ X.prog X.w X.K tg J fp it tn/\tn 0 s2.heap/\(∀b∈fp,jX X pins H' b)/\R J H'
def PI (X:Cx)(tg iter:Expr)(wi:TI):Prop :=
 ∀(pins:List (Addr × Obj)) (s:Shared) (σ:St) (H:Hp) (R:It->Hp->Prop),Inv X pins σ H s->wi σ H R ->
  wpAny (model X.prog X.w) X.A (eval iter X.env) (fun v s1=>wpAny (model X.prog X.w) X.A (pyIter v) (PIE X pins σ tg R) X.xe s1) X.xe s
theorem wQ {M:Model}{E:Value->Shared->Prop}{s:Shared}{Q:Unit->Shared->Prop}(ho:s.heap.get? it=some o)(hc:o.cls=.type n)(hd:o.data=.fields vs)(hn:["enumerate","zip","dict_itemiterator","dict_reverseitemiterator","odict_iterator","itertools.zip_longest","itertools.pairwise"].contains n=false)(hQ:Q () s):wpAny M A (letOwnedTupleGo tg (.ref it) u) Q E s:=by
 unfold letOwnedTupleGo;cases tg <;> first
  | exact QE hQ
  | (cases u <;> first
    | exact QE hQ
    | (refine P4 (wpAny_load ho ?_)
       rw[hc,hd];show wpAny M A (if (["enumerate","zip","dict_itemiterator","dict_reverseitemiterator","odict_iterator","itertools.zip_longest","itertools.pairwise"].contains n && vs[0]? == some (rawInt _))=true then _ else _) Q E s;rw[QC (by intro h;rw[hn,UB] at h;cases h)];exact QE hQ))
noncomputable def Itl (K:W.Frag)(a:Addr):It :=
 ⟨fun i H=>∃xs x,SqL K H a xs/\xs[i]?=some x,fun i H x H'=>H'=H/\∀xs,SqL K H a xs->xs[i]?=some x,fun i H=>∃xs,SqL K H a xs/\xs.length<=i⟩
noncomputable def Itt (K:W.Frag)(a:Addr):It :=
 ⟨fun i H=>∃xs x,SqT K H a xs/\xs[i]?=some x,fun i H x H'=>H'=H/\∀xs,SqT K H a xs->xs[i]?=some x,fun i H=>∃xs,SqT K H a xs/\xs.length<=i⟩
noncomputable def Itr (lo:Int)(n:Nat):It:=⟨fun i _=>i<n,fun i H x H'=>H'=H/\x=.int (lo+i),fun i _=>n<=i⟩
theorem Cd {P:Program}{w:World}{K:W.Frag}{tg:Expr}(a it:Addr):xJ P w K tg (Itl K a) [it] it (fun i h=>h.IsListIter it a i) where
 mem:=by simp
 obj:=fun i h st b hb=>by
  have e:b=it:=by simpa using hb
  subst e;obtain⟨o,e,c,d⟩:=st;exact⟨o,e,fun v z=>by rw[d] at z;cases z⟩
 keep:=fun i h h' st k=>st.at fun o e=>k it (by simp) o e
 item:=by intro X hP hw hK hc i pins s σ H E I hf st hg;subst hP hw hK;obtain⟨xs,x,hq,hx⟩:=hg;obtain⟨its,rv,p,hz⟩:=I.list hq;obtain⟨u,hu,ru⟩:=rv.get hx;obtain⟨f0,f1,f2,f3,f4,f5⟩:=hf it (by simp);refine wpAny_pyNext_list_item st p.isList (x:=u) (by simpa using hu) fun h' st' sb=>?_;have I1:Inv X pins σ H { s with heap:=h' }:=I.turned (t':=s.toks) (fun b o hb e=>(sb.2 b hb).trans e) f0 f1 f3 f4 f5;obtain⟨o,e,c,d⟩:=id st';exact⟨u,rfl,wQ (s:={ s with heap:=h' }) e c d (by decide) ⟨x,H,I1,ru,⟨rfl,fun ys hy=>by rw[I.list_inj hy hq];exact hx⟩,st',fun b hb=>(hf b hb).1⟩⟩
 done:=by intro X hP hw hK hc i pins s σ H E I hf st hg;subst hP hw hK;obtain⟨xs,hq,hx⟩:=hg;obtain⟨its,rv,p,hz⟩:=I.list hq;obtain⟨f0,f1,f2,f3,f4,f5⟩:=hf it (by simp);have hl:=rv.length;exact wpAny_pyNext_list_end (I.ok.hd hc) st p.isList (by simp;omega) fun h' eb=>⟨rfl,I.turned (t':=s.toks) (fun b o hb e=>eb b o hb e) f0 f1 f3 f4 f5⟩
 self:=fun _ _ _ _ _ st h=>wpAny_pyIter_listiter st h
theorem zB {P:Program}{w:World}{K:W.Frag}{tg:Expr}(a it:Addr):xJ P w K tg (Itt K a) [it] it (fun i h=>h.IsTupleIter it a i) where
 mem:=by simp
 obj:=fun i h st b hb=>by
  have e:b=it:=by simpa using hb
  subst e;obtain⟨o,e,c,d⟩:=st;exact⟨o,e,fun v z=>by rw[d] at z;cases z⟩
 keep:=fun i h h' st k=>st.at fun o e=>k it (by simp) o e
 item:=by intro X hP hw hK hc i pins s σ H E I hf st hg;subst hP hw hK;obtain⟨xs,x,hq,hx⟩:=hg;obtain⟨its,rv,p,hz⟩:=I.tuple hq;obtain⟨u,hu,ru⟩:=rv.get hx;obtain⟨f0,f1,f2,f3,f4,f5⟩:=hf it (by simp);refine wpAny_pyNext_tuple_item st (show s.heap.IsTuple a its.toArray from p) (x:=u) (by simpa using hu) fun h' st' sb=>?_;have I1:Inv X pins σ H { s with heap:=h' }:=I.turned (t':=s.toks) (fun b o hb e=>(sb.2 b hb).trans e) f0 f1 f3 f4 f5;obtain⟨o,e,c,d⟩:=id st';exact⟨u,rfl,wQ (s:={ s with heap:=h' }) e c d (by decide) ⟨x,H,I1,ru,⟨rfl,fun ys hy=>by rw[I.tuple_inj hy hq];exact hx⟩,st',fun b hb=>(hf b hb).1⟩⟩
 done:=by intro X hP hw hK hc i pins s σ H E I hf st hg;subst hP hw hK;obtain⟨xs,hq,hx⟩:=hg;obtain⟨its,rv,p,hz⟩:=I.tuple hq;obtain⟨f0,f1,f2,f3,f4,f5⟩:=hf it (by simp);have hl:=rv.length;exact wpAny_pyNext_tuple_end (I.ok.hd hc) st (show s.heap.IsTuple a its.toArray from p) (by simp;omega) fun h' eb=>⟨rfl,I.turned (t':=s.toks) (fun b o hb e=>eb b o hb e) f0 f1 f3 f4 f5⟩
 self:=fun _ _ _ _ _ st h=>wpAny_pyIter_tupleiter st h
theorem zW {P:Program}{w:World}{K:W.Frag}{tg:Expr}(it:Addr)(lo:Int)(n:Nat):xJ P w K tg (Itr lo n) [it] it (fun i h=>IsRangeIter h it (lo+(i:Nat)*1) ((n:Int)-(i:Nat)) 1) where
 mem:=by simp
 obj:=fun i h st b hb=>by
  have e:b=it:=by simpa using hb
  subst e;exact⟨_,st,fun v z=>by have z':Data.fields _=Data.cell v:=z;cases z'⟩
 keep:=fun i h h' st k=>k it (by simp) _ st
 item:=by intro X hP hw hK hc i pins s σ H E I hf st hg;subst hP hw hK;obtain⟨f0,f1,f2,f3,f4,f5⟩:=hf it (by simp);have W:=Walks.range (prog:=X.prog) (w:=X.w) (I.ok.hd hc) it lo 1 n;refine W.item i s _ _ hg st fun v h' tk hv st' kk=>?_;obtain⟨t,rfl⟩:=hv;have I1:Inv X pins σ H { s with heap:=h',toks:=tk }:=I.turned (fun b o hb e=>kk b o (by simpa using hb) e) f0 f1 f3 f4 f5;refine ⟨_,rfl,wQ (s:={ s with heap:=h',toks:=tk }) (n:="range_iterator") st' rfl rfl (by decide) ⟨.int (lo+i),H,I1,⟨t,?_⟩,⟨rfl,rfl⟩,st',fun b hb=>(hf b hb).1⟩⟩;rw[Int.mul_one]
 done:=by intro X hP hw hK hc i pins s σ H E I hf st hg;subst hP hw hK;obtain⟨f0,f1,f2,f3,f4,f5⟩:=hf it (by simp);exact wpAny_pyNext_range_end (I.ok.hd hc) st (by have:n<=i:=hg;omega) fun h' eb=>⟨rfl,I.turned (t':=s.toks) (fun b o hb e=>eb b o hb e) f0 f1 f3 f4 f5⟩
 self:=fun _ _ _ _ _ st h=>wpAny_pyIter_rangeiter st h
end L2
namespace L2
section
variable {X:Cx}{tg:Expr}
theorem xt {σ:St}{R:It->Hp->Prop}{E:Value->Shared->Prop}{lo hi:Int}{t u v:Tok}{tk:Nat}(I:Inv X pins σ H s)(h1:-(2 ^ 62)<=lo)(h2:lo<2 ^ 62)(h3:-(2 ^ 62)<=hi)(h4:hi<2 ^ 62)(q:R (Itr lo (hi-lo).toNat) H):wpAny (model X.prog X.w) X.A (pyIter (.ref s.heap.objs.size)) (PIE X pins σ tg R) E { s with heap:=s.heap.push { cls:=.type "range",data:=.fields #[.int lo t,.int hi u,.int 1 v] },toks:=tk }:=by
 refine wpAny_pyIter_range (IsRange.new ..) (small_one h1 h2 h3 h4) ?_;have I1:Inv X pins σ H { s with heap:=s.heap.push { cls:=.type "range",data:=.fields #[.int lo t,.int hi u,.int 1 v] },toks:=tk }:=I.kept fun b o e=>P2 _ e;refine ⟨(s.heap.push { cls:=.type "range",data:=.fields #[.int lo t,.int hi u,.int 1 v] }).objs.size,[(s.heap.push { cls:=.type "range",data:=.fields #[.int lo t,.int hi u,.int 1 v] }).objs.size],_,_,H,rfl,
  I1.kept (t':=tk) fun b o e=>P2 _ e,zW _ lo (hi-lo).toNat,?_,fun b hb=>?_,q⟩
 ·have e1:lo+((0:Nat):Int)*1=lo:=by simp
  have e2:(((hi-lo).toNat:Nat):Int)-((0:Nat):Int)=Builtin.Range.rangeSize lo hi 1:=by rw[rangeSize_one];split <;> omega
  show IsRangeIter _ _ (lo+((0:Nat):Int)*1) ((((hi-lo).toNat:Nat):Int)-((0:Nat):Int)) 1;rw[e1,e2];exact QG _ rfl
 ·have e:b=(s.heap.push { cls:=.type "range",data:=.fields #[.int lo t,.int hi u,.int 1 v] }).objs.size:=by simpa using hb
  subst e;exact I1.fpOk (P6 _) (I1.hok.fresh (P6 _))
noncomputable def M5 (ta:TA):TI:=fun σ H R=>ta σ H fun vs H1=>∃j:Int,vs=[.int j]/\-(2 ^ 62)<=j/\j<2 ^ 62/\R (Itr 0 j.toNat) H1
noncomputable def Nw (ta:TA):TI:=fun σ H R=>ta σ H fun vs H1=>∃i j:Int,vs=[.int i,.int j]/\(-(2 ^ 62)<=i/\i<2 ^ 62/\-(2 ^ 62)<=j/\j<2 ^ 62)/\R (Itr i (j-i).toNat) H1
theorem Cq {a:Expr}(hg:Gl X "range")(hm:X.mg "range"=none)(ha:PA X [a] ta)(hs:starEach [a] X.env=[(false,eval a X.env)]:=by rfl):PI X tg (.Call (.Name "range" p) [a] [] pos) (M5 ta):=by
 intro pins s σ H R I h;refine Call_ (jE I hg hm boot_range (RA (thn (ha pos pins s σ H _ I h) fun us s1 ⟨vs,H1,I1,r1,q1⟩=>?_) hs rfl));obtain⟨j,e,q1,q2,q⟩:=q1;subst e;cases r1 with
 | cons r rr =>cases rr;obtain⟨t,rfl⟩:=r;exact call_range_1 (xt I1 (by omega) (by omega) q1 q2 (by simpa using q))
theorem Dc {a b:Expr}{ta:TA}{p pos:Pos}(hg:Gl X "range")(hm:X.mg "range"=none)(ha:PA X [a,b] ta)(hs:starEach [a,b] X.env=[(false,eval a X.env),(false,eval b X.env)]:=by rfl)(hs2:starEach [b] X.env=[(false,eval b X.env)]:=by rfl) :
  PI X tg (.Call (.Name "range" p) [a,b] [] pos) (Nw ta):=by
 intro pins s σ H R I h;refine Call_ (jE I hg hm boot_range (RA (thn (ha pos pins s σ H _ I h) fun us s1 ⟨vs,H1,I1,r1,q1⟩=>?_) (by rw[hs,hs2]) (by rw[hs2];rfl)));obtain⟨i,j,e,⟨q1,q2,q3,q4⟩,q⟩:=q1;subst e;cases r1 with
 | cons r rr =>
  cases rr with
  | cons r' rr =>cases rr;obtain⟨t,rfl⟩:=r;obtain⟨t',rfl⟩:=r';exact call_range_2 (xt I1 q1 q2 q3 q4 q)
noncomputable def MN (wi:TI)(g:TG)(tb:TS):TS:=fun D σ H=>wi σ H fun J H1=>∃W:Nat->Nat->St->Hp->Prop,(∃m,W 0 m σ H1)/\∀i m σ H,W i m σ H ->
 (J.stop i H/\D.nx σ H)\/(J.go i H/\∃N:St->Hp->Prop,(∀σ' H',N σ' H'->∃m',m'<m/\W (i+1) m' σ' H')/\∀x H',J.yld i H x H'->g x σ H' fun σ2 H2=>tb { D with nx:=N,ct:=N,bk:=D.nx } σ2 H2)
noncomputable def n6 (fp:List Addr)(h:Heap):List (Addr × Obj):=fp.filterMap fun b=>(h.get? b).map fun o=>(b,o)
theorem eY {fp:List Addr}{h:Heap}{b:Addr}(hb:b∈fp)(e:h.get? b=some o):(b,o)∈n6 fp h:=R7.mpr ⟨b,hb,by rw[e];rfl⟩
theorem CQ {p:Addr × Obj}(hp:p∈n6 fp h):p.1∈fp/\h.get? p.1=some p.2:=by
 obtain⟨b,hb,e⟩:=R7.mp hp;cases q:h.get? b with
 | none=>rw[q] at e;cases e
 | some o =>rw[q] at e;have e':(b,o)=p:=Q2 e;subst e';exact⟨hb,q⟩
theorem Inv.pinned {σ:St}{fp:List Addr}(I:Inv X pins σ H s)(hf:∀b∈fp,jX X pins H b)(ho:∀b∈fp,∃o,s.heap.get? b=some o/\∀v,o.data≠.cell v):Inv X (pins++n6 fp s.heap) σ H s :=
 I.pins_of fun p hp=>(Q5.mp hp).elim (fun z=>I.pin p (QX _ z)) fun z=>by obtain⟨hb,e⟩:=CQ z;obtain⟨f0,f1,f2,_⟩:=hf p.1 hb;obtain⟨o,e',d⟩:=ho p.1 hb;rw[e] at e';cases e';exact⟨e,f0,f1,f2,d⟩
theorem Inv.unpinned {pins pl:List (Addr × Obj)}{σ:St}(I:Inv X (pins++pl) σ H s):Inv X pins σ H s:=I.pins_of fun p hp=>I.pin p (QX _ (RY _ hp))
theorem Li (hp:PassesOwn (model X.prog X.w) X.A X.env X.xe)(hc:X.calm=true)(hi:PI X tg iter wi)(hg:PG X tg g)(hb:PSs X body tb)(hs:∀x,foldedSetIterable iter X.env x=pure x:=by intro _;rfl):PS X (.For tg iter body [] pos) (MN wi g tb):=by
 intro pins s σ H D I h;refine wpAny_For (thn (hi pins s σ H _ I h) fun v s1 h1=>thn h1 fun itv s2 h2=>?_) hs;obtain⟨it,fp,tn,J,H2,e,I2,T,st2,f2,W,⟨m0,w0⟩,turn⟩:=h2;subst e;have stat:∀ {H':Hp},(∀b∈fp,H' b=none)->∀b∈fp,jX X pins H' b:=fun hn b hb=>⟨hn b hb,(f2 b hb).2⟩;refine codeAny_forLoop_any (fun n s'=>∃i σ' H',Inv X pins σ' H' s'/\tn i s'.heap/\(∀b∈fp,H' b=none)/\W i n σ' H') ?_ m0 ⟨0,σ,H2,I2,st2,fun b hb=>(f2 b hb).1,w0⟩;rintro n s3 ⟨i,σ3,H3,I3,st3,fr3,w3⟩;rcases turn i n σ3 H3 w3 with⟨stop,qn⟩|⟨go,N,hN,step⟩
 ·refine wpAny_passesOwn hp (thn (T.done X rfl rfl rfl hc i pins s3 σ3 H3 X.xe I3 (stat fr3) st3 stop) fun r s4 ⟨hr,I4⟩=>?_);subst hr;exact wpAny_execs_nil ⟨σ3,H3,I4,qn⟩
 ·refine wpAny_passesOwn hp (thn (T.item X rfl rfl rfl hc i pins s3 σ3 H3 X.xe I3 (stat fr3) st3 go) fun r s4 ⟨u,hr,h4⟩=>?_);subst hr;refine wpAny_passesOwn hp (thn h4 fun _ s5 ⟨x,H5,I5,r5,y5,st5,fr5⟩=>?_);have I5':=I5.pinned (stat fr5) (T.obj _ _ st5);refine wpAny_passesOwn hp (thn (hg _ s5 σ3 H5 x u _ I5' r5 (step x H5 y5)) fun _ s6 ⟨σ6,H6,I6,q6⟩=>?_);refine wpAny_passesOwn hp (thn (hb _ s6 σ6 H6 _ I6 q6) fun f s7 q7=>?_);have again:∀ {σ7:St}{H7:Hp},Inv X (pins++n6 fp s5.heap) σ7 H7 s7->N σ7 H7->∃m,m<n/\∃i σ' H',Inv X pins σ' H' s7/\tn i s7.heap/\(∀b∈fp,H' b=none)/\W i m σ' H':=fun {σ7 H7} I7 n7=>by obtain⟨m',hm,w7⟩:=hN σ7 H7 n7;refine⟨m',hm,i+1,σ7,H7,I7.unpinned,T.keep _ _ _ st5 fun b hb o e=>(I7.pin (b,o) (QX _ (QX _ (eY hb e)))).1,fun b hb=>?_,w7⟩;obtain⟨o,e,d⟩:=T.obj _ _ st5 b hb;exact(I7.pin (b,o) (QX _ (QX _ (eY hb e)))).2.1
  cases f with
  | next=>obtain⟨σ7,H7,I7,n7⟩:=q7;exact again I7 n7
  | cont=>obtain⟨σ7,H7,I7,n7⟩:=q7;exact again I7 n7
  | brk=>obtain⟨σ7,H7,I7,q7⟩:=q7;exact⟨σ7,H7,I7.unpinned,q7⟩
  | ret v=>obtain⟨x7,σ7,H7,I7,r7,q7⟩:=q7;exact⟨x7,σ7,H7,I7.unpinned,r7,q7⟩
end
end L2
namespace L2
noncomputable abbrev R2:=V->V->Hp->VK->Prop
def OpR (X:Cx)(f:Value->Value->Sem Value)(r:R2):Prop :=
 ∀(pins:List (Addr × Obj)) (s:Shared) (σ:St) (H:Hp) (x y:V) (v u:Value) (Q:VK),Inv X pins σ H s->RelV x v->RelV y u->r x y H Q ->
  wpAny (model X.prog X.w) X.A (f v u) (EP X pins σ Q) X.xe s
def UnR (X:Cx)(f:Value->Sem Value)(r:V->Hp->VK->Prop):Prop :=
 ∀(pins:List (Addr × Obj)) (s:Shared) (σ:St) (H:Hp) (x:V) (v:Value) (Q:VK),Inv X pins σ H s->RelV x v->r x H Q ->
  wpAny (model X.prog X.w) X.A (f v) (EP X pins σ Q) X.xe s
def fO (X:Cx)(f:Value)(r:List V->Hp->VK->Prop):Prop :=
 ∀(pins:List (Addr × Obj)) (s:Shared) (σ:St) (H:Hp) (xs:List V) (us:List Value) (Q:VK),Inv X pins σ H s->Vals xs us->r xs H Q ->
  wpAny (model X.prog X.w) X.A (call f us) (EP X pins σ Q) X.xe s
def PL (X:Cx)(r:V->Hp->(Bool->Hp->Prop)->Prop):Prop :=
 ∀(pins:List (Addr × Obj)) (s:Shared) (σ:St) (H:Hp) (x:V) (v:Value) (Q:Bool->Hp->Prop),Inv X pins σ H s->RelV x v->r x H Q ->
  wpAny (model X.prog X.w) X.A (truthy v) (TP X pins σ Q) X.xe s
noncomputable def tOp (r:R2)(ta tb:TE):TE:=fun σ H Q=>ta σ H fun x H1=>tb σ H1 fun y H2=>r x y H2 Q
noncomputable def tUn (r:V->Hp->VK->Prop)(ta:TE):TE:=fun σ H Q=>ta σ H fun x H1=>r x H1 Q
noncomputable def rI (C:Int->Int->Prop)(g:Int->Int->V):R2:=fun x y H Q=>∃i j,x=.int i/\y=.int j/\C i j/\Q (g i j) H
noncomputable def rI0 (g:Int->Int->V):R2:=fun x y H Q=>∃i j,x=.int i/\y=.int j/\Q (g i j) H
noncomputable def rU (g:Int->V):V->Hp->VK->Prop:=fun x H Q=>∃i,x=.int i/\Q (g i) H
section
variable {X:Cx}{a b c:Expr}{ta tb tc:TE}{pos:Pos}
theorem L9 (ha:PE X a ta)(hb:PE X b tb){σ:St}{R:V->V->Hp->Prop}(I:Inv X pins σ H s)(h:ta σ H fun x H1=>tb σ H1 fun y H2=>R x y H2){f:Value->Value->Sem Value}(hf:∀v u s2 x y H2,Inv X pins σ H2 s2->RelV x v->RelV y u->R x y H2->wpAny (model X.prog X.w) X.A (f v u) Q X.xe s2) :
  wpAny (model X.prog X.w) X.A (eval a X.env) (fun v s₁=>wpAny (model X.prog X.w) X.A (eval b X.env) (fun u s₂=>wpAny (model X.prog X.w) X.A (f v u) Q X.xe s₂) X.xe s₁) X.xe s:=by
 refine thn (ha pins s σ H _ I h) fun v s1 ⟨x,H1,I1,r1,q1⟩=>?_;refine thn (hb pins s1 σ H1 _ I1 q1) fun u s2 ⟨y,H2,I2,r2,q2⟩=>?_;exact hf v u s2 x y H2 I2 r1 r2 q2
theorem O3 (ho:OpR X (binaryOp op) r)(ha:PE X a ta)(hb:PE X b tb):PE X (.BinOp a op b pos) (tOp r ta tb):=by intro pins s σ H Q I h;exact wpAny_BinOp (L9 ha hb I h fun v u s2 x y H2 I2 rx ry q=>ho pins s2 σ H2 x y v u Q I2 rx ry q)
theorem K8 (ho:UnR X (unaryOp op) r)(ha:PE X a ta):PE X (.UnaryOp op a pos) (tUn r ta):=by intro pins s σ H Q I h;exact UnaryOp_ (thn (ha pins s σ H _ I h) fun v s1 ⟨x,H1,I1,r1,q1⟩=>ho pins s1 σ H1 x v Q I1 r1 q1)
theorem opI {f:Value->Value->Sem Value}{C:Int->Int->Prop}{g:Int->Int->Int}
  (rule:∀(i j:Int) (t u:Tok) (s:Shared) (Q:Value->Shared->Prop) (E:Value->Shared->Prop),C i j->Q (.int (g i j) s.toks) { s with toks:=s.toks+1 }->wpAny (model X.prog X.w) X.A (f (.int i t) (.int j u)) Q E s) :
  OpR X f (rI C fun i j=>.int (g i j)):=by
 intro pins s σ H x y v u Q I rx ry h;obtain⟨i,j,rfl,rfl,hc,q⟩:=h;obtain⟨t,rfl⟩:=rx;obtain⟨t',rfl⟩:=ry;exact rule i j t t' s _ _ hc ⟨.int (g i j),H,I.tok _,⟨_,rfl⟩,q⟩
theorem OC {f:Value->Value->Sem Value}{g:Int->Int->Int}
  (rule:∀(i j:Int) (t u:Tok) (s:Shared) (Q:Value->Shared->Prop) (E:Value->Shared->Prop),Q (.int (g i j) s.toks) { s with toks:=s.toks+1 }->wpAny (model X.prog X.w) X.A (f (.int i t) (.int j u)) Q E s) :
  OpR X f (rI0 fun i j=>.int (g i j)):=by
 intro pins s σ H x y v u Q I rx ry h;obtain⟨i,j,rfl,rfl,q⟩:=h;obtain⟨t,rfl⟩:=rx;obtain⟨t',rfl⟩:=ry;exact rule i j t t' s _ _ ⟨.int (g i j),H,I.tok _,⟨_,rfl⟩,q⟩
theorem IV {f:Value->Value->Sem Value}{g:Int->Int->Bool}
  (rule:∀(i j:Int) (t u:Tok) (s:Shared) (Q:Value->Shared->Prop) (E:Value->Shared->Prop),Q (.bool (g i j)) s->wpAny (model X.prog X.w) X.A (f (.int i t) (.int j u)) Q E s) :
  OpR X f (rI0 fun i j=>.bl (g i j)):=by
 intro pins s σ H x y v u Q I rx ry h;obtain⟨i,j,rfl,rfl,q⟩:=h;obtain⟨t,rfl⟩:=rx;obtain⟨t',rfl⟩:=ry;exact rule i j t t' s _ _ ⟨.bl (g i j),H,I,rfl,q⟩
def yZ (i j:Int):Prop:=0<=j/\j<=1000000/\i.natAbs<2 ^ 64
theorem L5:OpR X (binaryOp .Add) (rI0 fun i j=>.int (i+j)):=OC fun _ _ _ _ _ _ _ q=>add_int q
theorem Lc:OpR X (binaryOp .Sub) (rI0 fun i j=>.int (i-j)):=OC fun _ _ _ _ _ _ _ q=>sub_int q
theorem Lz:OpR X (binaryOp .Mod) (rI (fun _ j=>0<j) fun i j=>.int (i % j)):=opI fun i j _ _ _ _ _ hc q=>by have h1:(0:Int)<j:=hc;exact mod_int' (by omega) (by rw[Int.fmod_eq_emod_of_nonneg i (by omega)];exact q)
theorem Lm:OpR X (binaryOp .Pow) (rI yZ fun i j=>.int (i ^ j.toNat)):=opI fun _ _ _ _ _ _ _ hc q=>pow_int_small hc.1 hc.2.1 hc.2.2 q
theorem unI {f:Value->Sem Value}{g:Int->Int}
  (rule:∀(i:Int) (t:Tok) (s:Shared) (Q:Value->Shared->Prop) (E:Value->Shared->Prop),Q (.int (g i) s.toks) { s with toks:=s.toks+1 }->wpAny (model X.prog X.w) X.A (f (.int i t)) Q E s) :
  UnR X f (rU fun i=>.int (g i)):=by
 intro pins s σ H x v Q I rx h;obtain⟨i,rfl,q⟩:=h;obtain⟨t,rfl⟩:=rx;exact rule i t s _ _ ⟨.int (g i),H,I.tok _,⟨_,rfl⟩,q⟩
theorem Gv:UnR X (unaryOp .USub) (rU fun i=>.int (-i)):=unI fun _ _ _ _ _ q=>neg_int q
end
noncomputable def Nz:V->V->Bool
 | .non,.non=>true | .non,.int _=>true | .int _,.non=>true | .non,.bl _=>true | .bl _,.non=>true | .non,.str _=>true | .str _,.non=>true
 | .int _,.int _=>true | .bl _,.bl _=>true | .str _,.str _=>true | .byt _,.byt _=>true
 | .int _,.str _=>true | .str _,.int _=>true | .bl _,.str _=>true | .str _,.bl _=>true
 | _,_=>false
noncomputable def rEq:R2:=fun x y H Q=>Nz x y=true/\Q (.bl (decide (x=y))) H
noncomputable def rNe:R2:=fun x y H Q=>Nz x y=true/\Q (.bl (!decide (x=y))) H
theorem AG:decide (V.int i=V.int j)=(i == j):=by rw[SR];simp
theorem DU:decide (V.bl i=V.bl j)=(i == j):=by rw[SR];simp
theorem AN:decide (V.str i=V.str j)=(i == j):=by rw[SR];simp
theorem A5 {i j:Array UInt8}:decide (V.byt i=V.byt j)=(i.toList == j.toList):=by rw[SR];cases i;cases j;simp
section
variable {X:Cx}{a b c:Expr}{ta tb tc:TE}{pos:Pos}
theorem aH {σ:St}{Q:VK}{k':Bool}(I:Inv X pins σ H s)(q:Q (.bl k) H)(e:k=k'):EP X pins σ Q (.bool k') s:=by subst e;exact⟨.bl k,H,I,rfl,q⟩
theorem F3:OpR X (compareOp .Eq) rEq:=by
 intro pins s σ H x y v u Q I rx ry h;obtain⟨hs,q⟩:=h;cases x with
 | non =>
  cases rx;cases y with
  | non=>cases ry;exact PySem.EqNone.eq_none_none (aH I q (by simp))
  | bl j=>cases ry;exact PySem.EqNone.eq_none_bool (aH I q (by simp))
  | int j=>obtain⟨t',rfl⟩:=ry;exact PySem.EqNone.eq_none_int (aH I q (by simp))
  | str j=>obtain⟨t',rfl⟩:=ry;exact PySem.EqNone.eq_none_str (aH I q (by simp))
  | _=>exact absurd (show false=true from hs) P5
 | bl i =>
  cases rx;cases y with
  | non=>cases ry;exact PySem.EqNone.eq_bool_none (aH I q (by simp))
  | bl j=>cases ry;exact eq_bool (aH I q DU)
  | str j=>obtain⟨t',rfl⟩:=ry;exact PySem.EqMixed.eq_bool_str (aH I q (by simp))
  | _=>exact absurd (show false=true from hs) P5
 | int i =>
  obtain⟨t,rfl⟩:=rx;cases y with
  | non=>cases ry;exact PySem.EqNone.eq_int_none (aH I q (by simp))
  | int j=>obtain⟨t',rfl⟩:=ry;exact eq_int (aH I q AG)
  | str j=>obtain⟨t',rfl⟩:=ry;exact PySem.EqMixed.eq_int_str (aH I q (by simp))
  | _=>exact absurd (show false=true from hs) P5
 | str i =>
  obtain⟨t,rfl⟩:=rx;cases y with
  | non=>cases ry;exact PySem.EqNone.eq_str_none (aH I q (by simp))
  | bl j=>cases ry;exact PySem.EqMixed.eq_str_bool (aH I q (by simp))
  | int j=>obtain⟨t',rfl⟩:=ry;exact PySem.EqMixed.eq_str_int (aH I q (by simp))
  | str j=>obtain⟨t',rfl⟩:=ry;exact eq_str (aH I q AN)
  | _=>exact absurd (show false=true from hs) P5
 | byt i =>
  obtain⟨t,rfl⟩:=rx;cases y with
  | byt j=>obtain⟨t',rfl⟩:=ry;exact W.eq_bytes (aH I q A5)
  | _=>exact absurd (show false=true from hs) P5
 | _=>cases y <;> exact absurd (show false=true from hs) P5
theorem Fo:OpR X (compareOp .NotEq) rNe:=by
 intro pins s σ H x y v u Q I rx ry h;obtain⟨hs,q⟩:=h;cases x with
 | non =>
  cases rx;cases y with
  | non=>cases ry;exact PySem.EqNone.ne_none_none (aH I q (by simp))
  | bl j=>cases ry;exact PySem.EqNone.ne_none_bool (aH I q (by simp))
  | int j=>obtain⟨t',rfl⟩:=ry;exact PySem.EqNone.ne_none_int (aH I q (by simp))
  | str j=>obtain⟨t',rfl⟩:=ry;exact PySem.EqNone.ne_none_str (aH I q (by simp))
  | _=>exact absurd (show false=true from hs) P5
 | bl i =>
  cases rx;cases y with
  | non=>cases ry;exact PySem.EqNone.ne_bool_none (aH I q (by simp))
  | bl j=>cases ry;exact ne_bool (aH I q (Q0 not DU))
  | str j=>obtain⟨t',rfl⟩:=ry;exact PySem.EqMixed.ne_bool_str (aH I q (by simp))
  | _=>exact absurd (show false=true from hs) P5
 | int i =>
  obtain⟨t,rfl⟩:=rx;cases y with
  | non=>cases ry;exact PySem.EqNone.ne_int_none (aH I q (by simp))
  | int j=>obtain⟨t',rfl⟩:=ry;exact ne_int (aH I q (Q0 not AG))
  | str j=>obtain⟨t',rfl⟩:=ry;exact PySem.EqMixed.ne_int_str (aH I q (by simp))
  | _=>exact absurd (show false=true from hs) P5
 | str i =>
  obtain⟨t,rfl⟩:=rx;cases y with
  | non=>cases ry;exact PySem.EqNone.ne_str_none (aH I q (by simp))
  | bl j=>cases ry;exact PySem.EqMixed.ne_str_bool (aH I q (by simp))
  | int j=>obtain⟨t',rfl⟩:=ry;exact PySem.EqMixed.ne_str_int (aH I q (by simp))
  | str j=>obtain⟨t',rfl⟩:=ry;exact ne_str (aH I q (Q0 not AN))
  | _=>exact absurd (show false=true from hs) P5
 | byt i =>
  obtain⟨t,rfl⟩:=rx;cases y with
  | byt j=>obtain⟨t',rfl⟩:=ry;exact W.ne_bytes (aH I q (Q0 not A5))
  | _=>exact absurd (show false=true from hs) P5
 | _=>cases y <;> exact absurd (show false=true from hs) P5
theorem Nc:OpR X (compareOp .Lt) (rI0 fun i j=>.bl (decide (i<j))):=IV fun _ _ _ _ _ _ _ q=>lt_int q
theorem Nu:OpR X (compareOp .Gt) (rI0 fun i j=>.bl (decide (j<i))):=IV fun _ _ _ _ _ _ _ q=>gt_int q
theorem OO:OpR X (compareOp .GtE) (rI0 fun i j=>.bl (decide (j<=i))):=IV fun _ _ _ _ _ _ _ q=>ge_int q
theorem Cy:OpR X (compareOp .In) (fun x y H Q=>∃i j,x=.str i/\y=.str j/\Q (.bl (!(Builtin.Str.occurrences j i 0 j.length 1).isEmpty)) H):=by intro pins s σ H x y v u Q I rx ry h;obtain⟨i,j,rfl,rfl,q⟩:=h;obtain⟨t,rfl⟩:=rx;obtain⟨t',rfl⟩:=ry;exact in_str (aH I q rfl)
theorem Hc (ho:OpR X (compareOp op) r)(ha:PE X a ta)(hb:PE X b tb)(hm:behindInMarks op b=false):PE X (.Compare a [op] [b] pos) (tOp r ta tb):=by intro pins s σ H Q I h;exact wpAny_Compare1 (L9 ha hb I h fun v u s2 x y H2 I2 rx ry q=>ho pins s2 σ H2 x y v u Q I2 rx ry q) hm
noncomputable def OP (t:TE):TT:=fun σ H Q=>t σ H fun x H'=>∃k,x=.bl k/\Q k H'
theorem Ih (ho:OpR X (compareOp op) r)(ha:PE X a ta)(hb:PE X b tb)(hm:behindInMarks op b=false):PT X (.Compare a [op] [b] pos) (OP (tOp r ta tb)):=by
 intro pins s σ H Q I h;refine wpAny_isTrue_Compare1 (thn (ha pins s σ H _ I h) fun v s1 ⟨x,H1,I1,r1,q1⟩=>thn (hb pins s1 σ H1 _ I1 q1) fun u s2 ⟨y,H2,I2,r2,q2⟩ =>
  thn (ho pins s2 σ H2 x y v u _ I2 r1 r2 q2) fun c s3 ⟨z,H3,I3,r3,k,e,q3⟩=>?_) hm
 subst e;cases r3;exact wpAny_truthy_bool ⟨H3,I3,q3⟩
def Mz (K:W.Frag)(x:V)(H:Hp)(k:Bool):Prop :=
 match x with
 | .non=>k=false
 | .bl b=>k=b
 | .int i=>k=(i != 0)
 | .str y=>y.length<=sizeLine/\k=((y.length:Int) != 0)
 | .byt y=>y.size<=sizeLine/\k=((y.size:Int) != 0)
 | .ref p=>(∃xs,SqL K H p xs/\k=!xs.isEmpty)\/(∃xs,SqT K H p xs/\k=!xs.isEmpty)\/∃kvs,H p=some (.dK kvs)/\k=!kvs.isEmpty
 | _=>False
theorem zN {κ:Type}{kvs:List (κ × V)}{vs:List (κ × Value)}(r:KV kvs vs):(!vs.isEmpty)=!kvs.isEmpty:=by cases r <;> rfl
theorem qJ (r:Vals xs its):(!its.toArray.isEmpty)=!xs.isEmpty:=by cases r <;> simp
theorem lP:(sizeLine:Nat)<2 ^ 63:=by rw[sizeLine_eq];decide
theorem Mj:PL X (fun x H Q=>∃k,Mz X.K x H k/\Q k H):=by
 intro pins s σ H x v Q I rx h;obtain⟨k,e,q⟩:=h;have hl:=lP;have hs:sizeLine=16777216:=sizeLine_eq;cases x with
 | non =>cases rx;have e':k=false:=e;subst e';exact truthy_none ⟨H,I,q⟩
 | bl b =>cases rx;have e':k=b:=e;subst e';exact wpAny_truthy_bool ⟨H,I,q⟩
 | int i =>obtain⟨t,rfl⟩:=rx;have e':k=(i != 0):=e;subst e';exact PySem.P.truthy_int ⟨H,I,q⟩
 | str y =>obtain⟨t,rfl⟩:=rx;obtain⟨hy,e'⟩:y.length<=sizeLine/\k=((y.length:Int) != 0):=e;subst e';exact PySem.P.truthy_str (by omega) ⟨H,I.tok _,q⟩
 | byt y =>obtain⟨t,rfl⟩:=rx;obtain⟨hy,e'⟩:y.size<=sizeLine/\k=((y.size:Int) != 0):=e;subst e';exact W.truthy_bytes (by omega) ⟨H,I.tok _,q⟩
 | ref p =>
  cases rx;have e':(∃xs,SqL X.K H p xs/\k=!xs.isEmpty)\/(∃xs,SqT X.K H p xs/\k=!xs.isEmpty)\/∃kvs,H p=some (.dK kvs)/\k=!kvs.isEmpty:=e;rcases e' with⟨xs,hx,e'⟩|⟨xs,hx,e'⟩|⟨kvs,hx,e'⟩
  ·subst e';obtain⟨its,r,pl,hz⟩:=I.list hx;have hlen:=r.length;exact wpAny_truthy_list pl.isList (by simp only[List.size_toArray];omega) ⟨H,I.tok _,by rw[qJ r];exact q⟩
  ·subst e';obtain⟨its,r,pl,hz⟩:=I.tuple hx;have hlen:=r.length;exact truthy_tuple pl (by simp only[List.size_toArray];omega) ⟨H,I.tok _,by rw[qJ r];exact q⟩
  ·subst e';obtain⟨hz,hS,vs,r,m⟩:kvs.length<=sizeLine/\(p == sysModules)=false/\∃vs,KV kvs vs/\s.heap.DictOf (vM X.prog X.w) p vs:=I.hok p _ hx;have hlen:kvs.length=vs.length:=Paired.length r;exact wpAny_truthy_dict hS m (by omega) ⟨H,I.tok _,by rw[zN r];exact q⟩
 | _=>exact(show False from e).elim
theorem gH (ha:PE X a ta)(he:∀whole,isTrue a X.env whole=(do let v <-whole;standAt a.pos;holding [v] (truthy v))) :
  PT X a (fun σ H Q=>ta σ H fun x H'=>∃k,Mz X.K x H' k/\Q k H'):=by
 intro pins s σ H Q I h;exact isTrue_plain (thn (ha pins s σ H _ I h) fun v s1 ⟨x,H1,I1,r1,q1⟩=>Mj pins s1 σ H1 x v Q I1 r1 q1) (he _)
theorem yW:OpR X (binaryOp .Add) (fun x y H Q=>∃i j,x=.str i/\y=.str j/\i.length+j.length<=sizeLine/\Q (.str (i++j)) H):=by intro pins s σ H x y v u Q I rx ry h;obtain⟨i,j,rfl,rfl,hz,q⟩:=h;obtain⟨t,rfl⟩:=rx;obtain⟨t',rfl⟩:=ry;exact add_str (fun t' tk=>⟨.str (i++j),H,I.tok _,⟨_,rfl⟩,q⟩) hz
theorem fQ {x:V}(r:Vals [x] us):∃u,us=[u]/\RelV x u:=by
 cases r with
 | cons r1 r2=>cases r2;exact⟨_,rfl,r1⟩
theorem wD {x:V}(r:Vals [x,y] us):∃u w',us=[u,w']/\RelV x u/\RelV y w':=by
 cases r with
 | cons r1 r2 =>
  cases r2 with
  | cons r3 r4=>cases r4;exact⟨_,_,rfl,r1,r3⟩
theorem D1:fO X (.builtin "abs") (fun xs H Q=>∃i,xs=[.int i]/\Q (.int (if i<0 then -i else i)) H):=by intro pins s σ H xs us Q I r h;obtain⟨i,rfl,q⟩:=h;obtain⟨u,rfl,t,rfl⟩:=fQ r;exact call_abs_int fun u tk=>⟨.int (if i<0 then -i else i),H,I.tok _,⟨_,rfl⟩,q⟩
theorem Cf (hc:X.calm=true):fO X (.builtin "max") (fun xs H Q=>∃i j,xs=[.int i,.int j]/\Q (.int (if j > i then j else i)) H):=by
 intro pins s σ H xs us Q I r h;obtain⟨i,j,rfl,q⟩:=h;obtain⟨u,w',rfl,⟨t,rfl⟩,⟨t',rfl⟩⟩:=wD r;refine max_two_ints (I.ok.hd hc) fun h' tk k=>⟨_,H,I.kept k,?_,q⟩;by_cases hj:j > i
 ·rw[QA hj,QA hj];exact⟨_,rfl⟩
 ·rw[QC hj,QC hj];exact⟨_,rfl⟩
theorem Cm (hc:X.calm=true):fO X (.builtin "min") (fun xs H Q=>∃i j,xs=[.int i,.int j]/\Q (.int (if j<i then j else i)) H):=by
 intro pins s σ H xs us Q I r h;obtain⟨i,j,rfl,q⟩:=h;obtain⟨u,w',rfl,⟨t,rfl⟩,⟨t',rfl⟩⟩:=wD r;refine min_two_ints (I.ok.hd hc) fun h' tk k=>⟨_,H,I.kept k,?_,q⟩;by_cases hj:j<i
 ·rw[QA hj,QA hj];exact⟨_,rfl⟩
 ·rw[QC hj,QC hj];exact⟨_,rfl⟩
theorem Cs:fO X (.type "int") (fun xs H Q=>(∃i,xs=[.int i]/\Q (.int i) H)\/∃k,xs=[.bl k]/\Q (.int (if k then 1 else 0)) H):=by
 intro pins s σ H xs us Q I r h;rcases h with⟨i,rfl,q⟩|⟨k,rfl,q⟩
 ·obtain⟨u,rfl,t,rfl⟩:=fQ r;exact call_int_int ⟨.int i,H,I,⟨_,rfl⟩,q⟩
 ·obtain⟨u,rfl,r1⟩:=fQ r;cases r1;exact call_int_bool ⟨.int (if k then 1 else 0),H,I.tok _,⟨_,rfl⟩,q⟩
theorem ve:fO X (.type "str") (fun xs H Q=>∃i,xs=[.int i]/\i.natAbs.log2<1920/\Q (.str (toString i)) H):=by intro pins s σ H xs us Q I r h;obtain⟨i,rfl,hz,q⟩:=h;obtain⟨u,rfl,t,rfl⟩:=fQ r;exact PySem.P.str_of_int hz ⟨.str _,H,I.tok _,⟨_,rfl⟩,q⟩
end
end L2
namespace L2
structure ObjM (h:Heap)(x dx C:Addr)(mA:Str->Option Value):Prop where
 obj:h.get? x=some (W.instObj C dx)
 ns:h.Ns1 dx mA
 ne:dx≠x
theorem Dd {h:Heap}(n:h.Ns1 dx mA):∃od,h.get? dx=some od/\∀name,W.lookIn name od=some (mA name):=by
 obtain⟨o,es,ep,ho,hd,hk,_,hm⟩:=n;refine⟨o,ho,fun name=>?_⟩;have e:=hm name;unfold nsFind findBy at e;rw[<-Array.find?_toList] at e;unfold W.lookIn;rw[hd];dsimp only;split
 ·rename_i y q;rw[q] at e;exact Q0 some e
 ·rename_i q;rw[q] at e;have a:es.toList.any (·.refKey)=false:=by rw[List.any_eq_false];intro y hy;obtain⟨z,t,hkey⟩:=hk y (Array.mem_toList_iff.mp hy);simp[DictEntry.refKey,hkey]
  have a':¬es.toList.any (·.refKey)=true:=by rw[a];exact P5
  rw[QC a'];exact Q0 some e
theorem ObjM.look (I:ObjM h x dx C mA):∃od,W.InstAt h x (W.instObj C dx) C (some od)/\∀name,W.lookIn name od=some (mA name) :=
 let ⟨od,ho,hl⟩:=Dd I.ns
 ⟨od,⟨I.obj,rfl,rfl,ho⟩,hl⟩
section
variable {prog:Program}{w:World}{A:Around}{E:Value->Shared->Prop}{s:Shared}{K:W.Frag}{x dx C f:Addr}{mA:Str->Option Value}{name:Str}{v:Value}
end
section
variable {P:Program}{w:World}{H H':Hp}{h h':Heap}{a C dx:Addr}{fs fs':List (Str × V)}
theorem Iw (hok:HOk P w H h)(e:H a=some (.ins C dx fs)):∃mA,ObjM h a dx C mA/\(∀f,MD (fs.lookup f) (mA f))/\PySem.Within mA (fs.map (·.1))/\fs.length<=1000/\H dx=some (.own a):=by obtain⟨d,z,ne,ob,mA,n,r,q⟩:=(show ObjOk P w H h a (.ins C dx fs) from hok a _ e);exact⟨mA,⟨ob,n,ne⟩,r,q,z,d⟩
end
structure Cls (K:W.Frag)(C:Addr):Prop where
 pg:W.plainGet K C Str.empty=true
 hd:W.hasDictIn K C=true
 po:W.plainOver K C=true
 sa:W.findIn K (.ref C) "__setattr__"=some (some (.builtin "object.__setattr__"))
theorem Cls.get (c:Cls K C)(f:Str):W.plainGet K C f=true:=c.pg
structure Con (K:W.Frag)(C:Addr)(f:Str)(v:V)(u:Value):Prop where
 at_:W.findIn K (.ref C) f=some (some u)
 rel:RelV v u
 get:W.specialIn K u "__get__"=some none
 cp:W.copiedNames.contains f=false
structure P0 (K:W.Frag)(C:Addr)(m:Str)(f:Addr):Prop where
 at_:W.findIn K (.ref C) m=some (some (.ref f))
 fn:W.isFn K (.ref f)=true
 kp:W.keepIn K (.ref f)=true
section
variable {X:Cx}{pins:List (Addr × Obj)}{σ:St}{H:Hp}{s:Shared}{a C dx:Addr}{fs:List (Str × V)}{f:Str}{v:V}{A:Around}{E:Value->Shared->Prop}
end
section
variable {X:Cx}{o e value:Expr}{f:Str}{pos pos' tpos:Pos}{ta tv:TE}
end
section
variable {X:Cx}{pins:List (Addr × Obj)}{σ:St}{H:Hp}{s:Shared}{A:Around}{E:Value->Shared->Prop}{Q:Value->Shared->Prop}{c:Value}{b:Bool}
inductive pe (K:W.Frag)(H:Hp):V->Value->Prop where
 | non:pe K H .non (.type "NoneType")
 | bl (x:Bool):pe K H (.bl x) (.type "bool")
 | int (i:Int):pe K H (.int i) (.type "int")
 | str (x:Str):pe K H (.str x) (.type "str")
 | flt (x:UInt64):pe K H (.flt x) (.type "float")
 | lst {a:Addr} {xs:List V} (e:H a=some (.lst xs)):pe K H (.ref a) (.type "list")
 | frz {a:Addr} {o:Obj} {xs:List V} (e:H a=some (.frz o (.lst xs))):pe K H (.ref a) (.type "list")
 | tup {a:Addr} {xs:List V} (e:H a=some (.tup xs)):pe K H (.ref a) (.type "tuple")
 | dK {a:Addr} {kvs:List (Key × V)} (e:H a=some (.dK kvs)):pe K H (.ref a) (.type "dict")
 | dT {a:Addr} {kvs:List (List Key × V)} (e:H a=some (.dT kvs)):pe K H (.ref a) (.type "dict")
 | ins {a C dx:Addr} {fs:List (Str × V)} (e:H a=some (.ins C dx fs)) (cl:Cls K C) (ha:W.findIn K (.ref C) "__class__"=some (some (.builtin "object.__class__")))
   (hn:W.specialIn K (.builtin "object.__class__") "__get__"=some (some (.builtin "getset_descriptor.__get__"))) (htk:W.takesIn K (.builtin "object.__class__")=some true)
   (hm:W.mroIn K C (.type "object")=some true):pe K H (.ref a) (.ref C)
theorem gm (I:Inv X pins σ H s)(rx:RelV x u)(ty:pe X.K H x t)(e:W.kitOne X.K t c=some b)(h:∀tk,Q (.bool b) { s with toks:=tk }) :
  wpAny (model X.prog X.w) A (call (.builtin "isinstance") [u,c]) Q E s:=by
 cases ty with
 | non=>cases (show u=Value.none from rx);exact R4 W.kitx_none I.kIn True.intro e (fun z=>nomatch z) h
 | bl y=>cases (show u=Value.bool y from rx);exact R4 W.kitx_bool I.kIn True.intro e (fun z=>nomatch z) h
 | int i=>obtain⟨t,q⟩:=(show ∃t,u=Value.int i t from rx);cases q;exact R4 W.kitx_int I.kIn True.intro e (fun z=>nomatch z) h
 | str y=>obtain⟨t,q⟩:=(show ∃t,u=Value.str y t from rx);cases q;exact R4 W.kitx_str I.kIn True.intro e (fun z=>nomatch z) h
 | flt y=>obtain⟨t,q⟩:=(show ∃t,u=Value.float y t from rx);cases q;exact R4 W.kitx_float I.kIn True.intro e (fun z=>nomatch z) h
 | @lst a xs ea =>cases (show u=Value.ref a from rx);obtain⟨_,_,n,_,h1⟩:=(show ObjOk X.prog X.w H s.heap a (.lst xs) from I.hok a _ ea);exact R4 U8 I.kIn ⟨_,h1,rfl⟩ e (fun z=>nomatch z) h
 | @frz a ob xs ea =>cases (show u=Value.ref a from rx);obtain⟨_,_,_,n,_,h1⟩:=(show ObjOk X.prog X.w H s.heap a (.frz ob (.lst xs)) from I.hok a _ ea);exact R4 U8 I.kIn ⟨_,h1,rfl⟩ e (fun z=>nomatch z) h
 | @tup a xs ea =>cases (show u=Value.ref a from rx);obtain⟨_,_,_,p⟩:=(show ObjOk X.prog X.w H s.heap a (.tup xs) from I.hok a _ ea);obtain⟨o,h1,h2,_⟩:=p;exact R4 W.kitx_tuple I.kIn ⟨o,h1,h2⟩ e (fun z=>nomatch z) h
 | @dK a kvs ea =>cases (show u=Value.ref a from rx);obtain⟨_,_,vs,_,p⟩:=(show ObjOk X.prog X.w H s.heap a (.dK kvs) from I.hok a _ ea);obtain⟨o,es,ep,h1,h2,_⟩:=p;exact R4 U9 I.kIn ⟨o,h1,h2.1⟩ e (fun z=>nomatch z) h
 | @dT a kvs ea =>cases (show u=Value.ref a from rx);obtain⟨_,_,xs,_,o,es,ep,h1,h2,_⟩:=(show ObjOk X.prog X.w H s.heap a (.dT kvs) from I.hok a _ ea);exact R4 U9 I.kIn ⟨o,h1,h2.1⟩ e (fun z=>nomatch z) h
 | @ins a C dx fs ea cl ha hn htk hm =>cases (show u=Value.ref a from rx);obtain⟨mA,O,_⟩:=Iw I.hok ea;obtain⟨od,J,_⟩:=O.look;exact R4 (W.kitx_own (cl.get _) cl.hd ha hn htk hm) I.kIn J e (fun z=>nomatch z) h
end
end L2
namespace L2
structure Room (k:Nat)(A:Around):Prop where
 hd:A.handled=none
 dp:A.depth+3*k+5<recursionLimit
 un:A.units+16*k+200<cLine
 gd:A.guards=some []
theorem Room.mono {j:Nat}(r:Room k A)(h:j<=k):Room j A:=⟨r.hd,by have:=r.dp;omega,by have:=r.un;omega,r.gd⟩
theorem Room.deeper {k:Nat}(r:Room (k+1) A)(env:Env):Room k (A.deeper env) :=
 ⟨r.hd,by have:=r.dp;show A.depth+1+3*k+5<_;omega,by have:=r.un;show A.units+3+16*k+200<_;omega,r.gd⟩
theorem Room.depth (r:Room k A):A.depth<recursionLimit:=by have:=r.dp;omega
theorem Room.units (r:Room k A):A.units+64<cLine:=by have:=r.un;omega
noncomputable def om:TA:=fun _ H Q=>Q [] H
noncomputable def fj (ta:TE)(tr:TA):TA:=fun σ H Q=>ta σ H fun x H1=>tr σ H1 fun xs H2=>Q (x::xs) H2
section
variable {X:Cx}{e:Expr}{es:List Expr}{te:TE}{t:TA}{pos:Pos}
theorem eg:PA X [] om:=fun _ _ _ _ H Q I h=>Calls.spliced_nil ⟨[],H,I,.nil,h⟩
theorem Ha (ha:PE X e te)(hr:PA X es t)(hs:starEach (e::es) X.env=(false,eval e X.env)::starEach es X.env:=by rfl):PA X (e::es) (fj te t):=by intro pos pins s σ H Q I h;rw[hs];show wpAny _ _ (spliced ((false,eval e X.env)::backTo pos (starEach es X.env))) _ _ s;refine Calls.spliced_cons (thn (ha pins s σ H _ I h) fun u s1 ⟨x,H1,I1,r1,q1⟩=>?_);exact thn (hr pos pins s1 σ H1 _ I1 q1) fun us s2 ⟨xs,H2,I2,r2,q2⟩=>⟨x::xs,H2,I2,.cons r1 r2,q2⟩
noncomputable def Ph (t:TA):TE:=fun σ H Q=>t σ H fun xs H1=>xs.length<=sizeLine/\∀p,H1 p=none->Q (.ref p) (upd H1 p (.tup xs))
noncomputable def Pe (t:TA):TE:=fun σ H Q=>t σ H fun xs H1=>xs.length<=sizeLine/\∀p,H1 p=none->Q (.ref p) (upd H1 p (.lst xs))
theorem K' {x1}(h:PA X es t):PE X (.Tuple es x1 pos) (Ph t):=by intro pins s σ H Q I hq;refine wpAny_Tuple_spliced (thn (h pos pins s σ H _ I hq) fun us s1 ⟨xs,H1,I1,r,z,q⟩=>⟨by rw[<-r.length];exact z,?_⟩);have hf:H1 s1.heap.objs.size=none:=I1.hok.fresh (P6 _);refine⟨.ref s1.heap.objs.size,upd H1 s1.heap.objs.size (.tup xs),I1.laid (t':=s1.toks) (fun b u e=>P2 _ e) (P6 _) ?_,rfl,q _ hf⟩;exact⟨z,us,r,⟨_,QG _ rfl,rfl,_,rfl⟩⟩
theorem LF (h:PA X es t):PE X (.List es pos) (Pe t):=by intro pins s σ H Q I hq;refine wpAny_List_spliced (thn (h pos pins s σ H _ I hq) fun us s1 ⟨xs,H1,I1,r,z,q⟩=>⟨by rw[<-r.length];exact z,?_⟩);have hf:H1 s1.heap.objs.size=none:=I1.hok.fresh (P6 _);refine⟨.ref s1.heap.objs.size,upd H1 s1.heap.objs.size (.lst xs),I1.laid (t':=s1.toks) (fun b u e=>P2 _ e) (P6 _) ?_,rfl,q _ hf⟩;exact⟨z,us,0,r,QG _ rfl⟩
end
noncomputable abbrev Sp:=List V->Hp->VK->XK->Prop
noncomputable abbrev CXT:=List Env->Hp->Shared->XK->Value->Shared->Prop
structure vU (P:Program)(w:World)(K:W.Frag)(mg:Str->Option Value)(base:Heap)(A:Around)(outer:List Env)(s:Shared)(H:Hp):Prop where
 frames:A.frames=some outer
 mod:Mod K mg base
 bs:∀b o,base.get? b=some o->s.heap.get? b=some o/\H b=none
 bsz:base.objs.size<=s.heap.objs.size
 funs:s.heap.FunFrames base outer
 frf:∀b∈frs outer,H b=none
 hok:HOk P w H s.heap
 bare:AllBare s.gens
def CE (outer:List Env)(P:Program)(w:World)(H:Hp)(s:Shared)(Q:VK)(u:Value)(s':Shared):Prop :=
 ∃v H',s'.os=s.os/\AllBare s'.gens/\Un (frs outer) [] H H' s.heap s'.heap/\HOk P w H' s'.heap/\RelV v u/\Q v H'
def CR (CX:CXT)(outer:List Env)(P:Program)(w:World)(H:Hp)(s:Shared)(Q:VK)(E:XK)(r:Result)(s':Shared):Prop :=
 match r with
 | .ok (.ret u)=>CE outer P w H s Q u s'
 | .ok _=>False
 | .error e=>CX outer H s E e s'
structure pB (P:Program)(w:World)(K:W.Frag)(mg:Str->Option Value)(base:Heap)(CX:CXT)(k:Nat)(f:Addr)(fd:FuncData)(ps:List Str)(sp:Sp):Prop where
 len:∀vs H Q E,sp vs H Q E->vs.length=ps.length
 run:∀(A:Around) (outer:List Env) (s:Shared) (H:Hp) (args:Args) (us:List Value) (vs:List V) (Q:VK) (E:XK),Room k A->vU P w K mg base A outer s H->BindsTo s fd args (ps.zip us)->Vals vs us->sp vs H Q E ->
  codeAny (model P w) A (.call (.ref f) args) (CR CX outer P w H s Q E) s
section
variable {X:Cx}{pins:List (Addr × Obj)}{σ:St}{H:Hp}{s s':Shared}
theorem Inv.env0 (I:Inv X pins σ H s):vU X.prog X.w X.K X.mg X.base X.A X.stack s H :=
 ⟨I.ok.frames,I.ok.mod,I.bs,QP I.ok.bsz I.sz,I.stack,I.stkFree,I.hok,I.bare⟩
theorem Inv.after (I:Inv X pins σ H s)(h:CE X.stack X.prog X.w H s Q u s'):EP X pins σ Q u s':=by obtain⟨v,H',os,bare,un,hok,r,q⟩:=h;obtain⟨hh,g,d,t,os'⟩:=s';obtain rfl:os'=s.os:=os;exact⟨v,H',I.call (h':=hh) (g':=g) (d':=d) (t':=t) (ch:=[]) un hok bare (fun b z=>absurd z (by simp)),r,q⟩
end
noncomputable def mJ (sp:Sp)(dvs:List V)(E:XK)(t:TA):TE:=fun σ H Q=>t σ H fun vs H1=>sp (vs++dvs) H1 Q E
def Binds (K:W.Frag)(fd:FuncData)(ps:List Str)(ds:List Value):Prop :=
 ∀(s:Shared) (us:List Value),K.In s.heap->(us++ds).length=ps.length->BindsTo s fd ⟨us,[]⟩ (ps.zip (us++ds))
theorem Binds.all {ps:List Str}(h:∀us:List Value,us.length=ps.length->bindArgs fd ⟨us,[]⟩=pure (ps.zip us)):Binds K fd ps []:=fun s us _ hl=>by
 rw[SD] at hl |-
 exact .of_eq (h us hl)
def qG (CX:CXT)(X:Cx)(E:XK):Prop:=∀(pins:List (Addr × Obj)) (σ:St) (H:Hp) (s:Shared) (e:Value) (s':Shared),Inv X pins σ H s->CX X.stack H s E e s'->X.xe e s'
section
variable {X:Cx}{CX:CXT}{k:Nat}{f C:Addr}{fd:FuncData}{ps:List Str}{sp:Sp}{dvs:List V}{ds:List Value}{E:XK}{x m:Str}{p pos apos:Pos}{e o:Expr}{es:List Expr}{ta:TE}{t:TA}
theorem En {σ:St}(F:pB X.prog X.w X.K X.mg X.base CX k f fd ps sp)(hr:Room k X.A)(hb:Binds X.K fd ps ds)(hd:Vals dvs ds)(hx:qG CX X E)(I:Inv X pins σ H s)(r:Vals vs us)(h:sp (vs++dvs) H Q E):wpAny (model X.prog X.w) X.A (call (.ref f) us) (EP X pins σ Q) X.xe s:=by
 have r2:Vals (vs++dvs) (us++ds):=r.append hd;have hl:(us++ds).length=ps.length:=by rw[<-r2.length];exact F.len _ _ _ _ h
 refine wpAny_call (codeAny_mono (F.run X.A X.stack s H ⟨us,[]⟩ (us++ds) (vs++dvs) Q E hr I.env0 (hb s us I.kIn hl) r2 h) fun r s' hq=>?_);cases r with
 | error e=>exact hx pins σ H s e s' I hq
 | ok fl =>
  cases fl with
  | ret u=>exact I.after hq
  | next=>exact False.elim hq
  | brk=>exact False.elim hq
  | cont=>exact False.elim hq
theorem BW (F:pB X.prog X.w X.K X.mg X.base CX k f fd ps sp)(hr:Room k X.A)(hg:Gl X x)(hm:X.mg x=some (.ref f))(hk:W.keepIn X.K (.ref f)=true)(hb:Binds X.K fd ps ds)(hd:Vals dvs ds)(hx:qG CX X E)
  (ha:PA X (e::es) t) (hdb:(x == ("__debug__":Str))=false:=by decide) (he:starEach (e::es) X.env=(false,eval e X.env)::starEach es X.env:=by rfl) (hpl:(backTo pos (starEach es X.env)).any (·.1)=false:=by rfl) :
  PE X (.Call (.Name x p) (e::es) [] pos) (mJ sp dvs E t):=by
 intro pins s σ H Q I h;refine wpAny_Call_Name_kw (i7 I hg hm ?_ hdb);refine U4 (h₀:=X.base) I.ok.mod.kin hk (thn (ha pos pins s σ H _ I h) fun us s1 ⟨vs,H1,I1,r,q⟩=>⟨I1.kIn,?_⟩) he hpl;exact En F hr hb hd hx I1 r q
theorem Fe (F:pB X.prog X.w X.K X.mg X.base CX k f fd ps sp)(hr:Room k X.A)(hg:Gl X x)(hm:X.mg x=some (.ref f))(hk:W.keepIn X.K (.ref f)=true)(hb:Binds X.K fd ps ds)(hd:Vals dvs ds)(hx:qG CX X E)
  (hdb:(x == ("__debug__":Str))=false:=by decide):PE X (.Call (.Name x p) [] [] pos) (mJ sp dvs E om):=by
 intro pins s σ H Q I h;refine wpAny_Call_Name_kw (i7 I hg hm ?_ hdb);exact W.callWith_K0 I.kIn hk (En (us:=[]) F hr hb hd hx I .nil h)
structure Mk (K:W.Frag)(C f:Addr):Prop where
 makes:W.makesIn K C=true
 init:W.findIn K (.ref C) "__init__"=some (some (.ref f))
 fn:W.isFn K (.ref f)=true
 kp:W.keepIn K (.ref C)=true
end
section
variable {X:Cx}{CX:CXT}{k:Nat}{f C:Addr}{fd:FuncData}{ps ks:List Str}{sp:Sp}{E:XK}{x m:Str}{p pos apos kpos:Pos}{e o:Expr}{es:List Expr}{kws:List Keyword}{te ta:TE}{t tk:TA}{nm:Option Str}
structure Pr (K:W.Frag)(fd:FuncData)(ps ks:List Str)(g:List Value->List Value->List Value)(gV:List V->List V->List V):Prop where
 to:∀(s:Shared) (us ws:List Value),K.In s.heap->(g us ws).length=ps.length->BindsTo s fd ⟨us,ks.zip ws⟩ (ps.zip (g us ws))
 rel:∀ {vs:List V}{us:List Value}{zs:List V}{ws:List Value},Vals vs us->Vals zs ws->Vals (gV vs zs) (g us ws)
variable {g:List Value->List Value->List Value}{gV:List V->List V->List V}
end
structure ah (N P:List Str)(sc:Scope):Prop where
 kind:sc.kind=.function
 co:sc.isCoroutine=false
 gen:sc.isGenerator=false
 nd:N.Nodup
 pre:N.take P.length=P
 par:∀x∈P,sc.names.lookup x=some .local\/sc.names.lookup x=some .cell
 nofree:∀y∈sc.names,y.2≠.free
theorem tV {kindOf:Str->Option NameKind}{x:Str}:∀ {binds:List (Str × Value)}{m:Str->Option Value},(∀v,(x,v) ∉ binds)->bindL kindOf binds m x=m x
 | [],_,_=>rfl
 | (n,v)::r,m,h=>by
  unfold bindL;rw[tV fun w hw=>h w (QD _ hw)];split
  ·have:x≠n:=by rintro rfl;exact h v QL
   simp[this]
  ·rfl
theorem ui {kindOf:Str->Option NameKind}{x:Str}:∀ {binds:List (Str × Value)}{m:Str->Option Value},(∀v,(x,v) ∉ binds)->bindC kindOf binds m x=m x
 | [],_,_=>rfl
 | (n,v)::r,m,h=>by
  unfold bindC;rw[ui fun w hw=>h w (QD _ hw)];split
  ·rfl
  ·have:x≠n:=by rintro rfl;exact h v QL
   simp[this]
theorem t5 {kindOf:Str->Option NameKind}:∀ {P:List Str}{vs:List Value}{i:Nat}{m:Str->Option Value},P.Nodup->P[i]?=some x->vs[i]?=some v->kindOf x=some .local ->
  bindL kindOf (P.zip vs) m x=some v
 | [],_,_,_,_,h,_,_=>by simp at h
 | _::_,[],_,_,_,_,h,_=>by simp at h
 | p::P,w::vs,0,m,nd,h1,h2,hk=>by simp at h1 h2;subst h1;subst h2;show bindL kindOf ((p,w)::P.zip vs) m p=_;unfold bindL;rw[tV fun v hv=>(QH.mp nd).1 (T3 hv).1,QA hk];simp
 | p::P,w::vs,i+1,m,nd,h1,h2,hk=>by show bindL kindOf ((p,w)::P.zip vs) m x=_;unfold bindL;exact t5 (i:=i) (QH.mp nd).2 (by simpa using h1) (by simpa using h2) hk
theorem uJ {kindOf:Str->Option NameKind}:∀ {P:List Str}{vs:List Value}{i:Nat}{m:Str->Option Value},P.Nodup->P[i]?=some x->vs[i]?=some v->kindOf x≠some .local ->
  bindC kindOf (P.zip vs) m x=some v
 | [],_,_,_,_,h,_,_=>by simp at h
 | _::_,[],_,_,_,_,h,_=>by simp at h
 | p::P,w::vs,0,m,nd,h1,h2,hk=>by simp at h1 h2;subst h1;subst h2;show bindC kindOf ((p,w)::P.zip vs) m p=_;unfold bindC;rw[ui fun v hv=>(QH.mp nd).1 (T3 hv).1,QC hk];simp
 | p::P,w::vs,i+1,m,nd,h1,h2,hk=>by show bindC kindOf ((p,w)::P.zip vs) m x=_;unfold bindC;exact uJ (i:=i) (QH.mp nd).2 (by simpa using h1) (by simpa using h2) hk
noncomputable def start (N:List Str)(vs:List V):St:=vs.map some++List.replicate (N.length-vs.length) none
noncomputable def jk (CX:CXT)(P:Program)(w:World)(K:W.Frag)(mg:Str->Option Value)(base:Heap)(N:List Str)(qual:Str)(scope:Scope)(f:Addr)(cd:Value)(A:Around)(outer:List Env)(s:Shared)(H:Hp)(E:XK):Cx where
 prog:=P
 w:=w
 K:=K
 mg:=mg
 base:=base
 A:=A.deeper (envOfC qual scope s.heap.objs.size f cd)
 N:=N
 s₀:=s
 H₀:=H
 env:=envOfC qual scope s.heap.objs.size f cd
 outer:=outer
 stack:=envOfC qual scope s.heap.objs.size f cd::outer
 ex:=[]
 calm:=true
 fn:=fun _=>true
 pn:=[]
 xe:=fun e s'=>wpAny (model P w) (A.deeper (envOfC qual scope s.heap.objs.size f cd)) (leaving (envOfC qual scope s.heap.objs.size f cd) e) (fun _ s''=>CX outer H s E e s'') (fun e' s''=>CX outer H s E e' s'') s'
theorem yx {sc:Scope}(h:sc.names.lookup x=some .cell):∃c,(cellsFrom n sc.names []).lookup x=some c:=by have q:=UN sc.names n [] (.inl h);exact Option.isSome_iff_exists.mp q
theorem ug {A:Around}{E:XK}{vs:List V}(S:ah N ps scope)(hd:A.handled=none)(e0:vU P w K mg base A outer s H)(hl:vs.length=ps.length)(r:Vals vs us)(x:InCallC s s.heap.objs.size (bindL (envOfC qual scope s.heap.objs.size f cd).kindOf (ps.zip us) fun _=>none) (cellsFrom (s.heap.objs.size+1) scope.names []) (bindC (envOfC qual scope s.heap.objs.size f cd).kindOf (ps.zip us) fun _=>none) s1) :
  Inv (jk CX P w K mg base N qual scope f cd A outer s H E) [] (start N vs) H s1:=by
 have hpl:ps.length<=N.length:=by have:=Q0 List.length S.pre;rw[RI] at this;omega
 obtain⟨h1,tk,rfl,hk⟩:=x.done;have noA:∀b:Addr,b ∉ (jk CX P w K mg base N qual scope f cd A outer s H E).ex:=fun b z=>absurd (show b∈([]:List Addr) from z) (by simp);refine⟨⟨e0.mod,S.kind,rfl,rfl,P6 _,fun y z c h1 h2=>?_,fun y hy=>?_,fun y c _ h=>?_,fun _=>hd,Around.frames_deeper e0.frames,.inr ⟨rfl,rfl⟩,fun b z=>absurd z (noA b),e0.bs,e0.bsz,fun b _ _=>noA b,fun b z=>absurd z (noA b),e0.funs,e0.frf⟩,
  rfl,e0.bare,Un.kept hk,⟨_,x.toInCall.ns,fun i y v h1 h2 h3=>?_⟩,fun y c h=>⟨_,x.cell y c h⟩,e0.hok.fresh (P6 _),fun y c h=>?_,fun p hp=>absurd (show p∈([]:List (Addr × Obj)) from hp) (by simp),e0.hok.kept hk,?_⟩
 ·exact name_of_addr x.apart (Q4 h1) (Q4 h2)
 ·have hy:scope.names.lookup y=some .cell\/scope.names.lookup y=some .free:=hy;rcases hy with hy|hy
  ·exact yx hy
  ·exact absurd rfl (S.nofree _ (Q4 hy))
 ·exact Q_ (x.above y c (Q4 h))
 ·have hi:i<vs.length:=by
   unfold start at h2;by_cases hi:i<vs.length
   ·exact hi
   ·rw[QV (by simpa using hi)] at h2;rw[List.getElem?_replicate] at h2;split at h2 <;> cases h2
  have ha:vs[i]?=some v:=by
   unfold start at h2;rw[QT (by simpa using hi),QK] at h2;cases e:vs[i]? with
   | none=>rw[e] at h2;cases h2
   | some a=>rw[e] at h2;cases h2;rfl
  obtain⟨u,hu,rv⟩:=r.get ha;have hp:ps[i]?=some y:=by rw[<-S.pre,SH (by omega)];exact h1
  have ndP:ps.Nodup:=by rw[<-S.pre];exact S.nd.sublist (List.take_sublist _ _)
  refine⟨u,rv,?_⟩;rcases S.par y (P_ hp) with k|k
  ·exact .inl ⟨k,t5 ndP hp hu k⟩
  ·obtain⟨c,e⟩:=yx (n:=s.heap.objs.size+1) k;refine .inr ⟨.inl k,c,e,?_⟩;have q:=x.cell y c e;rw[uJ ndP hp hu (by show scope.names.lookup y≠_;rw[k];decide)] at q;exact q
 ·exact e0.hok.fresh (Q_ (x.above y c (Q4 h)))
 ·unfold start;show _=N.length;rw[QS,QO,List.length_replicate];omega
theorem Eb {K:W.Frag}{name qual:Str}{params:Arguments}{body:List Stmt}{scope:Scope}{dV kV doc pm cdv ct:Value}{an:Option Addr}(lk:K.lookup f=some ⟨oc,od,.func (W.fnOf name qual params body scope dV kV doc pm an cdv ct),osl⟩)(hcd:W.codeIn K cdv qual=true)(S:ah N ps scope)(len:∀vs H Q E,sp vs H Q E->vs.length=ps.length)(hbody:∀(A:Around) (outer:List Env) (s:Shared) (H:Hp) (vs:List V) (Q:VK) (E:XK),Room k (A.deeper (envOfC qual scope s.heap.objs.size f cdv))->sp vs H Q E ->
   ∃t,PSs (jk CX P w K mg base N qual scope f cdv A outer s H E) body t/\t { nx:=fun _ H'=>Q .non H',rt:=Q } (start N vs) H) :
  pB P w K mg base CX (k+1) f (W.fnOf name qual params body scope dV kV doc pm an cdv ct) ps sp:=by
 refine⟨len,fun A outer s H args us vs Q E hr e0 hb r hsp=>?_⟩;have hl:=len _ _ _ _ hsp;have KX:K.In s.heap:=e0.mod.kin.keeps fun b o e=>(e0.bs b o e).1;have lim:s.heap.NoLimit:=e0.mod.nolimit.keeps fun b o e=>(e0.bs b o e).1;have hkind:∀y∈ps.zip us,scope.names.lookup y.1=some .local\/(scope.names.lookup y.1=some .cell/\((cellsFrom (s.heap.objs.size+1) scope.names []).lookup y.1).isSome=true):=fun ⟨n,v⟩ hy=>by
  rcases S.par n (T3 hy).1 with q|q
  ·exact .inl q
  ·exact .inr ⟨q,UN _ _ _ (.inl q)⟩
 refine codeAny_call_function hr.depth (KX _ _ lk) rfl S.co S.gen rfl (W.codeRec_of KX hcd) (hb _ _ _ _ ?_);refine wpAny_newFunctionEnv_cells S.kind hkind fun env he s1 x=>?_;subst he;refine⟨lim.keeps x.toInCall.keep,codeAny_func ?_⟩;obtain⟨t,ht,hq⟩:=hbody A outer s H vs Q E (hr.deeper _) hsp;have I:Inv (jk CX P w K mg base N qual scope f cdv A outer s H E) [] (start N vs) H s1:=ug S hr.hd e0 hl r x;refine wpAny_mono (ht [] s1 (start N vs) H _ I hq) (fun fl s' hs=>?_) fun e s' hs=>hs;have fin:∀ {σ':St}{H':Hp}{v:V}{u:Value},Inv (jk CX P w K mg base N qual scope f cdv A outer s H E) [] σ' H' s'->RelV v u->Q v H'->CE outer P w H s Q u s' :=
  fun {σ' H' v u} J rv q=>⟨v,H',J.os,J.bare,J.base,J.hok,rv,q⟩
 cases fl with
 | ret u =>obtain⟨v,σ',H',J,rv,q⟩:=hs;exact fin J rv q
 | next =>obtain⟨σ',H',J,q⟩:=hs;exact fin (v:=V.non) (u:=Value.none) J rfl q
 | brk =>obtain⟨_,_,_,q⟩:=hs;exact False.elim q
 | cont =>obtain⟨_,_,_,q⟩:=hs;exact False.elim q
end L2
namespace L2
section
variable {X:Cx}{x:Str}{p pos:Pos}{e:Expr}{es:List Expr}{t:TA}{id T:String}{r:List V->Hp->VK->Prop}
noncomputable def tCB (r:List V->Hp->VK->Prop)(t:TA):TE:=fun σ H Q=>t σ H fun vs H1=>r vs H1 Q
theorem EA (hc:fO X (.builtin id) r)(hg:Gl X x)(hm:X.mg x=none)(hv:bootBuiltins x=some (.builtin id))(ha:PA X (e::es) t)(hn:x≠"__name__":=by decide)(hdb:(x == ("__debug__":Str))=false:=by decide)
  (he:starEach (e::es) X.env=(false,eval e X.env)::starEach es X.env:=by rfl) (hpl:(backTo pos (starEach es X.env)).any (·.1)=false:=by rfl):PE X (.Call (.Name x p) (e::es) [] pos) (tCB r t):=by
 intro pins s σ H Q I h;refine wpAny_Call_Name_kw (jE I hg hm hv ?_ hn hdb);exact PyProof.Rows.callWith_builtin1 (thn (ha pos pins s σ H _ I h) fun us s1 ⟨vs,H1,I1,r1,q1⟩=>hc pins s1 σ H1 vs us Q I1 r1 q1) he hpl
theorem B4 (hc:fO X (.type T) r)(hg:Gl X x)(hm:X.mg x=none)(hv:bootBuiltins x=some (.type T))(ha:PA X (e::es) t)(hn:x≠"__name__":=by decide)(hdb:(x == ("__debug__":Str))=false:=by decide)
  (he:starEach (e::es) X.env=(false,eval e X.env)::starEach es X.env:=by rfl) (hpl:(backTo pos (starEach es X.env)).any (·.1)=false:=by rfl):PE X (.Call (.Name x p) (e::es) [] pos) (tCB r t):=by
 intro pins s σ H Q I h;refine wpAny_Call_Name_kw (jE I hg hm hv ?_ hn hdb);exact RA (thn (ha pos pins s σ H _ I h) fun us s1 ⟨vs,H1,I1,r1,q1⟩=>hc pins s1 σ H1 vs us Q I1 r1 q1) he hpl
end
end L2
namespace HT
open PySem
open PyProof.Rows hiding K st lo ad
section
open PySem.SeqAt
open PySem.AutoSeq1 (wpAny_loadPart')
open PySem.MeetsSeq PySem.MeetsSeq2 PySem.MeetsSeq3
end
section
variable {prog:Program}{w:World}{A:Around}{E:Value->Shared->Prop}{s:Shared}
theorem cat_tup {vs ws:List Value}{Q:Value->Shared->Prop}(ht:IsTup s.heap t vs.toArray)(hb:IsTup s.heap b ws.toArray)(hv:vs≠[])(h1:ws=[]->Q (.ref t) s)(h2:ws≠[]->Q (.ref s.heap.objs.size) { s with heap:=s.heap.push { cls:=.type "tuple",data:=.seq (vs++ws).toArray } })(hsz:vs.length+ws.length<=sizeLine):wpAny (model prog w) A (binaryOp .Add (.ref t) (.ref b)) Q E s:=by
 obtain⟨⟨cls,dd,data,sl⟩,ho,hc,n,hd⟩:=id ht;obtain⟨⟨cls2,dd2,data2,sl2⟩,ho2,hc2,n2,hd2⟩:=id hb;simp only at hc hd hc2 hd2;subst hc hd hc2 hd2;have e:vs.toArray++ws.toArray=(vs++ws).toArray:=by simp
 by_cases hw:ws=[]
 ·exact concat_meets ⟨_,ho,rfl⟩ ⟨_,ho2,rfl⟩ noFill_tuple_add seq_tuple_add TQ TK (S5 _ _)
   (tuple_addW1 t b vs.toArray ws.toArray n n2 dd dd2 sl sl2 (by simpa using hv) (by simp[hw])) ⟨ho,ho2,h1 hw⟩
 ·refine concat_meets ⟨_,ho,rfl⟩ ⟨_,ho2,rfl⟩ noFill_tuple_add seq_tuple_add TQ TK (S5 _ _)
   (tuple_addW2 t b vs.toArray ws.toArray n n2 dd dd2 sl sl2 (by simpa using hv) (by simpa using hw) (by rw[QR,QR];exact hsz)) ⟨ho,ho2,?_⟩
  rw[e];exact h2 hw
noncomputable def sIx (n d:Nat):Option Int->Nat
 | none=>d
 | some v=>if v<0 then (v+(n:Int)).toNat else min v.toNat n
theorem sIx_none (n d:Nat):sIx n d none=d:=rfl
theorem sIx_nat (n d k:Nat):sIx n d (some (k:Int))=min k n:=by show (if (k:Int)<0 then ((k:Int)+(n:Int)).toNat else min (k:Int).toNat n)=min k n;rw[QC (by omega),UJ]
theorem LS (n d:Nat)(hd:d<=n)(o:Option Int):sIx n d o<=n:=by
 cases o with
 | none=>exact hd
 | some v =>
  show (if v<0 then (v+(n:Int)).toNat else min v.toNat n)<=n;by_cases hv:v<0
  ·rw[QA hv];omega
  ·rw[QC hv];exact Nat.min_le_right _ _
theorem A7 (v:Int)(n d:Nat):(if v<0 then max (v+(n:Int)) 0 else min v (n:Int))=((sIx n d (some v):Nat):Int):=by
 show (if v<0 then max (v+(n:Int)) 0 else min v (n:Int))=(((if v<0 then (v+(n:Int)).toNat else min v.toNat n):Nat):Int);by_cases hv:v<0
 ·simp only[if_pos hv];omega
 ·simp only[if_neg hv];omega
theorem Aa (lo hi:Option Int)(n:Nat):Builtin.Slice.sliceAdjust lo hi 1 (n:Int)=(((sIx n 0 lo:Nat):Int),((sIx n n hi:Nat):Int)):=by
 have h1:¬((1:Int)<0):=by omega
 unfold Builtin.Slice.sliceAdjust;simp only[h1,if_false];refine Prod.ext ?_ ?_
 ·cases lo with
  | none=>rfl
  | some v=>exact A7 v n 0
 ·cases hi with
  | none=>rfl
  | some v=>exact A7 v n n
theorem y7 (i j:Nat):Builtin.Slice.slicePlaces (i:Int) (j:Int) 1=j-i:=by
 unfold Builtin.Slice.slicePlaces;have h1:(1:Int) > 0:=by omega
 simp only[h1,if_true,Int.ediv_one];split <;> omega
theorem rm {Q:Option Int->Shared->Prop}(p:IsPart v o)(h:Q o s):wpAny (model prog w) A (Builtin.Slice.slicePartIndex v) Q E s:=by
 cases p with
 | none=>exact slicePart_none h
 | int i t=>exact slicePart_int h
theorem sliceApplied_gen {Q:Int × Int × Nat->Shared->Prop}(hs:s.heap.IsSliceOf sl vl vu .none)(pl:IsPart vl lo)(pu:IsPart vu hi)(h:Q (((sIx n 0 lo:Nat):Int),1,sIx n n hi-sIx n 0 lo) s):wpAny (model prog w) A (Builtin.Slice.sliceApplied (.ref sl) (pure (n:Int))) Q E s:=by
 obtain⟨os,hos,hcs,hds⟩:=id hs;unfold Builtin.Slice.sliceApplied Builtin.Slice.sliceFields;refine P4 (P4 (wpAny_field hos hds (x:=vl) rfl (P4 (wpAny_field hos hds (x:=vu) rfl (P4 (wpAny_field hos hds (x:=.none) rfl (QE ?_)))))));refine P4 (slicePart_none ?_);show wpAny _ _ (if ((1:Int) == 0)=true then _ else _) _ _ s;rw[QC (by decide)];refine P4 (rm pl (P4 (rm pu (P4 (QE ?_)))));show wpAny _ _ (match Builtin.Slice.sliceAdjust lo hi 1 (n:Int) with|(lo,hi)=>pure (lo,(1:Int),Builtin.Slice.slicePlaces lo hi 1)) _ _ s;rw[Aa lo hi n];show wpAny _ _ (pure (((sIx n 0 lo:Nat):Int),(1:Int),Builtin.Slice.slicePlaces ((sIx n 0 lo:Nat):Int) ((sIx n n hi:Nat):Int) 1)) _ _ s;rw[y7];exact QE h
theorem EF (xs:Array Value)(i k:Nat):((List.range k).filterMap fun (m:Nat)=>xs[((i:Int)+(m:Int)*1).toNat]?).toArray=((xs.toList.drop i).take k).toArray:=by
 have e:(fun (m:Nat)=>xs[((i:Int)+(m:Int)*1).toNat]?)=fun m=>xs[i+m]?:=by
  funext m;have:((i:Int)+(m:Int)*1).toNat=i+m:=by omega
  rw[this]
 rw[e];have:=pick_run xs i k;rw[List.filterMap_map] at this;have e2:((fun x=>xs[x]?) ∘ fun x=>i+x)=fun m=>xs[i+m]?:=rfl;rw[e2] at this;rw[this]
theorem getItem_tuple_cut {Q:Value->Shared->Prop}(ht:IsTup s.heap t items)(hs:s.heap.IsSliceOf sl vl vu .none)(pl:IsPart vl lo)(pu:IsPart vu hi)(hw:¬(sIx items.size 0 lo=0/\sIx items.size items.size hi=items.size))(h:Q (.ref s.heap.objs.size) { s with heap:=s.heap.push { cls:=.type "tuple",data:=.seq ((items.toList.drop (sIx items.size 0 lo)).take (sIx items.size items.size hi-sIx items.size 0 lo)).toArray } })(hsz:items.size<=sizeLine):wpAny (model prog w) A (getItem (.ref t) (.ref sl)) Q E s:=by
 have htake:sizeOk (.seq ((items.toList.drop (sIx items.size 0 lo)).take (sIx items.size items.size hi-sIx items.size 0 lo)).toArray):=by show ((items.toList.drop (sIx items.size 0 lo)).take (sIx items.size items.size hi-sIx items.size 0 lo)).toArray.size<=sizeLine;rw[QR,RI,R5,Array.length_toList];omega
 have hj:sIx items.size items.size hi<=items.size:=LS _ _ (P6 _) hi;obtain⟨os,hos,hcs,hds⟩:=id hs;have hTs:s.TypeIs (.ref sl) "slice":=⟨os,hos,hcs⟩;unfold getItem
 try with_reducible refine S4 ?_
 first|refine P4 (QE ?_)|skip
 refine P4 (wpAny_sequenceKey ht.typeIs (by decide) ?_);refine P4 (wpAny_callSpecial?_slot (name:=Str.ofString "__getitem__") ht.typeIs RT
  (wpAny_call_entry RT ht.typeIs entry_tuple_getitem ?_ (args_tuple_getitem _ _)))
 show wpAny _ _ (Builtin.Tuple.tupleItemsOf (.ref t) >>= _) _ _ s;refine P4 (tupleItemsOf_ ht ?_);refine P4 (wpAny_typeOf hTs ?_);rw[QA (by decide)];refine P4 (sliceApplied_gen hs pl pu ?_);have hno:¬((((sIx items.size 0 lo:Nat):Int) == 0 && (1:Int) == 1 && (sIx items.size items.size hi-sIx items.size 0 lo) == items.size)=true):=by intro q;rw[QB,QB] at q;have q1:((sIx items.size 0 lo:Nat):Int)=0:=eq_of_beq q.1.1;have q2:sIx items.size items.size hi-sIx items.size 0 lo=items.size:=eq_of_beq q.2;exact hw ⟨by omega,by omega⟩
 show wpAny _ _ (if (((sIx items.size 0 lo:Nat):Int) == 0 && (1:Int) == 1 && (sIx items.size items.size hi-sIx items.size 0 lo) == items.size)=true then _ else _) _ _ s;rw[QC hno,EF]
 first
  | exact P4 (m:=Builtin.Tuple.tupleExact _) (wpAny_newObj_type (QE ⟨_,rfl,QE h⟩) htake)
  | exact P4 (m:=Builtin.Tuple.tupleExact _) (wpAny_newObj_type (P4 (QE (QE ⟨_,rfl,QE h⟩))) htake)
  | exact P4 (P4 (m:=Builtin.Tuple.tupleExact _) (wpAny_newObj_type (QE (QE ⟨_,rfl,QE h⟩)) htake))
  | exact P4 (P4 (m:=Builtin.Tuple.tupleExact _) (wpAny_newObj_type (QE ⟨_,rfl,QE h⟩) htake))
end
end HT
namespace L2
noncomputable abbrev TO:=St->Hp->(Option Int->Hp->Prop)->Prop
def PO (X:Cx)(e:Option Expr)(t:TO):Prop :=
 ∀(pins:List (Addr × Obj)) (s:Shared) (σ:St) (H:Hp) (Q:Option Int->Hp->Prop),Inv X pins σ H s->t σ H Q ->
  wpAny (model X.prog X.w) X.A (evalPart e X.env) (fun u s'=>∃o H',Inv X pins σ H' s'/\IsPart u o/\Q o H') X.xe s
noncomputable def HG:TO:=fun _ H Q=>Q none H
noncomputable def MT (t:TE):TO:=fun σ H Q=>t σ H fun x H1=>∃i,x=.int i/\Q (some i) H1
section
variable {X:Cx}{e:Expr}{te:TE}{lo hi:Option Expr}{tl th:TO}{pos p2:Pos}
theorem Io:PO X none HG:=by intro pins s σ H Q I h;rw[evalPart_none];exact QE ⟨none,H,I,.none,h⟩
theorem IS (h:PE X e te):PO X (some e) (MT te):=by intro pins s σ H Q I hw;rw[evalPart_some];refine thn (h pins s σ H _ I hw) fun u s1 ⟨x,H1,I1,r1,q1⟩=>?_;obtain⟨i,rfl,q⟩:=q1;obtain⟨t,rfl⟩:=r1;exact⟨some i,H1,I1,.int i t,q⟩
def SlR (X:Cx)(r:V->Option Int->Option Int->Hp->VK->Prop):Prop :=
 ∀(pins:List (Addr × Obj)) (s:Shared) (σ:St) (H:Hp) (x:V) (v vl vu:Value) (lo hi:Option Int) (sl:Addr) (Q:VK),Inv X pins σ H s->RelV x v->s.heap.IsSliceOf sl vl vu .none->IsPart vl lo->IsPart vu hi->r x lo hi H Q ->
  ∃T id,typeLookup (.type T) "__getitem__"=pure (some (.builtin id))/\s.TypeIs v T/\wpAny (model X.prog X.w) X.A (getItem v (.ref sl)) (EP X pins σ Q) X.xe s
noncomputable def tSl (r:V->Option Int->Option Int->Hp->VK->Prop)(te:TE)(tl th:TO):TE:=fun σ H Q=>te σ H fun x H1=>tl σ H1 fun l H2=>th σ H2 fun u H3=>r x l u H3 Q
theorem Ef (hr:SlR X r)(he:PE X e te)(hl:PO X lo tl)(hu:PO X hi th):PE X (.Subscript e (.Slice lo hi none p2) pos) (tSl r te tl th):=by intro pins s σ H Q I h;refine Subscript_ (thn (he pins s σ H _ I h) fun v s1 ⟨x,H1,I1,r1,q1⟩=>?_);refine wpAny_Slice (thn (hl pins s1 σ H1 _ I1 q1) fun vl s2 ⟨l,H2,I2,pl,q2⟩=>thn (hu pins s2 σ H2 _ I2 q2) fun vu s3 ⟨u,H3,I3,pu,q3⟩=>?_);rw[evalPart_none];refine QE ?_;have I4:Inv X pins σ H3 { s3 with heap:=s3.heap.push { cls:=.type "slice",data:=.fields #[vl,vu,.none] } }:=I3.kept (t':=s3.toks) fun b ob q=>P2 _ q;obtain ⟨T,id,hT,ht,hg⟩:=hr pins { s3 with heap:=s3.heap.push { cls:=.type "slice",data:=.fields #[vl,vu,.none] } } σ H3 x v vl vu l u s3.heap.objs.size Q I4 r1 (Heap.IsSliceOf.new ..) pl pu q3;show wpAny (model X.prog X.w) X.A (subscriptTail e (.Slice lo hi none p2) v (.ref s3.heap.objs.size)) (EP X pins σ Q) X.xe { s3 with heap:=s3.heap.push { cls:=.type "slice",data:=.fields #[vl,vu,.none] } };exact tail_any (ops:=[.ref s3.heap.objs.size,v]) ht hT hg (by with_unfolding_all rfl)
noncomputable def tw (xs:List V)(lo hi:Option Int):List V:=(xs.drop (HT.sIx xs.length 0 lo)).take (HT.sIx xs.length xs.length hi-HT.sIx xs.length 0 lo)
theorem oS (xs:List V)(lo hi:Option Int):(tw xs lo hi).length<=xs.length:=by unfold tw;rw[RI,R5];omega
noncomputable def PU (K:W.Frag):V->Option Int->Option Int->Hp->VK->Prop:=fun x lo hi H Q=>∃a xs,x=.ref a/\SqT K H a xs /\
 ¬(HT.sIx xs.length 0 lo=0/\HT.sIx xs.length xs.length hi=xs.length)/\∀p,H p=none->Q (.ref p) (upd H p (.tup (tw xs lo hi)))
theorem L_:SlR X (PU X.K):=by
 intro pins s σ H x v vl vu lo hi sl Q I rx hs pl pu h;obtain⟨a,xs,rfl,hx,hw,q⟩:=h;cases rx;obtain⟨its,r,ht,hz⟩:=I.tuple hx;have hlen:its.toArray.size=xs.length:=by rw[QR];exact r.length.symm
 refine ⟨"tuple",_,PyProof.Rows.slot_tuple_getitem.lookup,ht.typeIs,?_⟩;refine HT.getItem_tuple_cut ht hs pl pu (by rw[hlen];exact hw) ?_ (by rw[hlen];exact hz);rw[hlen];refine⟨.ref s.heap.objs.size,_,I.laid (t':=s.toks) (o:=.tup (tw xs lo hi)) (fun b ob q=>P2 _ q) (P6 _) ?_,rfl,q _ (I.hok.fresh (P6 _))⟩;exact⟨QP (oS xs lo hi) hz,_,(r.drop (HT.sIx xs.length 0 lo)).take (HT.sIx xs.length xs.length hi-HT.sIx xs.length 0 lo),IsTup.new _ _⟩
noncomputable def MR (K:W.Frag):R2:=fun x y H Q=>∃a b xs ys,x=.ref a/\y=.ref b/\SqT K H a xs/\SqT K H b ys/\xs≠[]/\xs.length+ys.length<=sizeLine /\
 (ys=[]->Q (.ref a) H)/\(ys≠[]->∀p,H p=none->Q (.ref p) (upd H p (.tup (xs++ys))))
theorem Vals.nil_iff (r:Vals xs us):us=[]↔xs=[]:=by
 cases r with
 | nil=>simp
 | cons _ _=>simp
theorem Hy:OpR X (binaryOp .Add) (MR X.K):=by intro pins s σ H x y v u Q I rx ry h;obtain⟨a,b,xs,ys,rfl,rfl,ha,hb,hx,hz,q1,q2⟩:=h;cases rx;cases ry;obtain⟨its,r1,p1,_⟩:=I.tuple ha;obtain⟨its2,r2,p2,_⟩:=I.tuple hb;refine HT.cat_tup p1 p2 (fun z=>hx (r1.nil_iff.mp z)) (fun z=>⟨.ref a,H,I,rfl,q1 (r2.nil_iff.mp z)⟩) (fun z=>?_) (by rw[<-r1.length,<-r2.length];exact hz);refine⟨.ref s.heap.objs.size,_,I.laid (t':=s.toks) (o:=.tup (xs++ys)) (fun b ob q=>P2 _ q) (P6 _) ?_,rfl,q2 (fun w=>z (r2.nil_iff.mpr w)) _ (I.hok.fresh (P6 _))⟩;exact⟨by rw[QS];exact hz,_,r1.append r2,IsTup.new _ _⟩
end
end L2
namespace L2
noncomputable def ixN (n:Nat)(i:Int):Option Nat:=if 0<=i then (if i<n then some i.toNat else none) else if -(n:Int)<=i then some (i+n).toNat else none
noncomputable def atI {α:Type}(xs:List α)(i:Int):Option α:=(ixN xs.length i).bind fun j=>xs[j]?
theorem BE (h:ixN n i=some j):seqIndex? i n=some j/\j<n/\-(n:Int)<=i/\i<n:=by
 unfold ixN at h;by_cases h0:0<=i
 ·rw[QA h0] at h;by_cases h1:i<n
  ·rw[QA h1] at h;have e:i.toNat=j:=Q2 h;exact⟨by rw[seqIndex_of h0 h1,e],by omega,by omega,h1⟩
  ·rw[QC h1] at h;cases h
 ·rw[QC h0] at h;by_cases h1:-(n:Int)<=i
  ·rw[QA h1] at h;have e:(i+n).toNat=j:=Q2 h;exact⟨by rw[seqIndex_neg (by omega) h1,e],by omega,h1,by omega⟩
  ·rw[QC h1] at h;cases h
theorem u6 {α:Type}{xs:List α}{v:α}(h:atI xs i=some v):∃j,seqIndex? i xs.length=some j/\xs[j]?=some v/\j<xs.length/\-(xs.length:Int)<=i/\i<xs.length:=by
 unfold atI at h;cases e:ixN xs.length i with
 | none=>rw[e] at h;cases h
 | some j =>rw[e] at h;obtain⟨h1,h2,h3,h4⟩:=BE e;exact⟨j,h1,h,h2,h3,h4⟩
theorem de {α:Type}{xs:List α}{j:Nat}{v:α}(h:xs[j]?=some v):atI xs (j:Int)=some v:=by
 have hj:j<xs.length:=(P8.mp h).1;have e:ixN xs.length (j:Int)=some j:=by unfold ixN;rw[QA (by omega),QA (by omega)];simp
 unfold atI;rw[e];exact h
def Bg (b:Expr):Prop:=∀o i,subscripted b false o i=operate [o,i] (getItem o i)
def IxR (X:Cx)(r:R2):Prop :=
 ∀(value slice:Expr) (pins:List (Addr × Obj)) (s:Shared) (σ:St) (H:Hp) (x y:V) (v u:Value) (Q:VK),Inv X pins σ H s->RelV x v->RelV y u->r x y H Q ->
  subscripted slice false v u=operate [v,u] (getItem v u)->wpAny (model X.prog X.w) X.A (subscriptTail value slice v u) (EP X pins σ Q) X.xe s
def MtR (X:Cx)(id:String)(r:V->List V->Hp->VK->Prop):Prop :=
 ∀(pins:List (Addr × Obj)) (s:Shared) (σ:St) (H:Hp) (x:V) (xs:List V) (v:Value) (us:List Value) (Q:VK),Inv X pins σ H s->RelV x v->Vals xs us->r x xs H Q ->
  wpAny (model X.prog X.w) X.A (call (.builtin id) (v::us)) (EP X pins σ Q) X.xe s
section
variable {X:Cx}{a b:Expr}{ta tb:TE}{pos:Pos}
theorem Ot (hr:IxR X r)(ha:PE X a ta)(hb:PE X b tb)(hs:Bg b):PE X (.Subscript a b pos) (tOp r ta tb):=by intro pins s σ H Q I h;exact Subscript_ (L9 ha hb I h fun v u s2 x y H2 I2 rx ry q=>hr a b pins s2 σ H2 x y v u Q I2 rx ry q (hs _ _))
noncomputable def Pz (K:W.Frag):R2:=fun x y H Q=>∃p xs i v,x=.ref p/\y=.int i/\SqL K H p xs/\atI xs i=some v/\Q v H
noncomputable def Pu (K:W.Frag):R2:=fun x y H Q=>∃p xs i v,x=.ref p/\y=.int i/\SqT K H p xs/\atI xs i=some v/\Q v H
noncomputable def PJ:R2:=fun x y H Q=>∃z i c,x=.str z/\y=.int i/\z.length<=sizeLine/\atI z.cps.toList i=some c/\Q (.str ⟨#[c]⟩) H
theorem IU:IxR X (Pz X.K):=by
 intro value slice pins s σ H x y v u Q I rx ry h hs;obtain⟨p,xs,i,z,rfl,rfl,hq,he,q⟩:=h;cases rx;obtain⟨t,rfl⟩:=ry;obtain⟨its,r,pl,hz⟩:=I.list hq;obtain⟨j,h1,h2,h3,h4,h5⟩:=u6 he;obtain⟨w,ew,rw'⟩:=r.get h2;have hl:=r.length;have hn:=lP;have fin:EP X pins σ Q w s:=⟨z,H,I,rw',q⟩;by_cases h0:0<=i
 ·have hj:i.toNat=j:=by rw[seqIndex_of h0 h5] at h1;exact Q2 h1
  exact item_listR pl.isList h0 (by omega) (by rw[hj];simpa using ew) fin hs
 ·have hj:(i+(its.toArray.size:Int)).toNat=j:=by rw[seqIndex_neg (by omega) h4] at h1;rw[QR,<-hl];exact Q2 h1
  exact subscriptTail_builtinR (x:=w) pl.isList.typeIs slot_list_getitem.lookup
   (wpAny_getItem_list_neg (Q:=fun r s'=>r=w/\EP X pins σ Q r s') pl.isList (by omega) (by rw[QR] <;> omega) (by omega) (by rw[hj];simpa using ew) ⟨rfl,fin⟩) hs
theorem Ld:IxR X (Pu X.K):=by
 intro value slice pins s σ H x y v u Q I rx ry h hs;obtain⟨p,xs,i,z,rfl,rfl,hq,he,q⟩:=h;cases rx;obtain⟨t,rfl⟩:=ry;obtain⟨its,r,pl,hz⟩:=I.tuple hq;obtain⟨j,h1,h2,h3,h4,h5⟩:=u6 he;obtain⟨w,ew,rw'⟩:=r.get h2;have hl:=r.length;have hn:=lP;have fin:EP X pins σ Q w s:=⟨z,H,I,rw',q⟩;exact subscriptTail_builtinR (x:=w) pl.typeIs slot_tuple_getitem.lookup
  (getItem_tuple (j:=j) (Q:=fun r s'=>r=w/\EP X pins σ Q r s') pl (by omega) (by omega) (by rw[QR,<-hl];exact h1) (by simpa using ew) ⟨rfl,fin⟩) hs
theorem Ml:IxR X PJ:=by
 intro value slice pins s σ H x y v u Q I rx ry h hs;obtain⟨z,i,c,rfl,rfl,hz,he,q⟩:=h;obtain⟨t,rfl⟩:=rx;obtain⟨t',rfl⟩:=ry;obtain⟨j,h1,h2,h3,h4,h5⟩:=u6 he;have hl:z.cps.toList.length=z.length:=by simp[Str.length]
 rw[hl] at h1 h4 h5;have hn:=lP;exact tail_any (typeIs_str s z t) slot_str_getitem.lookup (getItem_str (c:=c) (by have e1:decide (i < -(2 ^ 63:Int))=false:=QJ (by omega);have e2:decide (i >= 2 ^ 63)=false:=QJ (by omega);rw[e1,e2,Bool.or_false]) (by rw[h1];simpa using h2) ⟨.str ⟨#[c]⟩,H,I.tok _,⟨_,rfl⟩,q⟩) hs
theorem Ah (its:List Value)(n j:Nat)(u:Value):Obj.mapSeq (·.setIfInBounds j u) { cls:=.type "list",data:=.seq its.toArray n }={ cls:=.type "list",data:=.seq (its.set j u).toArray n }:=by simp[Obj.mapSeq]
theorem Inv.lst {σ:St}(I:Inv X pins σ H s)(h:H p=some (.lst xs)) :
  ∃(its:List Value) (n:Nat),Vals xs its/\s.heap.get? p=some { cls:=.type "list",data:=.seq its.toArray n }/\xs.length<=sizeLine:=by
 obtain⟨z,its,n,r,e⟩:=I.hok p _ h;exact⟨its,n,r,e,z⟩
theorem Inv.lstUpd {σ:St}{its its':List Value}{f:Obj->Obj}(I:Inv X pins σ H s)(h:H p=some (.lst xs))(ho:s.heap.get? p=some { cls:=.type "list",data:=.seq its.toArray n })(hf:f { cls:=.type "list",data:=.seq its.toArray n }={ cls:=.type "list",data:=.seq its'.toArray n' })(r:Vals ys its')(hz:ys.length<=sizeLine)(t:Nat) :
  Inv X pins σ (upd H p (.lst ys)) { s with heap:=s.heap.update p f,toks:=t }:=by
 have e:(s.heap.update p f).get? p=some { cls:=.type "list",data:=.seq its'.toArray n' }:=by rw[SB f ho (by rw[hf] <;> rfl),hf]
 refine I.write (x:=p) (e:=p) (by rw[h];trivial) (.inl rfl) (fun b u hb q=>(RO _ _ (Ne.symm hb)).trans q) ⟨_,e⟩ ?_;exact⟨hz,its',n',r,e⟩
noncomputable def OI:V->V->V->Hp->(Hp->Prop)->Prop:=fun o i v H Q=>∃p xs k j,o=.ref p/\i=.int k/\H p=some (.lst xs)/\ixN xs.length k=some j/\Q (upd H p (.lst (xs.set j v)))
theorem FV:LZ X OI:=by
 intro pins s σ H o i v ov iv u Q I ro ri rv h;obtain⟨p,xs,k,j,rfl,rfl,hp,hj,q⟩:=h;cases ro;obtain⟨t,rfl⟩:=ri;obtain⟨its,n,r,ho,hz⟩:=I.lst hp;obtain⟨h1,h2,h3,h4⟩:=BE hj;have hl:=r.length;have hn:=lP;have I':Inv X pins σ (upd H p (.lst (xs.set j v))) { s with heap:=s.heap.update p (Obj.mapSeq (·.setIfInBounds j u)) } :=
  I.lstUpd hp ho (Ah its n j u) (r.set rv j) (by rw[UV];exact hz) s.toks
 by_cases h0:0<=k
 ·have hk:k.toNat=j:=by rw[seqIndex_of h0 h4] at h1;exact Q2 h1
  exact W.ki_setAt ho h0 (by omega) (by rw[QR,<-hl];exact h4) (by rw[hk];exact⟨_,I',q⟩)
 ·have hk:(k+(its.toArray.size:Int)).toNat=j:=by rw[seqIndex_neg (by omega) h3] at h1;rw[QR,<-hl];exact Q2 h1
  exact W.ki_setBack ho (by omega) (by rw[QR,<-hl];exact h3) (by omega) (by rw[hk];exact⟨_,I',q⟩)
theorem vy (lo hi:Option Int)(n:Nat):(sliceBounds lo hi none n).1=((HT.sIx n 0 lo:Nat):Int)/\(sliceBounds lo hi none n).2.1=((HT.sIx n n hi:Nat):Int)/\(sliceBounds lo hi none n).2.2=1:=by
 refine⟨?_,?_,rfl⟩
 ·cases lo with
  | none=>simp[sliceBounds,HT.sIx]
  | some i =>
   simp only[sliceBounds,HT.sIx,Option.getD_none,show (1:Int) > 0 by decide,if_true];by_cases h:i<0
   ·simp only[h,if_true] <;> omega
   ·simp only[h,if_false] <;> omega
 ·cases hi with
  | none=>simp[sliceBounds,HT.sIx]
  | some i =>
   simp only[sliceBounds,HT.sIx,Option.getD_none,show (1:Int) > 0 by decide,if_true];by_cases h:i<0
   ·simp only[h,if_true] <;> omega
   ·simp only[h,if_false] <;> omega
theorem sW (its:List Value)(lo hi:Option Int):slicePick its.toArray lo hi none=((its.drop (HT.sIx its.length 0 lo)).take (HT.sIx its.length its.length hi-HT.sIx its.length 0 lo)).toArray:=by obtain⟨h1,h2,h3⟩:=vy lo hi its.toArray.size;unfold slicePick;rw[h1,h2,h3];simp only[sliceRange_one,pick_run,List.size_toArray] <;> rfl
noncomputable def Px (K:W.Frag):V->Option Int->Option Int->Hp->VK->Prop:=fun x lo hi H Q=>∃a xs,x=.ref a/\SqL K H a xs/\∀p,H p=none->Q (.ref p) (upd H p (.lst (tw xs lo hi)))
theorem Hs:SlR X (Px X.K):=by intro pins s σ H x v vl vu lo hi sl Q I rx hs pl pu h;obtain⟨a,xs,rfl,hx,q⟩:=h;cases rx;obtain⟨its,r,ht,hz⟩:=I.list hx;have hlen:=r.length;refine ⟨"list",_,slot_list_getitem.lookup,ht.isList.typeIs,?_⟩;refine wpAny_getItem_list_slice ht.isList hs pl pu .none (by simp) ?_ (by rw[QR] <;> omega);rw[sW,<-hlen];refine⟨.ref s.heap.objs.size,_,I.laid (t':=s.toks) (o:=.lst (tw xs lo hi)) (fun b ob q=>P2 _ q) (P6 _) ?_,rfl,q _ (I.hok.fresh (P6 _))⟩;exact⟨QP (oS xs lo hi) hz,_,0,(r.drop (HT.sIx xs.length 0 lo)).take (HT.sIx xs.length xs.length hi-HT.sIx xs.length 0 lo),QG _ rfl⟩
noncomputable def jG:V->Bool
 | .non=>true
 | .bl _=>true
 | .int _=>true
 | .str _=>true
 | _=>false
noncomputable def eqV:V->V->Bool
 | .non,.non=>true
 | .bl a,.bl b=>a == b
 | .bl a,.int b=>(if a then 1 else 0) == b
 | .int a,.bl b=>a == (if b then 1 else 0)
 | .int a,.int b=>a == b
 | .str a,.str b=>a == b
 | _,_=>false
theorem Lr (ry:RelV y u)(rx:RelV x v)(fy:jG y=true)(fx:jG x=true):SeqAt.EqAt A s u v (eqV y x):=by
 cases y with
 | non =>
  cases ry;cases x with
  | non=>cases rx;exact SeqAt.EqAt.same _
  | bl b=>cases rx;exact SeqAt.EqAt.none_bool b
  | int b=>obtain⟨t,rfl⟩:=rx;exact SeqAt.EqAt.none_int b t
  | str b=>obtain⟨t,rfl⟩:=rx;exact SeqAt.EqAt.none_str b t
  | _=>exact absurd (show false=true from fx) P5
 | bl a =>
  cases ry;cases x with
  | non=>cases rx;exact SeqAt.EqAt.bool_none a
  | bl b=>cases rx;exact SeqAt.EqAt.bool_bool a b
  | int b=>obtain⟨t,rfl⟩:=rx;exact SeqAt.EqAt.bool_int a b t
  | str b=>obtain⟨t,rfl⟩:=rx;exact SeqAt.EqAt.bool_str a b t
  | _=>exact absurd (show false=true from fx) P5
 | int a =>
  obtain⟨t',rfl⟩:=ry;cases x with
  | non=>cases rx;exact SeqAt.EqAt.int_none a t'
  | bl b=>cases rx;exact SeqAt.EqAt.int_bool a t' b
  | int b=>obtain⟨t,rfl⟩:=rx;exact SeqAt.EqAt.int_int a t' b t
  | str b=>obtain⟨t,rfl⟩:=rx;exact SeqAt.EqAt.int_str a t' b t
  | _=>exact absurd (show false=true from fx) P5
 | str a =>
  obtain⟨t',rfl⟩:=ry;cases x with
  | non=>cases rx;exact SeqAt.EqAt.str_none a t'
  | bl b=>cases rx;exact SeqAt.EqAt.str_bool a t' b
  | int b=>obtain⟨t,rfl⟩:=rx;exact SeqAt.EqAt.str_int a t' b t
  | str b=>obtain⟨t,rfl⟩:=rx;exact SeqAt.EqAt.str_str a t' b t
  | _=>exact absurd (show false=true from fx) P5
 | _=>exact absurd (show false=true from fy) P5
noncomputable def eqU (x:V)(u:Value):Bool:=match u with
 | .none=>eqV .non x
 | .bool b=>eqV (.bl b) x
 | .int i _=>eqV (.int i) x
 | .str z _=>eqV (.str z) x
 | _=>false
theorem Eo (r:RelV y u)(f:jG y=true):eqU x u=eqV y x:=by
 cases y with
 | non=>cases r;rfl
 | bl b=>cases r;rfl
 | int i=>obtain⟨t,rfl⟩:=r;rfl
 | str z=>obtain⟨t,rfl⟩:=r;rfl
 | _=>exact absurd (show false=true from f) P5
theorem l8:∀ {xs:List V}{us:List Value},Vals xs us->xs.all jG=true->us.any (eqU x)=xs.any fun y=>eqV y x
 | _,_,.nil,_=>rfl
 | y::xs,u::us,.cons r t,f=>by rw[RN,QB] at f;rw[RG,RG,Eo r f.1,l8 t f.2]
theorem j7 (rx:RelV x v)(fx:jG x=true):∀ {xs:List V}{us:List Value},Vals xs us->xs.all jG=true->∀u∈us,SeqAt.EqAt A s u v (eqU x u)
 | _,_,.nil,_=>fun u hu=>by cases hu
 | y::xs,u::us,.cons r t,f=>fun u' hu=>by
  rw[RN,QB] at f;rcases QZ.mp hu with rfl|hu
  ·rw[Eo r f.1];exact Lr r rx f.1 fx
  ·exact j7 rx fx t f.2 u' hu
noncomputable def inV (x:V)(xs:List V):Bool:=xs.any fun y=>eqV y x
noncomputable def rIn (K:W.Frag)(neg:Bool):R2:=fun x y H Q=>∃p xs,y=.ref p/\(SqL K H p xs\/SqT K H p xs)/\jG x=true/\xs.all jG=true/\Q (.bl (if neg then !inV x xs else inV x xs)) H
theorem vi:fO X (.builtin "len") (fun xs H Q=>∃p ys,xs=[.ref p]/\(SqL X.K H p ys\/SqT X.K H p ys)/\Q (.int ys.length) H):=by
 intro pins s σ H xs us Q I r h;obtain⟨p,ys,rfl,hq,q⟩:=h;obtain⟨u,rfl,rx⟩:=fQ r;cases rx;have hn:=lP;rcases hq with hq|hq
 ·obtain⟨its,r',pl,hz⟩:=I.list hq;have hlen:=r'.length;exact Calls.call_len_list pl.isList (by simp only[List.size_toArray] <;> omega) ⟨.int ys.length,H,I.tok _,⟨s.toks+1,by rw[QR,hlen]⟩,q⟩
 ·obtain⟨its,r',pl,hz⟩:=I.tuple hq;have hlen:=r'.length;exact len_tuple pl (by simp only[List.size_toArray] <;> omega) ⟨.int ys.length,H,I.tok _,⟨s.toks+1,by rw[QR,hlen]⟩,q⟩
theorem uT:fO X (.builtin "len") (fun xs H Q=>∃z,xs=[.str z]/\z.length<=sizeLine/\Q (.int z.length) H):=by intro pins s σ H xs us Q I r h;obtain⟨z,rfl,hz,q⟩:=h;obtain⟨u,rfl,t,rfl⟩:=fQ r;have hn:=lP;exact len_str (by omega) ⟨.int z.length,H,I.tok _,⟨_,rfl⟩,q⟩
theorem su:fO X (.type "tuple") (fun xs H Q=>∃p ys,xs=[.ref p]/\((SqL X.K H p ys/\∀l,H l=none->Q (.ref l) (upd H l (.tup ys)))\/(SqT X.K H p ys/\Q (.ref p) H))):=by
 intro pins s σ H xs us Q I r h;obtain⟨p,ys,rfl,h⟩:=h;obtain⟨u,rfl,rx⟩:=fQ r;cases rx;rcases h with⟨hq,q⟩|⟨hq,q⟩
 ·obtain⟨its,r',pl,hz⟩:=I.list hq;have hlen:=r'.length;refine call_tuple_list pl.isList (fun h' kp=>?_) (by simp only[List.size_toArray] <;> omega);have I1:Inv X pins σ H { s with heap:=h' }:=I.kept (t':=s.toks) kp;have I2:Inv X pins σ (upd H h'.objs.size (.tup ys)) { s with heap:=h'.push { cls:=.type "tuple",data:=.seq its.toArray } } :=
   I1.laid (t':=s.toks) (fun b o e=>P2 _ e) (P6 _) (show ObjOk X.prog X.w _ _ _ (.tup ys) from ⟨hz,its,r',IsTup.new _ _⟩)
  exact⟨.ref h'.objs.size,_,I2,rfl,q _ (I1.hok.fresh (P6 _))⟩
 ·obtain⟨its,r',pl,hz⟩:=I.tuple hq;exact call_tuple_same pl ⟨.ref p,H,I,rfl,q⟩
def tyV (K:W.Frag)(T:String)(x:V)(H:Hp):Prop:=match x with
 | .str _=>T="str"
 | .int _=>T="int"
 | .ref p=>(T="list"/\∃xs,SqL K H p xs)\/(T="tuple"/\∃o,K.lookup p=some o/\o.cls=.type "tuple"/\o.dict=none) \/
   (T="dict"/\((∃kvs,H p=some (.dK kvs))\/∃kvs,H p=some (.dT kvs)))\/(T="set"/\∃S n,H p=some (.set S n))
 | _=>False
theorem DF {σ:St}(I:Inv X pins σ H s)(r:RelV x v)(ty:tyV X.K T x H) :
  s.TypeIs v T/\∀a,v=.ref a->∃ob,s.heap.get? a=some ob/\ob.dict=none:=by
 cases x with
 | str z =>obtain⟨t,rfl⟩:=r;cases (show T="str" from ty);exact⟨typeIs_str s z t,fun _ e=>nomatch e⟩
 | int i =>obtain⟨t,rfl⟩:=r;cases (show T="int" from ty);exact⟨typeIs_int s i t,fun _ e=>nomatch e⟩
 | ref p =>
  cases r;rcases ty with⟨rfl,xs,hq⟩|⟨rfl,o,hk,hc,hd⟩|⟨rfl,hk⟩|⟨rfl,S,n,hk⟩
  ·obtain⟨its,_,pl,_⟩:=I.list hq;refine⟨pl.isList.typeIs,fun a e=>?_⟩;cases e;obtain⟨o,n,e,c,hd,_⟩:=pl;exact⟨o,e,hd⟩
  ·refine⟨⟨o,I.kIn p o hk,hc⟩,fun a e=>?_⟩;cases e;exact⟨o,I.kIn _ o hk,hd⟩
  ·have z:∃o,s.heap.get? p=some o/\o.ExactDict:=by
    rcases hk with⟨kvs,hk⟩|⟨kvs,hk⟩
    ·obtain⟨_,_,_,_,o,_,_,e,ex,_⟩:=I.hok p _ hk;exact⟨o,e,ex⟩
    ·obtain⟨_,_,_,_,o,_,_,e,ex,_⟩:=I.hok p _ hk;exact⟨o,e,ex⟩
   obtain⟨o,e,ex⟩:=z;refine⟨⟨o,e,ex.1⟩,fun a e2=>?_⟩;cases e2;exact⟨o,e,ex.2.1⟩
  ·obtain⟨o,_,_,_,e,ex,_⟩:=I.hok p _ hk;refine⟨⟨o,e,ex.1⟩,fun a e2=>?_⟩;cases e2;exact⟨o,e,ex.2.1⟩
 | _=>exact False.elim ty
noncomputable def Po (K:W.Frag)(T:String)(r:V->List V->Hp->VK->Prop)(to:TE):TE:=fun σ H Q=>to σ H fun x H1=>tyV K T x H1/\r x [] H1 Q
noncomputable def tBM (K:W.Frag)(T:String)(r:V->List V->Hp->VK->Prop)(to:TE)(t:TA):TE:=fun σ H Q=>to σ H fun x H1=>tyV K T x H1/\t σ H1 fun xs H2=>r x xs H2 Q
variable {o e:Expr}{es:List Expr}{to:TE}{t:TA}{name:Str}{apos cpos:Pos}{T id:String}{r:V->List V->Hp->VK->Prop}
theorem Lq (pa:PlainAttrs T)(slot:Slot T name id)(hty:typeOf (.builtin id)=pure (.type "method_descriptor"))(hm:MtR X id r)(ho:PE X o to)
  (hbase:attributeBase o name X.env (eval o X.env)=eval o X.env:=by rfl) (hline:(apos.endLine == cpos.line)=true:=by rfl):PE X (.Call (.Attribute o name apos) [] [] cpos) (Po X.K T r to):=by
 intro pins s σ H Q I h;refine wpAny_Call_method0_late hbase hline (thn (ho pins s σ H _ I h) fun v s1 ⟨x,H1,I1,r1,ty,q1⟩=>?_);obtain⟨h1,h2⟩:=DF I1 r1 ty;exact⟨T,id,pa,slot,hty,h1,h2,Calls.callWith_builtin rfl (PySem.evalArgs_none (hm pins s1 σ H1 x [] v [] Q I1 r1 .nil q1))⟩
theorem t4 (pa:PlainAttrs T)(slot:Slot T name id)(hty:typeOf (.builtin id)=pure (.type "method_descriptor"))(hm:MtR X id r)(ho:PE X o to)(ha:PA X (e::es) t)
  (hbase:attributeBase o name X.env (eval o X.env)=eval o X.env:=by rfl)
  (hfew:((backTo cpos (starEach (e::es) X.env)).all (fun x=>!x.1) && (backToKw cpos (keywordEach [] X.env)).all (fun x=>x.1.isSome)
   && decide ((e::es).length+([]:List Keyword).length+(if ([]:List Keyword).isEmpty then 0 else 1)<30))=true:=by rfl)
  (hline:(apos.endLine == cpos.line)=true:=by rfl) (hs:starEach (e::es) X.env=(false,eval e X.env)::starEach es X.env:=by rfl) (hplain:(backTo cpos (starEach es X.env)).any (·.1)=false:=by rfl) :
  PE X (.Call (.Attribute o name apos) (e::es) [] cpos) (tBM X.K T r to t):=by
 intro pins s σ H Q I h;refine wpAny_Call_method_late hbase hfew hline rfl (thn (ho pins s σ H _ I h) fun v s1 ⟨x,H1,I1,r1,ty,q1⟩=>?_);obtain⟨h1,h2⟩:=DF I1 r1 ty;refine⟨T,id,pa,slot,hty,h1,h2,?_⟩;have hA:=ha cpos pins s1 σ H1 _ I1 q1;rw[hs] at hA |-
 refine Calls.callWith_builtin (by show (false || (backTo cpos (starEach es X.env)).any (·.1))=false;rw[hplain] <;> rfl) (Calls.evalArgs_plain ?_);exact thn hA fun us s2 ⟨vs,H2,I2,r2,q2⟩=>hm pins s2 σ H2 x vs v us Q I2 r1 r2 q2
end
end L2
namespace L2
def MtM (X:Cx)(id:String)(r:V->List V->Hp->VK->Prop):Prop :=
 ∀(pins:List (Addr × Obj)) (s:Shared) (σ:St) (H:Hp) (x:V) (xs:List V) (v:Value) (us:List Value) (Q:VK),Inv X pins σ H s->RelV x v->Vals xs us->r x xs H Q ->
  wpAny (model X.prog X.w) X.A (call (.builtin id) (v::us)) (EP X pins σ Q) X.xe s
theorem Vals.one:∀ {x:V}{us:List Value},Vals [x] us->∃u,us=[u]/\RelV x u
 | _,_,.cons r .nil=>⟨_,rfl,r⟩
theorem Vals.zero:∀ {us:List Value},Vals [] us->us=[]
 | _,.nil=>rfl
theorem Vals.dropLast (h:Vals xs us):Vals xs.dropLast us.dropLast:=by
 induction h with
 | nil=>exact .nil
 | cons r t ih =>
  cases t with
  | nil=>exact .nil
  | cons q t'=>exact .cons r ih
theorem Vals.rep (h:Vals xs us):∀k:Nat,Vals (List.replicate k xs).flatten (List.replicate k us).flatten
 | 0=>.nil
 | k+1=>by rw[RK,RK,SE,SE];exact Vals.append h (Vals.rep h k)
theorem zD {α:Type}(l:List α):l.eraseIdx (l.length-1)=l.dropLast:=by
 induction l with
 | nil=>rfl
 | cons a r ih =>
  cases r with
  | nil=>rfl
  | cons b r =>
   have e:(a::b::r).length-1=((b::r).length-1)+1:=by have h1:(a::b::r).length=r.length+2:=rfl;have h2:(b::r).length=r.length+1:=rfl;omega
   rw[e,List.eraseIdx_cons_succ,ih]
   all_goals rfl
theorem ua (its:List Value):∀(k:Nat) (acc:List Value),
  List.foldl (fun x1 x2=>x1++x2) acc.toArray (List.replicate k its.toArray)=(acc++(List.replicate k its).flatten).toArray
 | 0,acc=>by simp
 | k+1,acc=>by
  have e:acc.toArray++its.toArray=(acc++its).toArray:=by simp
  have e2:(acc++its)++(List.replicate k its).flatten=acc++(List.replicate (k+1) its).flatten:=by rw[RK,SE,QY]
  rw[<-e2,<-ua its k (acc++its),<-e,RK,S_]
section
variable {X:Cx}{pins:List (Addr × Obj)}{σ:St}{H:Hp}{s:Shared}{l b:Addr}{xs ys zs:List V}
theorem Inv.lset {its its':List Value}{f:Array Value->Array Value}{t':Nat}(I:Inv X pins σ H s)(hH:H l=some (.lst xs))(e:s.heap.get? l=some { cls:=.type "list",data:=.seq its.toArray n })(hf:f its.toArray=its'.toArray)(hv:Vals ys its')(hz:ys.length<=sizeLine) :
  Inv X pins σ (upd H l (.lst ys)) { s with heap:=s.heap.update l (Obj.mapSeq f),toks:=t' }:=by
 have q:=PySem.IsL.update e f;rw[hf] at q;refine I.write (x:=l) (e:=l) (by rw[hH];exact trivial) (.inl rfl) (fun b' u hb hu=>(RO s.heap (Obj.mapSeq f) (Ne.symm hb)).trans hu) ⟨_,q⟩ ?_;exact⟨hz,its',_,hv,q⟩
theorem Inv.lnew {t':Nat}(I:Inv X pins σ H s)(hv:Vals ys its)(hz:ys.length<=sizeLine) :
  Inv X pins σ (upd H s.heap.objs.size (.lst ys)) { s with heap:=s.heap.push { cls:=.type "list",data:=.seq its.toArray },toks:=t' } :=
 I.laid (fun _ _ q=>P2 _ q) (P6 _) ⟨hz,its,0,hv,QG _ rfl⟩
theorem Inv.fresh (I:Inv X pins σ H s):H s.heap.objs.size=none:=I.hok.fresh (P6 _)
theorem Inv.lstM (I:Inv X pins σ H s)(hH:H l=some (.lst xs)):xs.length<=sizeLine/\∃(its:List Value) (n:Nat),Vals xs its/\xs.length=its.length/\s.heap.get? l=some { cls:=.type "list",data:=.seq its.toArray n }:=by obtain⟨z,its,n,r,e⟩:=I.hok l _ hH;exact⟨z,its,n,r,r.length,e⟩
theorem FY {n:Nat}(h:n<=sizeLine):Builtin.List.listTooLong n=false:=by unfold Builtin.List.listTooLong;exact QJ (by omega)
end
section
variable {X:Cx}
noncomputable def Hx:V->List V->Hp->VK->Prop:=fun x vs H Q=>∃l xs y,x=.ref l/\vs=[y]/\H l=some (.lst xs)/\xs.length<sizeLine/\Q .non (upd H l (.lst (xs++[y])))
theorem n_:MtM X "list.append" Hx:=by intro pins s σ H x vs v us Q I rx rv h;obtain⟨l,xs,y,rfl,rfl,hH,hz,q⟩:=h;cases rx;obtain⟨u,rfl,ru⟩:=rv.one;obtain⟨z,its,n,r,hl,e⟩:=I.lstM hH;refine call_meets F.slot_list_append ⟨_,e,rfl⟩ F.entry_list_append (F.args_list_append_2 _ _) (PySem.list_append l its.toArray n u (by rw[QR];omega)) ⟨e,?_⟩;refine⟨.non,_,I.lset (its':=its++[u]) hH e (by simp) (r.append (.cons ru .nil)) ?_,rfl,q⟩;rw[QS,List.length_singleton];omega
noncomputable def PZ:V->List V->Hp->VK->Prop:=fun x vs H Q=>∃l xs y,x=.ref l/\vs=[]/\H l=some (.lst xs)/\xs[xs.length-1]?=some y/\Q y (upd H l (.lst xs.dropLast))
theorem MJ:MtM X "list.pop" PZ:=by
 intro pins s σ H x vs v us Q I rx rv h;obtain⟨l,xs,y,rfl,rfl,hH,hy,q⟩:=h;cases rx;have hus:=rv.zero;subst hus;obtain⟨z,its,n,r,hl,e⟩:=I.lstM hH;obtain⟨u,hu,ru⟩:=r.get hy;have hy':its.toArray[its.toArray.size-1]?=some u:=by show its.toArray[its.length-1]?=some u;rw[<-Array.getElem?_toList,<-hl];exact hu
 refine call_meets F.slot_list_pop ⟨_,e,rfl⟩ F.entry_list_pop (F.args_list_pop_1 _) (MeetsSeq.list_pop_last l its.toArray n u hy' (by rw[QR];omega)) ⟨e,?_⟩;refine⟨y,_,I.lset (its':=its.dropLast) hH e ?_ r.dropLast ?_,ru,q⟩
 ·show its.toArray.eraseIdxIfInBounds (its.toArray.size-1)=its.dropLast.toArray;rw[QR,List.eraseIdxIfInBounds_toArray,zD]
 ·rw[List.length_dropLast];omega
noncomputable def Pd:R2:=fun x y H Q=>∃l b xs zs,x=.ref l/\y=.ref b/\H l=some (.lst xs)/\H b=some (.lst zs)/\xs.length+zs.length<=sizeLine/\∀p,H p=none->Q (.ref p) (upd H p (.lst (xs++zs)))
theorem Ll:OpR X (binaryOp .Add) Pd:=by
 intro pins s σ H x y v u Q I rx ry h;obtain⟨l,b,xs,zs,rfl,rfl,hH,hB,hz,q⟩:=h;cases rx;cases ry;obtain⟨z,its,n,r,hl,e⟩:=I.lstM hH;obtain⟨z2,its2,n2,r2,hl2,e2⟩:=I.lstM hB;refine PySem.P.add_list e e2 ?_ (by rw[QR,QR];omega);have ea:its.toArray++its2.toArray=(its++its2).toArray:=by simp
 rw[ea];exact⟨.ref _,_,I.lnew (t':=s.toks) (r.append r2) (by rw[QS];omega),rfl,q _ I.fresh⟩
noncomputable def Pn:R2:=fun x y H Q=>∃l k xs,x=.ref l/\y=.int k/\H l=some (.lst xs)/\-(2 ^ 63)<=k/\k<2 ^ 63/\xs.length*k.toNat<=sizeLine /\
 ∀p,H p=none->Q (.ref p) (upd H p (.lst (List.replicate k.toNat xs).flatten))
theorem IC {α:Type}(xs:List α)(k:Nat):(List.replicate k xs).flatten.length=k*xs.length:=by
 induction k with
 | zero=>simp
 | succ k ih=>rw[RK,SE,QS,ih,Nat.succ_mul,U5]
theorem Mc:OpR X (binaryOp .Mult) Pn:=by
 intro pins s σ H x y v u Q I rx ry h;obtain⟨l,k,xs,rfl,rfl,hH,h1,h2,hz,q⟩:=h;cases rx;obtain⟨t,rfl⟩:=ry;obtain⟨z,its,n,r,hl,e⟩:=I.lstM hH;have hlen:its.toArray.size*k.toNat<=sizeLine:=by rw[QR,<-hl];exact hz
 have hcap:¬its.toArray.size*k.toNat > (2 ^ 63-1)/8:=by
  have:(sizeLine:Nat)<=(2 ^ 63-1)/8:=by decide
  omega
 have hfit:¬(!Builtin.List.listFitsIndex k)=true:=by rw[fitsIndex_both h1 h2];exact P5
 have hlong:¬Builtin.List.listTooLong (its.toArray.size*k.toNat)=true:=by rw[FY hlen];exact P5
 have hnew:List.foldl (fun x1 x2=>x1++x2) #[] (List.replicate (if its.toArray.isEmpty=true then 0 else k.toNat) its.toArray)=(List.replicate k.toNat its).flatten.toArray:=by
  have f0:∀m:Nat,List.foldl (fun x1 x2=>x1++x2) #[] (List.replicate m its.toArray)=(List.replicate m its).flatten.toArray:=fun m=>by have:=ua its m [];rw[T4] at this;exact this
  rw[f0];cases its with
  | nil=>simp
  | cons a r'=>rw[QC (by simp)]
 refine wpAny_binaryOp_repeat_ref (T:="list") (U:="int") (by decide) ⟨_,e,rfl⟩ (fun s'=>typeIs_int s' k t) noFill_list_mul F.fills_int_mul F.slot_int_rmul repeat_list F.slot_int_index.lookup
  (call_meets F.slot_int_rmul (typeIs_int s k t) F.entry_int_rmul (F.args_int_rmul_2 _ _) (int___rmul___int_list k t l its.toArray n)
   ⟨e,rfl,⟨_,e,rfl⟩,call_meets F.slot_list_mul ⟨_,e,rfl⟩ F.entry_list_mul (F.args_list_mul_2 _ _) (AutoListH.list___mul___list_int_3 l its.toArray n k t hfit hcap hlong) ⟨e,?_⟩⟩)
 rw[hnew];exact⟨.ref _,_,I.lnew (t':=s.toks) (r.rep k.toNat) (by rw[IC,T_];exact hz),rfl,q _ I.fresh⟩
end
section
variable {prog:Program}{w:World}{A:Around}{E:Value->Shared->Prop}{s:Shared}
set_option maxRecDepth 100000 in
end
section
variable {X:Cx}
end
end L2
namespace Att
open PySem PySem.W PySem.Calls
open PyProof.Rows hiding K st lo ad
theorem pQ:∀(ns:List Int) (vs:List Value),WellAll P h vs (ns.map WData.int)->IntsAre vs ns:=by
 intro ns
 induction ns with
 | nil =>intro vs w;rw[SF] at w;cases w;exact .nil
 | cons n ns ih =>
  intro vs w;rw[QN] at w;cases w with
  | cons a b =>cases a;exact .cons _ _ (ih _ b)
theorem De {l:OpenLaw}(hn:l.most=some n)(hpre:l.row.toRowW.claim.pre args=true)(hwl:WellAll P h vals args) :
  ∃a vs ns,vals=[Value.ref a]/\args=[WData.list (ns.map WData.int)]/\h.get? a=some { cls:=.type "list",data:=.seq vs.toArray }/\IntsAre vs ns/\ns.length<=n:=by
 have hsh:WShape.hasAll [] args [.list .int]=true:=(pre_splitW hpre).1;have hc:l.pre.holds [] { args:=args }=true:=(pre_splitW hpre).2;obtain⟨d,r,rfl,h1,h2⟩:=hasAllW_cons hsh;obtain rfl:=hasAllW_nil h2;obtain⟨xs,rfl,h3⟩:=hasW_list h1;obtain⟨ns,rfl⟩:=items_int h3;have hlen:ns.length<=n:=by
  unfold OpenLaw.pre at hc;have h4:(WTm.not (.lt (.lit (.int (n:Int))) (.len (.arg 0)))).holds [] { args:=[.list (ns.map .int)] }=true:=by have h4:=(holds_andW hc).1;rw[hn] at h4;exact h4
  have h5:=condW_of h4 (w_not (w_lt w_lit (w_len_list (w_arg rfl))));rw[QO] at h5;refine Nat.le_of_not_lt fun q=>?_;have q':(n:Int)<((ns.length:Nat):Int):=by omega
  first
   | (rw[QM q'] at h5;exact absurd h5 (by decide))
   | (simp at h5;omega)
 cases hwl with
 | cons w1 w2 =>
  cases w2;cases w1 with
  | list ho hall=>exact⟨_,_,ns,rfl,rfl,ho,pQ ns _ hall,hlen⟩
theorem Cp (l:OpenLaw)(args:List WData):l.row.toRowW.claim.post args (.bool true) args=true :=
 postW_of (r:=l.row.toRowW) (X:=(true == true))
  (show WShape.has [] (.bool true) .bool=true by first|rfl|decide|simp[WShape.has,WShape.arms,WShape.armsAll])
  (show (WTm.eq .res (.lit (.bool true))).value [] { args:=args,res:=some (.bool true),after:=args }=some (.bool (true == true)) from w_eq_bool (w_res rfl) w_lit) rfl
theorem attach_call {l:OpenLaw}{YP:World->Heap->Prop}{d:DefRec}(hn:l.most=some n)(hdf:d.params.defaults=[])(call:∀(w:World) (s₀ s₁:Shared) (mg mb:Str->Option Value) (fa:Addr) (o:Obj) (pm cd doc:Value) (a:Addr) (vs:List Value) (ns:List Int),
   Ground q loose [] XP w s₀ mg mb s₁.heap->YP w s₁.heap ->
   s₁.heap.get? fa=some o->o.data=.func (docDef d.name d.params d.body d.scope pm cd doc)->s₁.heap.CodeRec cd d.name->mg d.name=some (.ref fa) ->
   s₁.heap.get? a=some { cls:=.type "list",data:=.seq vs.toArray }->IntsAre vs ns->ns.length<=n->s₁.gens=#[] ->
   codeAny (model l.prog w) callerA (.call (.ref fa) ⟨[.ref a],[]⟩) (fun r s'=>r=.ok (.ret (.bool true))/\OldK s₁.heap s'.heap/\s'.os=s₁.os/\AllBare s'.gens) s₁) :
  WalkO q loose XP YP l.row.toRowW d [] (fun f vs=>PySem.call f vs):=by
 intro w s₀ s₁ mg mb G Y fa o pm cd doc dV kV ho hd hcd hD hmg hg args vals as hpre hlay hrd hwl hlo;obtain rfl:dV=.none:=Dflts.none hD hdf;obtain rfl:kV=.none:=Dflts.noKw hD;obtain⟨a,vs,ns,rfl,rfl,hobj,hints,hlen⟩:=De hn hpre hwl;refine enter_call (codeAny_mono (call w s₀ s₁ mg mb fa o pm cd doc a vs ns G Y ho (fd_plain hd) hcd hmg hobj hints hlen hg) fun r s' hq=>?_);obtain⟨rfl,h2,h3,h4⟩:=hq;exact⟨.inl ⟨.bool true,.bool true,[],rfl,fun _=>rfl,.bool true,Cp l _,fun _=>⟨List.Pairwise.nil,fun _ hm=>(nomatch hm)⟩⟩,h2,h3,h4⟩
section
variable {prog:Program}{w:World}{A:Around}{E:Value->Shared->Prop}{s:Shared}{K:Frag}
end
end Att
namespace L2
theorem tJ:∀ {vs:List Value}{ns:List Int},IntsAre vs ns->Vals (ns.map V.int) vs
 | _,_,.nil=>.nil
 | _,_,.cons n t h=>.cons ⟨t,rfl⟩ (tJ h)
end L2
namespace L2
end L2
namespace L2
noncomputable def bC (s:Stmt):Arguments:=match s with
 | .FunctionDef _ a _ _ _ _ _ _ _ _=>a
 | _=>{ posonlyargs:=[],args:=[],vararg:=none,kwonlyargs:=[],kw_defaults:=[],kwarg:=none,defaults:=[] }
noncomputable def af (s:Stmt):List Stmt:=match s with
 | .FunctionDef _ _ b _ _ _ _ _ _ _=>b
 | _=>[]
noncomputable def aa (s:Stmt):Scope:=match s with
 | .FunctionDef _ _ _ _ _ _ sc _ _ _=>sc
 | _=>{ kind:=.function,names:=[],isGenerator:=false,isCoroutine:=false }
noncomputable abbrev CX0:CXT:=fun _ _ _ _ _ _=>False
noncomputable abbrev E0:XK:=fun _ _ _=>False
theorem KZ:qG CX0 X E0:=fun _ _ _ _ _ _ _ h=>h.elim
structure Fun (K:W.Frag)(x qual:Str)(st:Stmt)(f:Addr)(fd:FuncData):Prop where
 ex:∃(oc:Value) (od:Option Addr) (kV doc pm:Value) (an:Option Addr) (cdv ct:Value) (osl:Array (Option Value)),
  fd=W.fnOf x qual (bC st) (af st) (aa st) .none kV doc pm an cdv ct/\K.lookup f=some ⟨oc,od,.func fd,osl⟩/\W.codeIn K cdv qual=true
 kp:W.keepIn K (.ref f)=true
section
variable {P:Program}{w:World}{K:W.Frag}{mg:Str->Option Value}{base:Heap}
theorem Fun.ok (F:Fun K x qual st f fd)(S:ah N ps (aa st))(len:∀vs H Q E,sp vs H Q E->vs.length=ps.length)(hbody:∀(cdv:Value) (A:Around) (outer:List Env) (s:Shared) (H:Hp) (vs:List V) (Q:VK) (E:XK),Room k (A.deeper (envOfC qual (aa st) s.heap.objs.size f cdv))->sp vs H Q E ->
   ∃t,PSs (jk CX0 P w K mg base N qual (aa st) f cdv A outer s H E).nox (af st) t/\t { nx:=fun _ H'=>Q .non H',rt:=Q } (start N vs) H):pB P w K mg base CX0 (k+1) f fd ps sp:=by
 obtain⟨oc,od,kV,doc,pm,an,cdv,ct,osl,rfl,lk,hcd⟩:=F.ex;refine Eb lk hcd S len fun A outer s H vs Q E hr hsp=>?_;obtain⟨t,h,q⟩:=hbody cdv A outer s H vs Q E hr hsp;exact⟨t,h.nox,q⟩
theorem Fun.binds {ps:List Str}(F:Fun K x qual st f fd)(h:∀(kV doc pm:Value) (an:Option Addr) (cdv ct:Value) (us:List Value),us.length=ps.length->bindArgs (W.fnOf x qual (bC st) (af st) (aa st) .none kV doc pm an cdv ct) ⟨us,[]⟩=pure (ps.zip us)):Binds K fd ps []:=by
 obtain⟨oc,od,kV,doc,pm,an,cdv,ct,osl,rfl,lk,hcd⟩:=F.ex;exact .all (h kV doc pm an cdv ct)
theorem Fp {x qual:Str}{st:Stmt}{an:Option Addr}{kV doc pm cdv ct:Value}(l:K.lookup f=some ⟨oc,od,.func (W.fnOf x qual (bC st) (af st) (aa st) .none kV doc pm an cdv ct),osl⟩)(c:W.codeIn K cdv qual=true)(k:W.keepIn K (.ref f)=true):Fun K x qual st f (W.fnOf x qual (bC st) (af st) (aa st) .none kV doc pm an cdv ct):=⟨⟨oc,od,kV,doc,pm,an,cdv,ct,osl,rfl,l,c⟩,k⟩
end
section
variable {X:Cx}
end
theorem OD {A B:Prop}(h:A):if true=true then A else B:=by rw[QA rfl];exact h
def Same (H H':Hp):Prop:=∀b o,H b=some o->H' b=some o
theorem Same.seq (e:Same H H')(h:SqL K H a xs):SqL K H' a xs:=by
 rcases h with (h|⟨o,h⟩)|h
 ·exact .inl (.inl (e _ _ h))
 ·exact .inl (.inr ⟨o,e _ _ h⟩)
 ·exact .inr h
end L2
namespace HX
open L2
section
variable {X:Cx}{a b c:Expr}{ta tb tc:TE}{pos:Pos}
def CBig (j:Int):Prop:=0<j/\j.natAbs.log2<9000
def CMB (i j:Int):Prop:=i.natAbs<2 ^ 20000/\j.natAbs<2 ^ 20000\/(-(2 ^ 64)<i/\i<2 ^ 64)\/(-(2 ^ 64)<j/\j<2 ^ 64)
theorem AM {i:Int}(h:i.natAbs<2 ^ n):Builtin.Int.intBits i<=n:=by
 unfold Builtin.Int.intBits;split
 ·exact Q8 _
 ·rename_i hz;have h0:i.natAbs≠0:=by
   intro z;apply hz;have:i=0:=by omega
   simp[this]
  have:i.natAbs.log2<n:=(UK h0).mpr h;omega
theorem CMB.ok (h:CMB i j):IntMulOk i j:=by
 rcases h with⟨h1,h2⟩|⟨h1,h2⟩|⟨h1,h2⟩
 ·exact IntMulOk.of_le (AM h1) (AM h2) (by decide)
 ·exact .of_left (intBits_le_64 h1 h2)
 ·exact .of_right (intBits_le_64 h1 h2)
theorem CBig.of {j:Int}(h:0<j)(h2:j<2 ^ 8999):CBig j:=by
 refine⟨h,?_⟩;have h0:j.natAbs≠0:=by omega
 have:j.natAbs<2 ^ 8999:=by
  have e:((2:Int) ^ 8999)=((2 ^ 8999:Nat):Int):=by rw[UW];rfl
  rw[e] at h2;generalize (2:Nat) ^ 8999=z at h2 |-
  omega
 have:=(UK h0).mpr this;omega
theorem IH:OpR X (binaryOp .Mult) (rI CMB fun i j=>.int (i*j)):=opI fun _ _ _ _ _ _ _ hc q=>mul_int q hc.ok
theorem Fv:OpR X (binaryOp .FloorDiv) (rI (fun _ j=>CBig j) fun i j=>.int (i/j)):=opI fun i j _ _ _ _ _ hc q=>by refine floordiv_int (by have:=hc.1;omega) ?_ (.inl (S6 hc.2));rw[Int.fdiv_eq_ediv_of_nonneg _ (U6 hc.1)];exact q
theorem uX:fO X (.builtin "divmod") (fun xs H Q=>∃i j,xs=[.int i,.int j]/\CBig j/\∀p,H p=none->Q (.ref p) (upd H p (.tup [.int (i/j),.int (i % j)]))):=by intro pins s σ H xs us Q I r h;obtain⟨i,j,rfl,hc,q⟩:=h;obtain⟨u,v,rfl,⟨t,rfl⟩,⟨t',rfl⟩⟩:=wD r;refine divmod_int (by have:=hc.1;omega) ?_ (.inl (S6 hc.2));rw[Int.fdiv_eq_ediv_of_nonneg _ (U6 hc.1),Int.fmod_eq_emod_of_nonneg _ (U6 hc.1)];have hf:H s.heap.objs.size=none:=I.hok.fresh (P6 _);refine⟨.ref s.heap.objs.size,upd H s.heap.objs.size (.tup [.int (i/j),.int (i % j)]),I.laid (t':=s.toks+1+1) (fun b u e=>P2 _ e) (P6 _) ?_,rfl,q _ hf⟩;exact⟨by show 2<=sizeLine;decide,[_,_],.cons ⟨_,rfl⟩ (.cons ⟨_,rfl⟩ .nil),⟨_,QG _ rfl,rfl,_,rfl⟩⟩
theorem yi (r:RelV x v)(k:Bool):(v == Value.bool k)=decide (x=.bl k):=by
 cases x with
 | non=>cases r;rfl
 | bl b=>cases r;cases b <;> cases k <;> rfl
 | int _=>obtain⟨t,rfl⟩:=r;rfl
 | str _=>obtain⟨t,rfl⟩:=r;rfl
 | byt _=>obtain⟨t,rfl⟩:=r;rfl
 | flt _=>obtain⟨t,rfl⟩:=r;rfl
 | ref _=>cases r;rfl
 | ty _=>cases r;rfl
theorem rp (r:RelV x v)(k:Bool):plainIs v (.bool k)=true:=by
 cases x with
 | non=>cases r;rfl
 | bl b=>cases r;rfl
 | int _=>obtain⟨t,rfl⟩:=r;rfl
 | str _=>obtain⟨t,rfl⟩:=r;rfl
 | byt _=>obtain⟨t,rfl⟩:=r;rfl
 | flt _=>obtain⟨t,rfl⟩:=r;rfl
 | ref _=>cases r;rfl
 | ty _=>cases r;rfl
noncomputable def Pv:R2:=fun x y H Q=>∃k,y=.bl k/\Q (.bl (decide (x=.bl k))) H
noncomputable def Hj:R2:=fun x y H Q=>∃k,y=.bl k/\Q (.bl (!decide (x=.bl k))) H
theorem C2:OpR X (compareOp .IsNot) Hj:=by intro pins s σ H x y v u Q I rx ry h;obtain⟨k,rfl,q⟩:=h;cases ry;exact wpAny_isNot_plain (rp rx k) ⟨.bl _,H,I,by rw[yi rx k];rfl,q⟩
noncomputable def bH (c n:String):Bool:=c == n || (n == "bool" && c == "int")
noncomputable def O5 (n c:String):Option Bool:=if (Value.type n == Value.type c)=true then some true else if W.kitMeta c=true then (fastBuiltinMro n).map (·.contains (.type c)) else none
theorem IJ (K:W.Frag)(n c:String):W.kitOne K (.type n) (.type c)=O5 n c:=rfl
theorem F9:∀c∈["int","bool","str","tuple","list","dict"],∀n∈["NoneType","bool","int","str","list","tuple","dict"],O5 n c=some (bH c n):=by decide +kernel
theorem Dt (K:W.Frag):∀c∈["int","bool","str","tuple","list","dict"],∀n∈["NoneType","bool","int","str","list","tuple","dict"],W.kitOne K (.type n) (.type c)=some (bH c n):=by intro c hc n hn;rw[IJ];exact F9 c hc n hn
end
end HX
namespace HX
open L2
end HX
namespace HX
open L2
noncomputable abbrev D:=PyData
mutual
noncomputable def Den (K:W.Frag)(H:Hp):D->V->Prop
 | .none,v=>v=.non
 | .bool b,v=>v=.bl b
 | .int i,v=>v=.int i
 | .str x,v=>v=.str x
 | .tuple ds,v=>∃a xs,v=.ref a/\SqT K H a xs/\Dens K H ds xs
 | .list ds,v=>∃a xs,v=.ref a/\SqL K H a xs/\Dens K H ds xs
 | .dict _,_=>False
noncomputable def Dens (K:W.Frag)(H:Hp):List D->List V->Prop
 | [],xs=>xs=[]
 | d::ds,xs=>∃x r,xs=x::r/\Den K H d x/\Dens K H ds r
end
section
variable {K:W.Frag}{H H':Hp}{v:V}{xs:List V}
theorem den_int:Den K H (.int i) v↔v=.int i:=by unfold Den;exact U_
theorem den_bl:Den K H (.bool i) v↔v=.bl i:=by unfold Den;exact U_
theorem den_str:Den K H (.str i) v↔v=.str i:=by unfold Den;exact U_
theorem den_non:Den K H .none v↔v=.non:=by unfold Den;exact U_
theorem den_tup {ds:List D}:Den K H (.tuple ds) v↔∃a xs,v=.ref a/\SqT K H a xs/\Dens K H ds xs:=by rw[Den]
theorem den_lst {ds:List D}:Den K H (.list ds) v↔∃a xs,v=.ref a/\SqL K H a xs/\Dens K H ds xs:=by rw[Den]
theorem yL {ds:List (D × D)}:Den K H (.dict ds) v↔False:=by rw[Den]
theorem dens_nil:Dens K H [] xs↔xs=[]:=by unfold Dens;exact U_
theorem oI {d:D}{ds:List D}:Dens K H (d::ds) xs↔∃x r,xs=x::r/\Den K H d x/\Dens K H ds r:=by rw[Dens]
theorem dens_cons' {d:D}{ds:List D}{x:V}:Dens K H (d::ds) (x::xs)↔Den K H d x/\Dens K H ds xs:=by
 rw[oI];constructor
 ·rintro⟨_,_,e,h1,h2⟩;cases e;exact⟨h1,h2⟩
 ·rintro⟨h1,h2⟩;exact⟨_,_,rfl,h1,h2⟩
theorem ES (e:Same H H')(h:SqT K H a xs):SqT K H' a xs:=by
 rcases h with (h|⟨o,h⟩)|h
 ·exact .inl (.inl (e _ _ h))
 ·exact .inl (.inr ⟨o,e _ _ h⟩)
 ·exact .inr h
end
mutual
theorem Den.mono (e:Same H H'):∀ {d:D}{v:V},Den K H d v->Den K H' d v
 | .none,v,h=>by rw[den_non] at h |-;exact h
 | .bool b,v,h=>by rw[den_bl] at h |-;exact h
 | .int b,v,h=>by rw[den_int] at h |-;exact h
 | .str b,v,h=>by rw[den_str] at h |-;exact h
 | .dict b,v,h=>by rw[yL] at h;exact h.elim
 | .tuple ds,v,h=>by
  rw[den_tup] at h |-
  obtain⟨a,xs,h1,h2,h3⟩:=h;exact⟨a,xs,h1,ES e h2,Dens.mono e h3⟩
 | .list ds,v,h=>by
  rw[den_lst] at h |-
  obtain⟨a,xs,h1,h2,h3⟩:=h;exact⟨a,xs,h1,Same.seq e h2,Dens.mono e h3⟩
theorem Dens.mono (e:Same H H'):∀ {ds:List D}{xs:List V},Dens K H ds xs->Dens K H' ds xs
 | [],xs,h=>by rw[dens_nil] at h |-;exact h
 | d::ds,xs,h=>by
  rw[oI] at h |-
  obtain⟨x,r,h1,h2,h3⟩:=h;exact⟨x,r,h1,Den.mono e h2,Dens.mono e h3⟩
end
section
variable {X:Cx}{pins:List (Addr × Obj)}{σ:L2.St}{H:Hp}{s:Shared}
mutual
theorem Den.reads (I:Inv X pins σ H s):∀(d:D) (v:V) (u:Value),Den X.K H d v->RelV v u->∃as,Reads s.heap u d as
 | .none,v,u,h,r=>by rw[den_non] at h;subst h;cases r;exact⟨_,.none⟩
 | .bool b,v,u,h,r=>by rw[den_bl] at h;subst h;cases r;exact⟨_,.bool b⟩
 | .int b,v,u,h,r=>by rw[den_int] at h;subst h;obtain⟨t,rfl⟩:=r;exact⟨_,.int b t⟩
 | .str b,v,u,h,r=>by rw[den_str] at h;subst h;obtain⟨t,rfl⟩:=r;exact⟨_,.str b t⟩
 | .dict b,v,u,h,r=>by rw[yL] at h;exact h.elim
 | .tuple ds,v,u,h,r=>by rw[den_tup] at h;obtain⟨a,xs,rfl,h2,h3⟩:=h;cases r;obtain⟨its,rv,⟨o,ho,hc,n,hd⟩,_⟩:=I.tuple h2;obtain⟨as,hr⟩:=Dens.reads I ds xs its h3 rv;exact⟨as,.tuple ho hc hd (by simpa using hr)⟩
 | .list ds,v,u,h,r=>by rw[den_lst] at h;obtain⟨a,xs,rfl,h2,h3⟩:=h;cases r;obtain⟨its,rv,p,_⟩:=I.list h2;obtain⟨o,ho,hc,n,hd⟩:=p.isList;obtain⟨as,hr⟩:=Dens.reads I ds xs its h3 rv;exact⟨_,.list ho hc hd (by simpa using hr)⟩
theorem Dens.reads (I:Inv X pins σ H s):∀(ds:List D) (xs:List V) (us:List Value),Dens X.K H ds xs->Vals xs us->∃as,ReadsAll s.heap us ds as
 | [],xs,us,h,r=>by rw[dens_nil] at h;subst h;cases r;exact⟨_,.nil⟩
 | d::ds,xs,us,h,r=>by
  rw[oI] at h;obtain⟨x,q,rfl,h2,h3⟩:=h;cases r with
  | cons r1 r2 =>obtain⟨as,h4⟩:=Den.reads I d x _ h2 r1;obtain⟨bs,h5⟩:=Dens.reads I ds q _ h3 r2;exact⟨_,.cons h4 h5⟩
end
end
section
variable {X:Cx}
noncomputable def O9 (K:W.Frag):R2:=fun x y H Q=>∃d e,Den K H d x/\Den K H e y/\SeqAt.shaped d=true/\SeqAt.shaped e=true/\Q (.bl (PyData.eqv d e)) H
noncomputable def Pi (K:W.Frag):R2:=fun x y H Q=>∃d e,Den K H d x/\Den K H e y/\SeqAt.shaped d=true/\SeqAt.shaped e=true/\Q (.bl (!PyData.eqv d e)) H
theorem LA (hu:X.A.units+64<cLine):OpR X (compareOp .Eq) (O9 X.K):=by intro pins s σ H x y v u Q I rx ry h;obtain⟨d,e,h1,h2,h3,h4,q⟩:=h;obtain⟨as,ra⟩:=Den.reads I d x v h1 rx;obtain⟨bs,rb⟩:=Den.reads I e y u h2 ry;exact eq_dataH ra rb h3 h4 hu ⟨.bl _,H,I,rfl,q⟩
theorem LO (hu:X.A.units+64<cLine):OpR X (compareOp .NotEq) (Pi X.K):=by intro pins s σ H x y v u Q I rx ry h;obtain⟨d,e,h1,h2,h3,h4,q⟩:=h;obtain⟨as,ra⟩:=Den.reads I d x v h1 rx;obtain⟨bs,rb⟩:=Den.reads I e y u h2 ry;exact ne_dataH ra rb h3 h4 hu ⟨.bl _,H,I,rfl,q⟩
structure Has (P:Program)(w:World)(K:W.Frag)(mg:Str->Option Value)(base:Heap)(k:Nat)(x:Str)(ps:List Str)(sp:Sp):Prop where
 ex:∃(f:Addr) (fd:FuncData),pB P w K mg base CX0 k f fd ps sp/\mg x=some (.ref f)/\W.keepIn K (.ref f)=true/\Binds K fd ps []
structure At (K:W.Frag)(mg:Str->Option Value)(x:Str)(st:Stmt)(ps:List Str):Prop where
 ex:∃(f:Addr) (fd:FuncData),Fun K x x st f fd/\mg x=some (.ref f)/\Binds K fd ps []
theorem At.mk' {K:W.Frag}{ps:List Str}{an:Option Addr}{kV doc pm cdv ct:Value}(X:K.In h)(G:h.Ns mainGlobals mg)(hb:∀(kV doc pm:Value) (an:Option Addr) (cdv ct:Value) (us:List Value),us.length=ps.length->bindArgs (W.fnOf x x (bC st) (af st) (aa st) .none kV doc pm an cdv ct) ⟨us,[]⟩=pure (ps.zip us))(a:W.nsIn K mainGlobals x=some (some (.ref f)))(l:K.lookup f=some ⟨oc,od,.func (W.fnOf x x (bC st) (af st) (aa st) .none kV doc pm an cdv ct),osl⟩)(c:W.codeIn K cdv x=true)(k:W.keepIn K (.ref f)=true):At K mg x st ps:=by
 have F:=Fp (st:=st) l c k;exact⟨f,_,F,T2 X G a,F.binds hb⟩
theorem At.ok (F:At K mg x st ps)(S:ah N ps (aa st))(len:∀vs H Q E,sp vs H Q E->vs.length=ps.length)(hbody:∀(f:Addr) (cdv:Value) (A:Around) (outer:List Env) (s:Shared) (H:Hp) (vs:List V) (Q:VK) (E:XK),Room k (A.deeper (envOfC x (aa st) s.heap.objs.size f cdv))->sp vs H Q E ->
   ∃t,PSs (jk CX0 P w K mg base N x (aa st) f cdv A outer s H E).nox (af st) t/\t { nx:=fun _ H'=>Q .non H',rt:=Q } (start N vs) H):Has P w K mg base (k+1) x ps sp:=by
 obtain⟨f,fd,Ff,m,b⟩:=F.ex;exact⟨f,fd,Ff.ok S len (fun cdv A outer s H vs Q E hr h=>hbody f cdv A outer s H vs Q E hr h),m,Ff.kp,b⟩
theorem LU {k:Nat}{x:Str}{ps:List Str}{sp:Sp}{p pos:Pos}{e:Expr}{es:List Expr}{t:TA}(F:Has X.prog X.w X.K X.mg X.base k x ps sp)(hr:Room k X.A)(ha:PA X (e::es) t)
  (hg:Gl X x:=by rfl) (hdb:(x == ("__debug__":Str))=false:=by decide) (he:starEach (e::es) X.env=(false,eval e X.env)::starEach es X.env:=by rfl) (hpl:(backTo pos (starEach es X.env)).any (·.1)=false:=by rfl) :
  PE X (.Call (.Name x p) (e::es) [] pos) (mJ sp [] E0 t):=by
 obtain⟨f,fd,F,m,kp,b⟩:=F.ex;exact BW F hr hg m kp b .nil KZ ha hdb he hpl
theorem Ig {k:Nat}{x:Str}{ps:List Str}{sp:Sp}{p pos:Pos}(F:Has X.prog X.w X.K X.mg X.base k x ps sp)(hr:Room k X.A)
  (hg:Gl X x:=by rfl) (hdb:(x == ("__debug__":Str))=false:=by decide) :
  PE X (.Call (.Name x p) [] [] pos) (mJ sp [] E0 om):=by
 obtain⟨f,fd,F,m,kp,b⟩:=F.ex;exact Fe F hr hg m kp b .nil KZ hdb
end
end HX
namespace HX
open L2
noncomputable def aj:Expr->Bool
 | .Starred ..=>false
 | _=>true
theorem av {es:List Expr}(h:aj e=true):starEach (e::es) env=(false,eval e env)::starEach es env:=by cases e <;> first|rfl|cases h
theorem xV:∀ {es:List Expr},es.all aj=true->(starEach es env).any (·.1)=false
 | [],_=>rfl
 | e::es,h=>by rw[RN,QB] at h;rw[av h.1,RG,xV h.2];rfl
noncomputable def nj:Expr->Bool
 | .Slice ..=>false
 | _=>true
theorem M8 (h:nj b=true):Bg b:=fun o i=>by cases b <;> first|rfl|cases h
section
variable {X:Cx}
theorem pac (ha:PE X e te)(hr:PA X es t)(h:aj e=true:=by rfl):PA X (e::es) (fj te t):=Ha ha hr (av h)
theorem GI (hr:IxR X r)(ha:PE X a ta)(hb:PE X b tb)(hs:nj b=true:=by rfl):PE X (.Subscript a b pos) (tOp r ta tb):=Ot hr ha hb (M8 hs)
theorem iS {es:List Expr}(h:es.all aj=true):(backTo pos (starEach es env)).any (·.1)=false:=by have:=xV (env:=env) h;unfold backTo;rw[List.any_map];exact this
theorem HC {k:Nat}{x:Str}{ps:List Str}{sp:Sp}{p pos:Pos}{e:Expr}{es:List Expr}{t:TA}(F:Has X.prog X.w X.K X.mg X.base k x ps sp)(hr:Room k X.A)(ha:PA X (e::es) t)
  (hg:Gl X x:=by rfl) (hdb:(x == ("__debug__":Str))=false:=by decide) (he:aj e=true:=by rfl) (hpl:es.all aj=true:=by rfl) :
  PE X (.Call (.Name x p) (e::es) [] pos) (mJ sp [] E0 t):=LU F hr ha hg hdb (av he) (iS hpl)
theorem uj {id:String}{r:List V->Hp->VK->Prop}{x:Str}{p pos:Pos}{e:Expr}{es:List Expr}{t:TA}(hc:fO X (.builtin id) r)(hg:Gl X x)(hm:X.mg x=none)(hv:bootBuiltins x=some (.builtin id))(ha:PA X (e::es) t)(hn:x≠"__name__":=by decide)(hdb:(x == ("__debug__":Str))=false:=by decide)
  (he:aj e=true:=by rfl) (hpl:es.all aj=true:=by rfl):PE X (.Call (.Name x p) (e::es) [] pos) (tCB r t):=EA hc hg hm hv ha hn hdb (av he) (iS hpl)
theorem rF {T:String}{r:List V->Hp->VK->Prop}{x:Str}{p pos:Pos}{e:Expr}{es:List Expr}{t:TA}(hc:fO X (.type T) r)(hg:Gl X x)(hm:X.mg x=none)(hv:bootBuiltins x=some (.type T))(ha:PA X (e::es) t)(hn:x≠"__name__":=by decide)(hdb:(x == ("__debug__":Str))=false:=by decide)
  (he:aj e=true:=by rfl) (hpl:es.all aj=true:=by rfl):PE X (.Call (.Name x p) (e::es) [] pos) (tCB r t):=B4 hc hg hm hv ha hn hdb (av he) (iS hpl)
end
end HX
namespace L2
section
variable {κ:Type} [DecidableEq κ]
end
section
variable {P:Program}{w:World}{H:Hp}{h:Heap}{a:Addr}
end
section
variable {X:Cx}{pins:List (Addr × Obj)}{σ:St}{H:Hp}{s:Shared}{a:Addr}{y v:V}{u r:Value}{o:Option V}{A:Around}{E:Value->Shared->Prop}
end
section
variable {X:Cx}{pins:List (Addr × Obj)}{σ:St}{H:Hp}{s:Shared}{a:Addr}{kvs:List (Key × V)}{k:Key}{u:Value}{A:Around}{E:Value->Shared->Prop}
end
section
variable {X:Cx}{pins:List (Addr × Obj)}{σ:St}{H:Hp}{s:Shared}{a:Addr}{kvs:List (Key × V)}{A:Around}{E:Value->Shared->Prop}
end
section
variable {X:Cx}{pins:List (Addr × Obj)}{σ:St}{H:Hp}{s:Shared}{a:Addr}{y d:V}{u r:Value}{o:Option V}{A:Around}{E:Value->Shared->Prop}
end
end L2
namespace FW
open L2
def PP (xs:Array Nat):Prop:=∀i j,i<j->j<xs.size->xs.getD i 0<xs.getD j 0
structure Nm (b:Bool)(t:SetTable):Prop where
 ris:PP t.place
 led:t.led=b
noncomputable def toI:Value->Int
 | .int n _=>n
 | _=>0
section
variable {prog:Program}{w:World}{A:Around}{E:Value->Shared->Prop}{s:Shared}
def EI (prog:Program)(w:World)(e:Int × Value):Prop:=∃(k:Int) (t:Tok),e=((intKind prog w).hash k,.int k t)
structure PD (prog:Program)(w:World)(b:Bool)(es:Array (Int × Value))(t:SetTable)(zs:List Int):Prop where
 el:∀e∈es.toList,EI prog w e
 nd:(es.toList.map fun e=>toI e.2).Nodup
 mem:∀i,i∈(es.toList.map fun e=>toI e.2)↔i∈zs
 ln:es.size<=zs.length
 fit:t.fits es.size=true
 ok:Nm b t
noncomputable abbrev OU (es:Array (Int × Value))(ep:Nat)(t:SetTable):Obj:={ cls:=.type "set",dict:=none,data:=.set es ep t }
def PM (prog:Program)(w:World)(b:Bool)(h:Heap)(a:Addr)(zs:List Int):Prop:=∃es ep t,h.get? a=some (OU es ep t)/\PD prog w b es t zs
end
end FW
namespace FW
noncomputable abbrev byT (w:World):Bool:=w.params.followText "set-order"
section
variable {prog:Program}{w:World}{A:Around}{E:Value->Shared->Prop}{s:Shared}
end
end FW
namespace FW
section
variable {prog:Program}{w:World}{A:Around}{E:Value->Shared->Prop}{s:Shared}
set_option maxHeartbeats 3200000 in
end
end FW
namespace L2
section
variable {X:Cx}
end
end L2
namespace L2
structure Ol (h:Heap)(f:Addr)(qual:Str)(params:Arguments)(body:Expr)(scope:Scope)(cl:List (Str × Addr)):Prop where
 ex:∃pm c' ctv,h.get? f=some (W.kla_obj "<lambda>" qual params body scope cl pm c' ctv)/\h.CodeRec (.ref c') qual
structure sj (x:Str)(scope:Scope)(cl:List (Str × Addr)):Prop where
 kind:scope.kind=.function
 co:scope.isCoroutine=false
 gen:scope.isGenerator=false
 nocell:∀y∈scope.names,y.2≠.cell
 par:scope.names.lookup x=some .local
 free:∀y,scope.names.lookup y=some .free->∃c,cl.lookup y=some c
 inj:∀y z c,cl.lookup y=some c->cl.lookup z=some c->y=z
noncomputable def cxL (CX:CXT)(P:Program)(w:World)(K:W.Frag)(mg:Str->Option Value)(base:Heap)(N:List Str)(qual:Str)(scope:Scope)(f:Addr)(cd:Value)(cl:List (Str × Addr))(A:Around)(outer:List Env)(s:Shared)(H:Hp)(E:XK):Cx where
 prog:=P
 w:=w
 K:=K
 mg:=mg
 base:=base
 A:=A.deeper (W.envX qual scope s.heap.objs.size f cd cl)
 N:=N
 s₀:=s
 H₀:=H
 env:=W.envX qual scope s.heap.objs.size f cd cl
 outer:=outer
 stack:=W.envX qual scope s.heap.objs.size f cd cl::outer
 ex:=[]
 calm:=true
 fn:=fun _=>false
 pn:=[]
 xe:=fun e s'=>wpAny (model P w) (A.deeper (W.envX qual scope s.heap.objs.size f cd cl)) (leaving (W.envX qual scope s.heap.objs.size f cd cl) e) (fun _ s''=>CX outer H s E e s'') (fun e' s''=>CX outer H s E e' s'') s'
theorem Ik {A:Around}{E:XK}{σ:St}{h1:Heap}{tk:Nat}(S:sj x scope cl)(hd:A.handled=none)(e0:vU P w K mg base A outer s H)(rv:RelV v u)(hc:∀y c,cl.lookup y=some c->(∃z,s.heap.IsCell c z)/\H c=none)(hσ:∀(i:Nat) (y:Str) (z:V),N[i]?=some y->σ[i]?=some (some z)->(y=x/\z=v)\/(scope.names.lookup y=some .free/\∃c q,cl.lookup y=some c/\s.heap.IsCell c (some q)/\RelV z q))(hl:σ.length=N.length)(hns:h1.Ns s.heap.objs.size (fun y=>[(x,u)].reverse.lookup y))(hk:∀b o,s.heap.get? b=some o->h1.get? b=some o) :
  Inv (cxL CX P w K mg base N qual scope f cd cl A outer s H E) [] σ H { s with heap:=h1,toks:=tk }:=by
 have noA:∀b:Addr,b ∉ (cxL CX P w K mg base N qual scope f cd cl A outer s H E).ex:=fun b z=>absurd (show b∈([]:List Addr) from z) (by simp);have ck:∀c z,s.heap.IsCell c z->h1.IsCell c z:=fun c z ⟨o,e,d⟩=>⟨o,hk _ _ e,d⟩;refine⟨⟨e0.mod,S.kind,rfl,rfl,P6 _,fun y z c h1 h2=>S.inj y z c h1 h2,fun y hy=>?_,fun y c h=>Bool.noConfusion (show false=true from h),fun _=>hd,Around.frames_deeper e0.frames,.inr ⟨rfl,rfl⟩,fun b z=>absurd z (noA b),e0.bs,e0.bsz,fun b _ _=>noA b,fun b z=>absurd z (noA b),e0.funs,e0.frf⟩,
  rfl,e0.bare,Un.kept hk,⟨_,hns,fun i y z h1 h2 h3=>?_⟩,fun y c h=>?_,e0.hok.fresh (P6 _),fun y c h=>(hc y c h).2,fun p hp=>absurd (show p∈([]:List (Addr × Obj)) from hp) (by simp),e0.hok.kept hk,hl⟩
 ·have hy:scope.names.lookup y=some .cell\/scope.names.lookup y=some .free:=hy;rcases hy with hy|hy
  ·exact absurd rfl (S.nocell _ (Q4 hy))
  ·exact S.free y hy
 ·rcases hσ i y z h1 h2 with⟨rfl,rfl⟩|⟨hf,c,q,e1,e2,e3⟩
  ·exact⟨u,rv,.inl ⟨S.par,by simp[List.lookup]⟩⟩
  ·exact⟨q,e3,.inr ⟨.inr hf,c,e1,ck _ _ e2⟩⟩
 ·obtain⟨⟨z,q⟩,_⟩:=hc y c h;exact⟨z,ck _ _ q⟩
theorem GO {k:Nat}{s:Shared}{E:XK}{σ:St}(F:Ol s.heap f qual params body scope cl)(S:sj x scope cl)(hr:Room (k+1) A)(e0:vU P w K mg base A outer s H)(rv:RelV v u)(hb:∀pm c' ctv (u:Value),bindArgs (W.kla_fn "<lambda>" qual params body scope cl pm (.ref c') ctv) ⟨[u],[]⟩=pure [(x,u)])(hc:∀y c,cl.lookup y=some c->(∃z,s.heap.IsCell c z)/\H c=none)(hσ:∀(i:Nat) (y:Str) (z:V),N[i]?=some y->σ[i]?=some (some z)->(y=x/\z=v)\/(scope.names.lookup y=some .free/\∃c q,cl.lookup y=some c/\s.heap.IsCell c (some q)/\RelV z q))(hl:σ.length=N.length)(hbody:∀c',Room k (A.deeper (W.envX qual scope s.heap.objs.size f (.ref c') cl))->∃t,PE (cxL CX0 P w K mg base N qual scope f (.ref c') cl A outer s H E).nox body t/\t σ H Q) :
  codeAny (model P w) A (.call (.ref f) ⟨[u],[]⟩) (CR CX0 outer P w H s Q E) s:=by
 obtain⟨pm,c',ctv,ho,hcd⟩:=F.ex;have lim:s.heap.NoLimit:=e0.mod.nolimit.keeps fun b o e=>(e0.bs b o e).1;refine W.kla_callFunE hr.depth ho rfl S.co S.gen rfl hcd ?_;rw[hb];refine QE (wpAny_newFunctionEnv S.nocell (fun y hy=>?_) (fun h1 hns hsb=>?_) S.kind)
 ·rw[QI] at hy;subst hy;exact S.par
 have hk1:∀b o,s.heap.get? b=some o->h1.get? b=some o:=fun b o e=>hsb.extBut b o (QU (QF e)) (P2 _ e);refine⟨lim.keeps hk1,?_⟩;show codeAny _ _ (.expr body (W.envX qual scope s.heap.objs.size f (.ref c') cl)) _ _;obtain⟨t,ht,hq⟩:=hbody c' (hr.deeper _);have I:=Ik (CX:=CX0) (E:=E) (f:=f) (cd:=.ref c') (qual:=qual) (tk:=s.toks+1) S hr.hd e0 rv hc hσ hl hns hk1;refine W.kla_codeExpr (wpAny_mono (ht.nox [] _ σ H Q I hq) (fun v' s' ⟨v,H',J,rv,q⟩=>?_) fun e s' hs=>hs);exact⟨v,H',J.os,J.bare,J.base,J.hok,rv,q⟩
end L2
namespace L2
noncomputable abbrev GZ (ps:Array Value)(pos:Pos)(c':Addr):Array Value:=ps++#[rawInt pos.line,rawInt pos.col,.ref c']
noncomputable abbrev pw (H:Hp)(T:Addr)(ps:Array Value)(pos:Pos)(c':Addr)(oc:Obj):Hp:=upd (upd H T (.tbl (GZ ps pos c'))) c' (.frz oc (.own 0))
def q9 (oc:Obj)(q:Str):Prop:=∃vs t,oc.data=.fields vs/\vs[1]?=some (.str q t)
theorem EH {σ:St}{Q:Value->Shared->Prop}(I:Inv X pins σ H s)(hcd:X.env.code=.ref c)(C:W.CodeHd s.heap c T)(hT:H T=some (.tbl ps))(ht:TriplesOk ps.toList)(hcodes:∀cv,codeAmong pos ps.toList=some cv->∃c' oc,cv=.ref c'/\H c'=some (.frz oc (.own 0))/\q9 oc (X.env.qual++"<lambda>"))(hbm:s.heap.BuiltinsAt X.mg T)(hcl:closureFor scope X.env=pure clos)(hdef:defaultsOf params X.env=([],[]))(h:∀f H' s' pm c' ctv oc,Inv X pins σ H' s'->s'.heap.get? f=some (W.kla_obj "<lambda>" (X.env.qual++"<lambda>") params body scope clos pm c' ctv)->H' c'=some (.frz oc (.own 0))->q9 oc (X.env.qual++"<lambda>")->H' f=none->s.heap.objs.size<=f ->
   (H'=H\/(H c'=none/\c'≠T/\codeAmong pos ps.toList=none/\H'=pw H T ps pos c' oc))->Q (.ref f) s') :
  wpAny (model X.prog X.w) X.A (eval (.Lambda params body scope pos) X.env) Q X.xe s:=by
 have hP:s.heap.get? T=some (W.tabObj ps):=I.hok T _ hT;have hg:s.heap.Ns mainGlobals X.mg:=I.mod.glob.keeps I.bk;refine W.kla_eval hdef ?_;cases hf:codeAmong pos ps.toList with
 | some cv =>obtain⟨c',oc,rfl,hoc,hob⟩:=hcodes cv hf;refine W.kla_makeFunctionHit (mg:=X.mg) hcl I.ok.glob hg hcd C hP ht hf hbm fun ctv h' tk hk hsz=>?_;have hk2:∀(ob:Obj) b o,s.heap.get? b=some o->(h'.push ob).get? b=some o:=fun ob b o e=>P2 _ (hk b o e);exact h h'.objs.size H _ _ c' ctv oc (I.un (Un.kept (hk2 _)) (I.hok.kept (hk2 _))) (QG _ rfl) hoc hob (I.hok.fresh hsz) hsz (.inl rfl)
 | none =>
  have hgP:mainGlobals≠T:=fun z=>by have:=(I.bs _ _ (show X.base.get? mainGlobals=some _ from I.mod.glob.choose_spec.choose_spec.choose_spec.1)).2;rw[z,hT] at this;cases this
  refine W.kla_makeFunction (mg:=X.mg) hcl I.ok.glob hg hcd C hP ht hf hgP hbm fun c' ctv h' tk hx hge hlt hrec htb=>?_;obtain⟨c2,oc,vs,tq,e2,hoc,hdc,hq⟩:=hrec;cases e2;have hn:H c'=none:=I.hok.fresh hge;have nT:∀b,H b=none->b≠T:=fun b n z=>by rw[z,hT] at n;cases n
  have cT:c'≠T:=nT c' hn;have oT:∀b o,H b=some o->(∀qs,o≠.tbl qs)->b≠T:=fun b o e n z=>by rw[z,hT] at e;cases e;exact n _ rfl
  have oC:∀b o,H b=some o->b≠c':=fun b o e z=>by rw[z,hn] at e;cases e
  have hk2:∀(ob:Obj) b o,b≠T->s.heap.get? b=some o->(h'.push ob).get? b=some o:=fun ob b o hb e=>P2 _ (hx b o hb e);have same:∀b,b≠T->b≠c'->pw H T ps pos c' oc b=H b:=fun b h1 h2=>(ak h2).trans (ak h1);have hTb:∀ob:Obj,(h'.push ob).get? T=some (W.tabObj (GZ ps pos c')):=fun ob=>P2 _ htb;have atT:pw H T ps pos c' oc T=some (.tbl (GZ ps pos c')):=(ak cT.symm).trans (QA rfl);have lt:∀b o,s.heap.get? b=some o->b≠c':=fun b o e=>QU (P7 (QF e) hge);have un:∀ob:Obj,Un X.fs [] H (pw H T ps pos c' oc) s.heap (h'.push ob):=fun ob =>
   ⟨fun b o e n _ _=>hk2 ob b o (nT b n) e,fun b o e n _ _=>⟨o.slots,hk2 ob b o (nT b n) e⟩,fun b o e n _=>by rw[same b (nT b n) (lt b o e)];exact n,
    fun b o e _=>by
     by_cases hb:b=T
     ·rw[hb];exact⟨_,hTb ob⟩
     ·exact⟨o,hk2 ob b o hb e⟩,
    fun b xs e=>by rw[same b (oT b _ e fun _ z=>nomatch z) (oC b _ e)];exact e,
    fun b o u e=>by rw[same b (oT b _ e fun _ z=>nomatch z) (oC b _ e)];exact e,
    fun b qs e=>by
     by_cases hb:b=T
     ·subst hb;rw[hT] at e;cases e;exact⟨_,atT⟩
     ·exact⟨#[],by rw[same b hb (oC b _ e),e];simp⟩⟩
  have recP:∀ob:Obj,(h'.push ob).get? c'=some oc:=fun ob=>P2 _ hoc;have hok:∀ob:Obj,HOk X.prog X.w (pw H T ps pos c' oc) (h'.push ob):=fun ob a o e=>by
   by_cases ha:a=c'
   ·subst ha;have e':some (HO.frz oc (.own 0))=some o:=by rw[<-e];exact(QA rfl).symm
    cases e';exact⟨recP ob,oc,recP ob⟩
   ·by_cases hb:a=T
    ·subst hb;rw[atT] at e;cases e;exact hTb ob
    ·rw[same a hb ha] at e;refine(I.hok a o e).stay (fun b u hq q=>hk2 ob b u ?_ q) (fun b q=>?_) fun b xs q=>?_
     ·rcases hq with rfl|hq
      ·exact hb
      ·exact oT b _ hq fun _ z=>nomatch z
     ·rw[same b (oT b _ q fun _ z=>nomatch z) (oC b _ q)];exact q
     ·rw[same b (oT b _ q fun _ z=>nomatch z) (oC b _ q)];exact q
  have hfr:pw H T ps pos c' oc h'.objs.size=none:=by have hlT:T<h'.objs.size:=QF htb;rw[same _ (TN hlT) (TN hlt)];exact I.hok.fresh (QP hge (Q_ hlt))
  exact h h'.objs.size (pw H T ps pos c' oc) _ _ c' ctv oc (I.un (un _) (hok _)) (QG _ rfl) (QA rfl) ⟨vs,tq,hdc,hq⟩ hfr (QP hge (Q_ hlt)) (.inr ⟨hn,cT,hf,rfl⟩)
end L2
namespace FW
open PySem L2 HX
set_option genInjectivity true
set_option genCtorIdx true
inductive PV where
 | non|bl (b:Bool)|int (i:Int)|str (x:Str)|tup (xs:List PV)|ref (n:Nat)|rdl (xs:List PV)|fn (a:Nat)
 deriving Inhabited
inductive Cell where
 | lst (xs:List PV)
 | dk (kvs:List (Key × PV))
 | fz (kvs:List (Key × PV))
noncomputable abbrev AH:=List Cell
noncomputable abbrev Fr:=List (Option PV)
noncomputable abbrev EK:=PV->AH->Prop
noncomputable abbrev LK:=List PV->AH->Prop
noncomputable abbrev BK:=Bool->AH->Prop
noncomputable abbrev FSp:=List PV->AH->EK->Prop
mutual
noncomputable def PV.bel (k:Nat):PV->Bool
 | .ref n=>decide (n<k)
 | .tup xs=>PV.bels k xs
 | .rdl xs=>PV.bels k xs
 | .non=>true
 | .bl _=>true
 | .int _=>true
 | .str _=>true
 | .fn _=>false
noncomputable def PV.bels (k:Nat):List PV->Bool
 | []=>true
 | x::xs=>x.bel k && PV.bels k xs
end
mutual
noncomputable def PV.bec (k:Nat):PV->Bool
 | .ref n=>decide (n<k)
 | .tup xs=>PV.becs k xs
 | .rdl xs=>PV.becs k xs
 | .non=>true
 | .bl _=>true
 | .int _=>true
 | .str _=>true
 | .fn _=>true
noncomputable def PV.becs (k:Nat):List PV->Bool
 | []=>true
 | x::xs=>x.bec k && PV.becs k xs
end
mutual
theorem PV.bel_bec {i j:Nat}(h:i<=j):∀ {v:PV},v.bel i=true->v.bec j=true
 | .non,_=>by rw[PV.bec]
 | .bl _,_=>by rw[PV.bec]
 | .int _,_=>by rw[PV.bec]
 | .str _,_=>by rw[PV.bec]
 | .ref n,z=>by rw[PV.bel] at z;rw[PV.bec];have:=RB z;exact QM (by omega)
 | .tup xs,z=>by rw[PV.bel] at z;rw[PV.bec];exact PV.bels_becs h z
 | .rdl xs,z=>by rw[PV.bel] at z;rw[PV.bec];exact PV.bels_becs h z
 | .fn _,z=>by rw[PV.bel] at z;cases z
theorem PV.bels_becs {i j:Nat}(h:i<=j):∀ {vs:List PV},PV.bels i vs=true->PV.becs j vs=true
 | [],_=>by rw[PV.becs]
 | v::vs,z=>by rw[PV.bels,QB] at z;rw[PV.becs,QB];exact⟨PV.bel_bec h z.1,PV.bels_becs h z.2⟩
end
noncomputable def Cell.bec (k:Nat):Cell->Bool
 | .lst xs=>PV.becs k xs
 | .dk kvs=>PV.becs k (kvs.map (·.2))
 | .fz kvs=>PV.becs k (kvs.map (·.2))
noncomputable def Cell.bel (k:Nat):Cell->Bool
 | .lst xs=>PV.bels k xs
 | .dk kvs=>PV.bels k (kvs.map (·.2))
 | .fz _=>false
mutual
noncomputable def PV.toD:PV->Option PyData
 | .non=>some .none
 | .bl b=>some (.bool b)
 | .int i=>some (.int i)
 | .str x=>some (.str x)
 | .tup xs=>(PV.toDs xs).map .tuple
 | .rdl xs=>(PV.toDs xs).map .list
 | .ref _=>none
 | .fn _=>none
noncomputable def PV.toDs:List PV->Option (List PyData)
 | []=>some []
 | x::xs=>match x.toD,PV.toDs xs with
  | some d,some ds=>some (d::ds)
  | _,_=>none
end
noncomputable def sh (st:AH):PV->Option PyData
 | .ref n=>match st[n]? with
  | some (.lst xs)=>(PV.toDs xs).map .list
  | _=>none
 | v=>v.toD
def eqW (st:AH)(x y:PV)(k:Bool->Prop):Prop :=
 match x,y with
 | .int i,.int j=>k (decide (i=j))
 | .bl a,.bl b=>k (decide (a=b))
 | .str a,.str b=>k (decide (a=b))
 | x,y=>∃d e,sh st x=some d/\sh st y=some e/\SeqAt.shaped d=true/\SeqAt.shaped e=true/\k (PyData.eqv d e)
noncomputable def bW (st:AH):PV->Option String
 | .non=>some "NoneType"
 | .bl _=>some "bool"
 | .int _=>some "int"
 | .str _=>some "str"
 | .tup _=>some "tuple"
 | .rdl _=>some "list"
 | .ref n=>match st[n]? with
  | some (.lst _)=>some "list"
  | some (.dk _)=>some "dict"
  | some (.fz _)=>some "dict"
  | none=>none
 | .fn _=>none
noncomputable def bG (st:AH):PV->Option (List PV)
 | .rdl xs=>some xs
 | .ref n=>match st[n]? with
  | some (.lst xs)=>some xs
  | _=>none
 | _=>none
noncomputable def bN (st:AH):PV->Option (List PV)
 | .tup xs=>some xs
 | v=>bG st v
noncomputable def hZ:PV->Bool
 | .non=>true
 | _=>false
noncomputable def Dn:PV->Bool
 | .non=>true
 | .int _=>true
 | _=>false
noncomputable def pE (k:Bool):PV->Bool
 | .bl b=>b == k
 | _=>false
noncomputable def kM (xs:List PV)(lo hi:Option Int):List PV:=(xs.drop (HT.sIx xs.length 0 lo)).take (HT.sIx xs.length xs.length hi-HT.sIx xs.length 0 lo)
noncomputable def b2z (b:Bool):Int:=if b then 1 else 0
def iiW (f:Int->Int->Prop)(x y:PV):Prop :=
 match x with
 | .int i=>match y with
  | .int j=>f i j
  | _=>False
 | _=>False
def PC (x y:PV)(st:AH)(Q:EK):Prop :=
 match x with
 | .int i=>match y with
  | .int j=>Q (.int (i+j)) st
  | _=>False
 | .ref n=>match y with
  | .ref k=>∃xs ys,st[n]?=some (.lst xs)/\st[k]?=some (.lst ys)/\xs.length+ys.length<=100000/\Q (.ref st.length) (st++[.lst (xs++ys)])
  | _=>False
 | .tup xs=>match y with
  | .tup ys=>xs.length+ys.length<=100000/\Q (.tup (xs++ys)) st
  | _=>False
 | .str a=>match y with
  | .str b=>a.length+b.length<=100000/\Q (.str (a++b)) st
  | _=>False
 | _=>False
noncomputable def Cb (z:Str)(n:Nat):Str:=⟨(List.replicate n z.cps).foldl (·++ ·) #[]⟩
def Pf (x y:PV)(st:AH)(Q:EK):Prop :=
 match x with
 | .str z=>match y with
  | .int k=>2<=k/\k<2 ^ 30/\0<z.length/\z.length*k.toNat<=100000/\Q (.str (Cb z k.toNat)) st
  | _=>False
 | .int i=>match y with
  | .int j=>CMB i j/\Q (.int (i*j)) st
  | _=>False
 | .ref n=>match y with
  | .int k=>∃xs,st[n]?=some (.lst xs)/\-(2 ^ 63)<=k/\k<2 ^ 63/\xs.length*k.toNat<=100000/\Q (.ref st.length) (st++[.lst (List.replicate k.toNat xs).flatten])
  | _=>False
 | _=>False
def kT (op:Operator)(x y:PV)(st:AH)(Q:EK):Prop :=
 match op with
 | .Add=>PC x y st Q
 | .Sub=>iiW (fun i j=>Q (.int (i-j)) st) x y
 | .Mult=>Pf x y st Q
 | .FloorDiv=>iiW (fun i j=>CBig j/\Q (.int (i/j)) st) x y
 | .Mod=>iiW (fun i j=>0<j/\Q (.int (i % j)) st) x y
 | .Pow=>iiW (fun i j=>yZ i j/\Q (.int (i ^ j.toNat)) st) x y
 | _=>False
noncomputable def Pw (kvs:List (Key × PV))(k:Key)(v:PV):List (Key × PV) :=
 if (kvs.any fun kv=>decide (kv.1=k))=true then kvs.map (fun kv=>if kv.1=k then (kv.1,v) else kv) else kvs++[(k,v)]
inductive DW where
 | keys|items|values
 deriving DecidableEq
noncomputable def KP (ps:List (Str × PV)):List (Key × PV):=ps.foldl (fun d p=>Pw d (.inr p.1) p.2) []
def inR (a:Str)(n:Nat)(st:AH)(k:Bool->Prop):Prop:=False
def eD (op:CmpOp)(x y:PV)(st:AH)(Q:EK):Prop :=
 match op with
 | .Eq=>eqW st x y fun k=>Q (.bl k) st
 | .NotEq=>eqW st x y fun k=>Q (.bl (!k)) st
 | .IsNot=>match y with
  | .bl k=>Q (.bl (!pE k x)) st
  | _=>False
 | .Lt=>match x,y with
  | .int i,.int j=>Q (.bl (decide (i<j))) st
  | _,_=>False
 | .Gt=>match x,y with
  | .int i,.int j=>Q (.bl (decide (j<i))) st
  | _,_=>False
 | .GtE=>match x,y with
  | .int i,.int j=>Q (.bl (decide (j<=i))) st
  | _,_=>False
 | .In=>match x,y with
  | .str a,.str b=>Q (.bl (!(Builtin.Str.occurrences b a 0 b.length 1).isEmpty)) st
  | _,_=>False
 | _=>False
def zU (o:Option (Option PV))(f:PV->Prop):Prop :=
 match o with
 | some (some v)=>f v
 | _=>False
theorem m_ (h:zU o f):∃v,o=some (some v)/\f v:=by
 cases o with
 | none=>exact False.elim h
 | some o=>cases o with|none=>exact False.elim h|some v=>exact⟨v,rfl,h⟩
theorem wa {o:Option (Option PV)}{f:PV->Prop}(e:o=some (some v))(h:f v):zU o f:=by subst e;exact h
theorem t6:zU (some (some v)) f=f v:=rfl
def ixI (i:Int)(st:AH)(Q:EK)(x:PV):Prop :=
 match x with
 | .str z=>z.length<=100000/\∃c,atI z.cps.toList i=some c/\Q (.str ⟨#[c]⟩) st
 | x=>∃xs,bN st x=some xs/\∃v,atI xs i=some v/\Q v st
theorem AS (h:ixI i st Q x):(∃z c,x=.str z/\z.length<=100000/\atI z.cps.toList i=some c/\Q (.str ⟨#[c]⟩) st)\/∃xs v,bN st x=some xs/\atI xs i=some v/\Q v st:=by
 cases x with
 | str z=>exact .inl ⟨z,h.2.choose,rfl,h.1,h.2.choose_spec⟩
 | _=>obtain⟨xs,e,v,e2,q⟩:=h;exact .inr ⟨xs,v,e,e2,q⟩
theorem GV {Q:EK}(e:bN st x=some xs)(e2:atI xs i=some v)(h:Q v st):ixI i st Q x:=by cases x with|str z=>cases e|_=>exact⟨xs,e,v,e2,h⟩
def ixD (z:Str)(st:AH)(Q:EK)(x:PV):Prop:=False
def ixW (x y:PV)(st:AH)(Q:EK):Prop :=
 match y with
 | .int i=>ixI i st Q x
 | .str z=>ixD z st Q x
 | _=>False
noncomputable def l4 (z:Str)(lo hi:Option Int):Str:=if ((Builtin.Str.strSliceIndices lo hi 1 z.length).length == z.length)=true then z else ⟨((Builtin.Str.strSliceIndices lo hi 1 z.length).filterMap (z.cps[·]?)).toArray⟩
noncomputable def oP (z y:Str):List PV :=
 match Builtin.Str.occurrences z y 0 z.length 1 with
 | i::_=>[.str (Builtin.Str.strSub z 0 i),.str y,.str (Builtin.Str.strSub z (i+y.length) z.length)]
 | []=>[.str z,.str Str.empty,.str Str.empty]
def slW (x:PV)(lo hi:Option Int)(st:AH)(Q:EK):Prop :=
 match x with
 | .str z=>z.length<=100000/\Q (.str (l4 z lo hi)) st
 | .tup xs=>Q (.tup (kM xs lo hi)) st
 | x=>∃xs,bG st x=some xs/\Q (.ref st.length) (st++[.lst (kM xs lo hi)])
def Mn (st:AH)(Q:EK)(x:PV):Prop :=
 match x with
 | .str z=>z.length<=100000/\Q (.int z.length) st
 | x=>∃xs,bN st x=some xs/\Q (.int xs.length) st
theorem wU (h:Mn st Q x):(∃z,x=.str z/\z.length<=100000/\Q (.int z.length) st)\/∃xs,bN st x=some xs/\Q (.int xs.length) st:=by cases x with|str z=>exact .inl ⟨z,rfl,h⟩|_=>exact .inr h
theorem Ge {Q:EK}(e:bN st x=some xs)(h:Q (.int xs.length) st):Mn st Q x:=by cases x with|str z=>cases e|_=>exact⟨xs,e,h⟩
def Ku (st:AH)(Q:EK)(x:PV):Prop :=
 match x with
 | .bl b=>Q (.int (b2z b)) st
 | .str z=>z.length<=640/\∃n,PySem.intText? z=some n/\Q (.int n) st
 | _=>False
theorem um (h:Ku st Q x):(∃b,x=.bl b/\Q (.int (b2z b)) st)\/∃z n,x=.str z/\z.length<=640/\PySem.intText? z=some n/\Q (.int n) st:=by cases x with|bl b=>exact .inl ⟨b,rfl,h⟩|str z=>exact .inr ⟨z,h.2.choose,rfl,h.1,h.2.choose_spec⟩|_=>exact False.elim h
noncomputable def df {α:Type}:List (Option α)->Option (List α)
 | []=>some []
 | some x::r=>(df r).map (x::·)
 | none::_=>none
inductive B where
 | len|max2|min2|divmod|int1|str1|tuple1|list1|all1|any1|abs1|sorted1|repr1|sortS|max1|sortD
 deriving DecidableEq
noncomputable def nC:List PV->Option (List Bool)
 | []=>some []
 | .bl b::r=>(nC r).map (b::·)
 | _::_=>none
def yg (f:PV->Prop)(vs:List PV):Prop :=
 match vs with
 | [x]=>f x
 | _=>False
def Hn (f:PV->PV->Prop)(vs:List PV):Prop :=
 match vs with
 | [x,y]=>f x y
 | _=>False
def inW (f:Int->Prop)(x:PV):Prop :=
 match x with
 | .int b=>f b
 | _=>False
def gj (b:B)(vs:List PV)(st:AH)(Q:EK):Prop :=
 match b with
 | .len=>yg (Mn st Q) vs
 | .max2=>Hn (iiW fun i j=>Q (.int (if i<j then j else i)) st) vs
 | .min2=>Hn (iiW fun i j=>Q (.int (if j<i then j else i)) st) vs
 | .divmod=>Hn (iiW fun i j=>CBig j/\Q (.tup [.int (i/j),.int (i % j)]) st) vs
 | .int1=>yg (Ku st Q) vs
 | .str1=>yg (inW fun i=>i.natAbs.log2<1920/\Q (.str (toString i)) st) vs
 | .tuple1=>yg (fun x=>∃xs,bN st x=some xs/\Q (.tup xs) st) vs
 | .list1=>False
 | .all1=>yg (fun x=>∃xs bs,bG st x=some xs/\nC xs=some bs/\Q (.bl (bs.all id)) st) vs
 | .any1=>False
 | .abs1=>yg (inW fun i=>Q (.int i.natAbs) st) vs
 | .sorted1=>False
 | .repr1=>False
 | .sortS=>False
 | .max1=>False
 | .sortD=>False
inductive M where
 | append|pop0|extend|insert|count|index|popI
 deriving DecidableEq
def rfW (f:Nat->Prop)(x:PV):Prop :=
 match x with
 | .ref n=>f n
 | _=>False
def K1 (f:Prop)(vs:List PV):Prop :=
 match vs with
 | []=>f
 | _=>False
def x9 (m:M)(x:PV)(vs:List PV)(st:AH)(Q:EK):Prop :=
 match m with
 | .append=>rfW (fun n=>yg (fun v=>∃xs,st[n]?=some (.lst xs)/\xs.length<100000/\Q .non (st.set n (.lst (xs++[v])))) vs) x
 | .pop0=>rfW (fun n=>K1 (∃xs v,st[n]?=some (.lst xs)/\xs[xs.length-1]?=some v/\Q v (st.set n (.lst xs.dropLast))) vs) x
 | .extend=>False
 | .insert=>False
 | .count=>False
 | .index=>False
 | .popI=>False
theorem cJ (h:iiW f x y):∃i j,x=.int i/\y=.int j/\f i j:=by
 cases x with
 | int i =>
  cases y with
  | int j=>exact⟨i,j,rfl,rfl,h⟩
  | _=>exact False.elim h
 | _=>exact False.elim h
theorem bM (h:yg f vs):∃x,vs=[x]/\f x:=by
 cases vs with
 | nil=>exact False.elim h
 | cons x t =>
  cases t with
  | nil=>exact⟨x,rfl,h⟩
  | cons _ _=>exact False.elim h
theorem iM (h:Hn f vs):∃x y,vs=[x,y]/\f x y:=by
 cases vs with
 | nil=>exact False.elim h
 | cons x t =>
  cases t with
  | nil=>exact False.elim h
  | cons y t =>
   cases t with
   | nil=>exact⟨x,y,rfl,h⟩
   | cons _ _=>exact False.elim h
theorem ux {f:Prop}(h:K1 f vs):vs=[]/\f:=by
 cases vs with
 | nil=>exact⟨rfl,h⟩
 | cons x t=>exact False.elim h
theorem pZ (h:inW f x):∃b,x=.int b/\f b:=by
 cases x with
 | int b=>exact⟨b,rfl,h⟩
 | _=>exact False.elim h
theorem pU {f:Nat->Prop}(h:rfW f x):∃b,x=.ref b/\f b:=by
 cases x with
 | ref b=>exact⟨b,rfl,h⟩
 | _=>exact False.elim h
def fu (x:PV)(st:AH)(Q:BK):Prop :=
 match x with
 | .bl b=>Q b st
 | .non=>Q false st
 | .int i=>Q (i != 0) st
 | .str _=>False
 | x=>∃xs,bN st x=some xs/\Q (!xs.isEmpty) st
def Sub (st st':AH):Prop:=∀i,i<st.length->st'[i]?=st[i]?\/∃c,st'[i]?=some c/\c.bel 0=true
noncomputable def Tmp (st:AH)(Q:EK):EK:=fun v st'=>∃st1 g,st'=st1++g/\st1.length=st.length/\Sub st st1/\v.bel st.length=true/\Q v st1
noncomputable def Ret (st:AH)(Q:EK):EK:=fun v st'=>Q v st'\/Tmp st Q v st'
inductive SM where
 | join|split
 deriving DecidableEq
def smW (k:SM)(x y:PV)(st:AH)(Q:EK):Prop :=
 match x with
 | .str z=>match k with
  | .join=>∃ss:List Str,bG st y=some (ss.map PV.str)/\JoinOk z ss=true/\Q (.str (Txt.join z ss)) st
  | .split=>match y with
   | .str w=>0<w.length/\z.length<=100000/\(Txt.split z w).length<=100000/\Q (.ref st.length) (st++[.lst ((Txt.split z w).map PV.str)])
   | _=>False
 | _=>False
set_option genInjectivity false
set_option genCtorIdx false
mutual
inductive E where
 | var (i:Nat)|int (i:Int)|bl (b:Bool)|non|str (x:Str)|gv (x:Str) (v:PV)
 | tup (es:Es)|lst (es:Es)|dct0|dct1 (k:Str) (i:Int)
 | bin (op:Operator) (a b:E)|neg (a:E)|not (a:E)
 | cmp (op:CmpOp) (a b:E)
 | bop (isAnd:Bool) (es:Es)
 | ite (c a b:E)
 | ix (a b:E)|sl (a:E) (lo hi:O)
 | call (f:Nat) (es:Es)
 | blt (b:B) (es:Es)
 | inst (a:E) (t:String)
 | met (m:M) (o:E) (es:Es)
 | comp (elt:E) (tg:Tg) (it:It) (ifs:Es) (nt:List Str) (caps:List Nat)
 | tmp (a:E)
 | bad
 | jrev (a:E)|part (a:E) (y:Str)|sset (a:E)|clr (a:E)|dcp (a:E)|dget (a b:E)
 | pcall (i:Nat) (e:E)|hm (e be:E) (caps:List Nat)
 | compK (elt:E) (tg:Tg) (wk:DW) (e:E) (ifs:Es) (nt:List Str) (caps:List Nat)
 | compD (kx vx:E) (tg:Tg) (wk:DW) (e:E) (ifs:Es) (nt:List Str) (caps:List Nat)
 | dcl (a:E)|eqd (ne:Bool) (a b:E)|dct2 (k v:E)|smx (k:SM) (a b:E)
inductive Es where
 | nil|cons (e:E) (es:Es)
inductive O where
 | no|yes (e:E)
inductive It where
 | seq (e:E)|range1 (a:E)|range2 (a b:E)|zip (a b:E)|enum (a:E)|chars (e:E)|range3 (a b c:E)|zip3 (a b c:E)
inductive Tg where
 | name (i:Nat)|tup (ts:Tgs)|ltup (ts:Tgs)|sub (o i:E)
inductive Tgs where
 | nil|cons (t:Tg) (ts:Tgs)
end
noncomputable def Tgs.size:Tgs->Nat
 | .nil=>0
 | .cons _ ts=>ts.size+1
def yo (o i v:PV)(st:AH)(k:AH->Prop):Prop :=
 match o,i with
 | .ref n,.int j=>∃xs,st[n]?=some (.lst xs)/\∃q,ixN xs.length j=some q/\k (st.set n (.lst (xs.set q v)))
 | _,_=>False
noncomputable def gL (chk:AH->Prop)(body:PV->AH->(Option PV->AH->Prop)->Prop):List PV->List PV->AH->LK->Prop
 | [],acc,st,Q=>chk st/\Q acc st
 | x::xs,acc,st,Q=>chk st/\body x st fun o st'=>gL chk body xs (acc++o.toList) st' Q
noncomputable def iF (st:AH):PV->AH->Prop
 | .ref n=>fun st'=>st'[n]?=st[n]?
 | _=>fun _=>True
noncomputable def rSz (i j k:Int):Nat:=if i<j then ((j-i-1)/k+1).toNat else 0
noncomputable def jl (lo k:Int)(n:Nat):List PV:=(List.range n).map fun (i:Nat)=>PV.int (lo+(i:Int)*k)
noncomputable def dH (lo:Int)(n:Nat):List PV:=(List.range n).map fun (i:Nat)=>PV.int (lo+(i:Int))
noncomputable def ig:List PV->List PV->List PV
 | x::xs,y::ys=>.tup [x,y]::ig xs ys
 | _,_=>[]
noncomputable def jv:Int->List PV->List PV
 | _,[]=>[]
 | i,x::xs=>.tup [.int i,x]::jv (i+1) xs
noncomputable def je (z:Str):List PV:=z.cps.toList.map fun c=>.str ⟨#[c]⟩
noncomputable def sG (g:PV->Bool)(xs:List PV):Nat->Nat->Nat->Nat
 | 0,lo,_=>lo
 | n+1,lo,hi=>if lo<hi then (if g (xs.getD ((lo+hi)/2) .non)=true then sG g xs n ((lo+hi)/2+1) hi else sG g xs n lo ((lo+hi)/2)) else lo
noncomputable def bsr (g:PV->Bool)(xs:List PV):Nat:=sG g xs xs.length 0 xs.length
section
variable (Γ:Nat->FSp)
mutual
noncomputable def wpE:E->Fr->AH->EK->Prop
 | .var i,ρ,st,Q=>zU ρ[i]? fun v=>Q v st
 | .int i,_,st,Q=>Q (.int i) st
 | .bl b,_,st,Q=>Q (.bl b) st
 | .non,_,st,Q=>Q .non st
 | .str x,_,st,Q=>Q (.str x) st
 | .gv _ v,_,st,Q=>Q v st
 | .tup es,ρ,st,Q=>cC es ρ st fun vs st1=>vs.length<=100000/\Q (.tup vs) st1
 | .lst es,ρ,st,Q=>cC es ρ st fun vs st1=>vs.length<=100000/\Q (.ref st1.length) (st1++[.lst vs])
 | .dct0,_,_,_=>False
 | .dct1 _ _,_,_,_=>False
 | .bin op a b,ρ,st,Q=>wpE a ρ st fun x st1=>wpE b ρ st1 fun y st2=>kT op x y st2 Q
 | .neg a,ρ,st,Q=>wpE a ρ st fun x st1=>∃i,x=.int i/\Q (.int (-i)) st1
 | .not a,ρ,st,Q=>wpE a ρ st fun x st1=>∃c,x=.bl c/\Q (.bl (!c)) st1
 | .cmp op a b,ρ,st,Q=>wpE a ρ st fun x st1=>wpE b ρ st1 fun y st2=>eD op x y st2 Q
 | .bop true es,ρ,st,Q=>vR es ρ st Q
 | .bop false es,ρ,st,Q=>vK es ρ st Q
 | .ite c a b,ρ,st,Q=>wpT c ρ st fun k st1=>if k=true then wpE a ρ st1 Q else wpE b ρ st1 Q
 | .ix a b,ρ,st,Q=>wpE a ρ st fun x st1=>wpE b ρ st1 fun y st2=>ixW x y st2 Q
 | .sl a lo hi,ρ,st,Q=>wpE a ρ st fun x st1=>wpO lo ρ st1 fun l st2=>wpO hi ρ st2 fun h st3=>slW x l h st3 Q
 | .call f es,ρ,st,Q=>cC es ρ st fun vs st1=>Γ f vs st1 Q
 | .blt b es,ρ,st,Q=>cC es ρ st fun vs st1=>gj b vs st1 Q
 | .inst a t,ρ,st,Q=>wpE a ρ st fun x st1=>∃n,bW st1 x=some n/\Q (.bl (bH t n)) st1
 | .met m o es,ρ,st,Q=>wpE o ρ st fun x st1=>(∃xs,bG st1 x=some xs)/\cC es ρ st1 fun vs st2=>x9 m x vs st2 Q
 | .comp elt tg it ifs nt caps,ρ,st,Q=>fS it ρ st fun xs chk st1 =>
   xs.length<100000/\gL chk (fun x st2 k=>eN tg x (nt.map (fun _=>none)++caps.map fun i=>(ρ[i]?).join) st2 fun ρ' st3=>jU ifs ρ' st3 fun c st4 =>
    if c=true then wpE elt ρ' st4 fun v st5=>k (some v) st5 else k none st4) xs [] st1 fun vs st2=>Q (.ref st2.length) (st2++[.lst vs])
 | .tmp a,ρ,st,Q=>wpE a ρ st (Tmp st Q)
 | .bad,_,_,_=>False
 | .jrev a,ρ,st,Q=>wpE a ρ st fun x st1=>∃n z,x=.ref n/\st1[n]?=some (.lst [.str z])/\z.length<=100000/\Q (.str z) st1
 | .part a y,ρ,st,Q=>wpE a ρ st fun x st1=>∃z,x=.str z/\z.length<=100000/\Q (.tup (oP z y)) st1
 | .dget _ _,_,_,_=>False
 | .smx k a b,ρ,st,Q=>wpE a ρ st fun x st1=>(∃z,x=.str z)/\wpE b ρ st1 fun y st2=>smW k x y st2 Q
 | .dcp _,_,_,_=>False
 | .clr _,_,_,_=>False
 | .sset _,_,_,_=>False
 | .pcall i e,ρ,st,Q=>∃a,ρ[i]?=some (some (.fn a))/\wpE e ρ st fun v st1=>Γ 1000 [.fn a,v] st1 Q
 | .hm e be caps,ρ,st,Q=>wpE e ρ st fun v st1=>∃xs,v=.tup xs/\xs.length<=100000/\(∀i∈caps,∃c,ρ[i]?=some (some c)/\c.bel 0=true) /\
   ∃g:PV->Bool,(∀y∈xs,∀Q':EK,Q' (.bl (g y)) st1->wpE be (some y::caps.map fun i=>(ρ[i]?).join) st1 Q')/\Q (.int (bsr g xs)) st1
 | .compK _ _ _ _ _ _ _,_,_,_=>False
 | .compD _ _ _ _ _ _ _ _,_,_,_=>False
 | .dct2 _ _,_,_,_=>False
 | .dcl _,_,_,_=>False
 | .eqd _ _ _,_,_,_=>False
noncomputable def cC:Es->Fr->AH->LK->Prop
 | .nil,_,st,Q=>Q [] st
 | .cons e es,ρ,st,Q=>wpE e ρ st fun x st1=>cC es ρ st1 fun xs st2=>Q (x::xs) st2
noncomputable def wpO:O->Fr->AH->(Option Int->AH->Prop)->Prop
 | .no,_,st,Q=>Q none st
 | .yes e,ρ,st,Q=>wpE e ρ st fun x st1=>∃i,x=.int i/\Q (some i) st1
noncomputable def wpT:E->Fr->AH->BK->Prop
 | .bop true es,ρ,st,Q=>jU es ρ st Q
 | .bop false es,ρ,st,Q=>uW es ρ st Q
 | .not a,ρ,st,Q=>wpT a ρ st fun c st1=>Q (!c) st1
 | .cmp op a b,ρ,st,Q=>wpE a ρ st fun x st1=>wpE b ρ st1 fun y st2=>eD op x y st2 fun v st3=>∃c,v=.bl c/\Q c st3
 | .var i,ρ,st,Q=>zU ρ[i]? fun v=>fu v st Q
 | .call f es,ρ,st,Q=>cC es ρ st fun vs st1=>Γ f vs st1 fun v st2=>fu v st2 Q
 | .blt b es,ρ,st,Q=>cC es ρ st fun vs st1=>gj b vs st1 fun v st2=>fu v st2 Q
 | .inst a t,ρ,st,Q=>wpE a ρ st fun x st1=>∃n,bW st1 x=some n/\Q (bH t n) st1
 | .tmp a,ρ,st,Q=>wpE a ρ st (Tmp st fun v st1=>fu v st1 Q)
 | .ix a b,ρ,st,Q=>wpE a ρ st fun x st1=>wpE b ρ st1 fun y st2=>ixW x y st2 fun v st3=>fu v st3 Q
 | .pcall i e,ρ,st,Q=>∃a,ρ[i]?=some (some (.fn a))/\wpE e ρ st fun v st1=>Γ 1000 [.fn a,v] st1 fun v st2=>fu v st2 Q
 | .eqd _ _ _,_,_,_=>False
 | _,_,_,_=>False
noncomputable def vR:Es->Fr->AH->EK->Prop
 | .nil,_,_,_=>False
 | .cons e .nil,ρ,st,Q=>wpE e ρ st Q
 | .cons e es,ρ,st,Q=>wpE e ρ st fun x st1=>∃c,x=.bl c/\if c=true then vR es ρ st1 Q else Q (.bl false) st1
noncomputable def vK:Es->Fr->AH->EK->Prop
 | .nil,_,_,_=>False
 | .cons e .nil,ρ,st,Q=>wpE e ρ st Q
 | .cons e es,ρ,st,Q=>wpE e ρ st fun x st1=>∃c,x=.bl c/\if c=true then Q (.bl true) st1 else vK es ρ st1 Q
noncomputable def jU:Es->Fr->AH->BK->Prop
 | .nil,_,st,Q=>Q true st
 | .cons e .nil,ρ,st,Q=>wpT e ρ st Q
 | .cons e es,ρ,st,Q=>wpT e ρ st fun c st1=>if c=true then jU es ρ st1 Q else Q false st1
noncomputable def uW:Es->Fr->AH->BK->Prop
 | .nil,_,st,Q=>Q false st
 | .cons e .nil,ρ,st,Q=>wpT e ρ st Q
 | .cons e es,ρ,st,Q=>wpT e ρ st fun c st1=>if c=true then Q true st1 else uW es ρ st1 Q
noncomputable def fS:It->Fr->AH->(List PV->(AH->Prop)->AH->Prop)->Prop
 | .seq e,ρ,st,Q=>wpE e ρ st fun x st1=>∃xs,bN st1 x=some xs/\Q xs (iF st1 x) st1
 | .range1 a,ρ,st,Q=>wpE a ρ st fun x st1=>∃j,x=.int j/\-(2 ^ 62)<=j/\j<2 ^ 62/\Q (dH 0 j.toNat) (fun _=>True) st1
 | .range2 a b,ρ,st,Q=>wpE a ρ st fun x st1=>wpE b ρ st1 fun y st2=>∃i j,x=.int i/\y=.int j/\(-(2 ^ 62)<=i/\i<2 ^ 62/\-(2 ^ 62)<=j/\j<2 ^ 62)/\Q (dH i (j-i).toNat) (fun _=>True) st2
 | .zip a b,ρ,st,Q=>wpE a ρ st fun x st1=>wpE b ρ st1 fun y st2=>∃xs ys,bN st2 x=some xs/\bN st2 y=some ys/\Q (ig xs ys) (fun st'=>iF st2 x st'/\iF st2 y st') st2
 | .zip3 _ _ _,_,_,_=>False
 | .enum a,ρ,st,Q=>wpE a ρ st fun x st1=>∃xs,x=.tup xs/\Q (jv 0 xs) (fun _=>True) st1
 | .chars a,ρ,st,Q=>wpE a ρ st fun x st1=>∃z,x=.str z/\Q (je z) (fun _=>True) st1
 | .range3 a b c,ρ,st,Q=>wpE a ρ st fun x st1=>wpE b ρ st1 fun y st2=>wpE c ρ st2 fun u st3=>∃i j k,x=.int i/\y=.int j/\u=.int k/\(-(2 ^ 62)<=i/\i<2 ^ 62/\-(2 ^ 62)<=j/\j<2 ^ 62/\0<k/\k<2 ^ 62)/\Q (jl i k (rSz i j k)) (fun _=>True) st3
noncomputable def eN:Tg->PV->Fr->AH->(Fr->AH->Prop)->Prop
 | .name i,v,ρ,st,Q=>Q (ρ.set i (some v)) st
 | .tup ts,v,ρ,st,Q=>∃xs,v=.tup xs/\xs.length=ts.size/\jT ts xs ρ st Q
 | .ltup _,_,_,_,_=>False
 | .sub o i,v,ρ,st,Q=>wpE o ρ st fun x st1=>wpE i ρ st1 fun y st2=>yo x y v st2 fun st3=>Q ρ st3
noncomputable def jT:Tgs->List PV->Fr->AH->(Fr->AH->Prop)->Prop
 | .nil,vs,ρ,st,Q=>vs=[]/\Q ρ st
 | .cons t ts,vs,ρ,st,Q=>∃v r,vs=v::r/\eN t v ρ st fun ρ' st'=>jT ts r ρ' st' Q
end
end
mutual
inductive S where
 | set (t:Tg) (e:E)|par (i j:Nat) (a b:E)|aug (i:Nat) (op:Operator) (e:E)|expr (e:E)|ret (e:E)|retN
 | ifS (c:E) (a b:Ss)|whileS (c:E) (b:Ss)|forS (t:Tg) (it:It) (b:Ss)|pass|brk|cont|bad|set2 (i j:Nat) (e:E)|forK (t:Tg) (wk:DW) (e:E) (b:Ss)
inductive Ss where
 | nil|cons (s:S) (ss:Ss)
end
structure aK where
 nx:Fr->AH->Prop
 rt:EK
 bk:Fr->AH->Prop:=fun _ _=>False
 ct:Fr->AH->Prop:=fun _ _=>False
set_option genInjectivity true
set_option genCtorIdx true
noncomputable def vB (chk:AH->Prop)(body:PV->Fr->AH->aK->Prop)(D:aK):List PV->Fr->AH->Prop
 | [],ρ,st=>chk st/\D.nx ρ st
 | x::xs,ρ,st=>chk st/\body x ρ st { nx:=vB chk body D xs,ct:=vB chk body D xs,bk:=D.nx,rt:=D.rt }
noncomputable def gE (c:Fr->AH->BK->Prop)(body:Fr->AH->aK->Prop)(D:aK):Nat->Fr->AH->Prop
 | 0,_,_=>False
 | n+1,ρ,st=>c ρ st fun k st1=>if k=true then body ρ st1 { nx:=gE c body D n,ct:=gE c body D n,bk:=D.nx,rt:=D.rt } else D.nx ρ st1
section
variable (Γ:Nat->FSp)
mutual
noncomputable def wpS:S->Fr->AH->aK->Prop
 | .set t e,ρ,st,D=>wpE Γ e ρ st fun v st1=>eN Γ t v ρ st1 D.nx
 | .par i j a b,ρ,st,D=>wpE Γ a ρ st fun x st1=>wpE Γ b ρ st1 fun y st2=>D.nx ((ρ.set i (some x)).set j (some y)) st2
 | .aug _ _ _,_,_,_=>False
 | .expr e,ρ,st,D=>wpE Γ e ρ st fun _ st1=>D.nx ρ st1
 | .ret e,ρ,st,D=>wpE Γ e ρ st D.rt
 | .retN,_,st,D=>D.rt .non st
 | .ifS c a b,ρ,st,D=>wpT Γ c ρ st fun k st1=>if k=true then aw a ρ st1 D else aw b ρ st1 D
 | .whileS c b,ρ,st,D=>∃n,gE (wpT Γ c) (aw b) D n ρ st
 | .forS t it b,ρ,st,D=>fS Γ it ρ st fun xs chk st1=>vB chk (fun x ρ' st' D'=>eN Γ t x ρ' st' fun ρ2 st2=>aw b ρ2 st2 D') D xs ρ st1
 | .pass,ρ,st,D=>D.nx ρ st
 | .brk,ρ,st,D=>D.bk ρ st
 | .cont,ρ,st,D=>D.ct ρ st
 | .bad,_,_,_=>False
 | .forK _ _ _ _,_,_,_=>False
 | .set2 i j e,ρ,st,D=>wpE Γ e ρ st fun v st1=>D.nx ((ρ.set i (some v)).set j (some v)) st1
noncomputable def aw:Ss->Fr->AH->aK->Prop
 | .nil,ρ,st,D=>D.nx ρ st
 | .cons s ss,ρ,st,D=>wpS s ρ st { D with nx:=fun ρ' st'=>aw ss ρ' st' D }
end
end
section
variable {Γ:Nat->FSp}{ρ:Fr}{st:AH}{Q:EK}{D:aK}{a b c:E}{es:Es}
theorem F0:aw Γ .nil ρ st D=D.nx ρ st:=rfl
theorem DY:aw Γ (.cons s .nil) ρ st D=wpS Γ s ρ st D:=rfl
theorem A2:wpS Γ (.set t a) ρ st D=wpE Γ a ρ st fun v st1=>eN Γ t v ρ st1 D.nx:=rfl
theorem JK:wpS Γ (.par i j a b) ρ st D=wpE Γ a ρ st fun x st1=>wpE Γ b ρ st1 fun y st2=>D.nx ((ρ.set i (some x)).set j (some y)) st2:=rfl
theorem DZ:wpS Γ (.expr a) ρ st D=wpE Γ a ρ st fun _ st1=>D.nx ρ st1:=rfl
theorem Jl:wpS Γ (.ret a) ρ st D=wpE Γ a ρ st fun v st1=>D.rt v st1:=rfl
theorem GE:wpS Γ .retN ρ st D=D.rt .non st:=rfl
theorem Nd:wpS Γ (.ifS c x y) ρ st D=wpT Γ c ρ st fun k st1=>if k=true then aw Γ x ρ st1 D else aw Γ y ρ st1 D:=rfl
theorem Dz:wpS Γ .pass ρ st D=D.nx ρ st:=rfl
theorem Gf:wpS Γ (.set2 i j a) ρ st D=wpE Γ a ρ st fun v st1=>D.nx ((ρ.set i (some v)).set j (some v)) st1:=rfl
theorem KL:wpS Γ .brk ρ st D=D.bk ρ st:=rfl
theorem FZ:wpS Γ .cont ρ st D=D.ct ρ st:=rfl
theorem Jf:wpE Γ (.var i) ρ st Q=zU ρ[i]? fun v=>Q v st:=rfl
theorem Jt:wpE Γ (.int i) ρ st Q=Q (.int i) st:=rfl
theorem NR:wpE Γ (.bl i) ρ st Q=Q (.bl i) st:=rfl
theorem Kp:wpE Γ .non ρ st Q=Q .non st:=rfl
theorem Kl:wpE Γ (.str i) ρ st Q=Q (.str i) st:=rfl
theorem M7:wpE Γ (.gv x v) ρ st Q=Q v st:=rfl
theorem Jz:wpE Γ (.tup es) ρ st Q=cC Γ es ρ st fun vs st1=>vs.length<=100000/\Q (.tup vs) st1:=rfl
theorem Kj:wpE Γ (.lst es) ρ st Q=cC Γ es ρ st fun vs st1=>vs.length<=100000/\Q (.ref st1.length) (st1++[.lst vs]):=rfl
theorem JB:wpE Γ (.bin op a b) ρ st Q=wpE Γ a ρ st fun x st1=>wpE Γ b ρ st1 fun y st2=>kT op x y st2 Q:=rfl
theorem Jk:wpE Γ (.neg a) ρ st Q=wpE Γ a ρ st fun x st1=>∃i,x=.int i/\Q (.int (-i)) st1:=rfl
theorem Jq:wpE Γ (.not a) ρ st Q=wpE Γ a ρ st fun x st1=>∃c,x=.bl c/\Q (.bl (!c)) st1:=rfl
theorem IY:wpE Γ (.cmp op a b) ρ st Q=wpE Γ a ρ st fun x st1=>wpE Γ b ρ st1 fun y st2=>eD op x y st2 Q:=rfl
theorem Ky:wpE Γ (.bop true es) ρ st Q=vR Γ es ρ st Q:=rfl
theorem NS:wpE Γ (.bop false es) ρ st Q=vK Γ es ρ st Q:=rfl
theorem JL:wpE Γ (.ite c a b) ρ st Q=wpT Γ c ρ st fun k st1=>if k=true then wpE Γ a ρ st1 Q else wpE Γ b ρ st1 Q:=rfl
theorem Ov:wpE Γ (.ix a b) ρ st Q=wpE Γ a ρ st fun x st1=>wpE Γ b ρ st1 fun y st2=>ixW x y st2 Q:=rfl
theorem OZ:wpE Γ (.sl a lo hi) ρ st Q=wpE Γ a ρ st fun x st1=>wpO Γ lo ρ st1 fun l st2=>wpO Γ hi ρ st2 fun h st3=>slW x l h st3 Q:=rfl
theorem Ga:wpE Γ (.call f es) ρ st Q=cC Γ es ρ st fun vs st1=>Γ f vs st1 Q:=rfl
theorem Je:wpE Γ (.blt f es) ρ st Q=cC Γ es ρ st fun vs st1=>gj f vs st1 Q:=rfl
theorem E3:wpE Γ (.inst a t) ρ st Q=wpE Γ a ρ st fun x st1=>∃n,bW st1 x=some n/\Q (.bl (bH t n)) st1:=rfl
theorem Ke:wpE Γ (.met m a es) ρ st Q=wpE Γ a ρ st fun x st1=>(∃xs,bG st1 x=some xs)/\cC Γ es ρ st1 fun vs st2=>x9 m x vs st2 Q:=rfl
theorem Gz:wpE Γ (.jrev a) ρ st Q=wpE Γ a ρ st fun x st1=>∃n z,x=.ref n/\st1[n]?=some (.lst [.str z])/\z.length<=100000/\Q (.str z) st1:=rfl
theorem JI:wpE Γ (.smx k a b) ρ st Q=wpE Γ a ρ st fun x st1=>(∃z,x=.str z)/\wpE Γ b ρ st1 fun y st2=>smW k x y st2 Q:=rfl
theorem FC:wpE Γ (.part a y) ρ st Q=wpE Γ a ρ st fun x st1=>∃z,x=.str z/\z.length<=100000/\Q (.tup (oP z y)) st1:=rfl
theorem BY:wpE Γ (.pcall i a) ρ st Q=∃f,ρ[i]?=some (some (.fn f))/\wpE Γ a ρ st fun v st1=>Γ 1000 [.fn f,v] st1 Q:=rfl
theorem Nn {caps:List Nat}:wpE Γ (.hm a b caps) ρ st Q=wpE Γ a ρ st fun v st1=>∃xs,v=.tup xs/\xs.length<=100000/\(∀i∈caps,∃c,ρ[i]?=some (some c)/\c.bel 0=true) /\
   ∃g:PV->Bool,(∀y∈xs,∀Q':EK,Q' (.bl (g y)) st1->wpE Γ b (some y::caps.map fun i=>(ρ[i]?).join) st1 Q')/\Q (.int (bsr g xs)) st1:=rfl
theorem Jb:wpE Γ (.tmp a) ρ st Q=wpE Γ a ρ st fun v st1=>Tmp st Q v st1:=rfl
variable {LQ:LK}{BQ:BK}{e e2:E}{i:Nat}{v:PV}{FQ:Fr->AH->Prop}{IQ:List PV->(AH->Prop)->AH->Prop}
theorem Eh:cC Γ .nil ρ st LQ=LQ [] st:=rfl
theorem AI:cC Γ (.cons e es) ρ st LQ=wpE Γ e ρ st fun x st1=>cC Γ es ρ st1 fun xs st2=>LQ (x::xs) st2:=rfl
theorem NY:wpO Γ .no ρ st OQ=OQ none st:=rfl
theorem K5:wpO Γ (.yes e) ρ st OQ=wpE Γ e ρ st fun x st1=>∃i,x=.int i/\OQ (some i) st1:=rfl
theorem J8:wpT Γ (.bop true es) ρ st BQ=jU Γ es ρ st BQ:=rfl
theorem O0:wpT Γ (.bop false es) ρ st BQ=uW Γ es ρ st BQ:=rfl
theorem Jm:wpT Γ (.not a) ρ st BQ=wpT Γ a ρ st fun c st1=>BQ (!c) st1:=rfl
theorem JA:wpT Γ (.cmp op a b) ρ st BQ=wpE Γ a ρ st fun x st1=>wpE Γ b ρ st1 fun y st2=>eD op x y st2 fun v st3=>∃c,v=.bl c/\BQ c st3:=rfl
theorem KS:wpT Γ (.var i) ρ st BQ=zU ρ[i]? fun v=>fu v st BQ:=rfl
theorem FF:wpT Γ (.call f es) ρ st BQ=cC Γ es ρ st fun vs st1=>Γ f vs st1 fun v st2=>fu v st2 BQ:=rfl
theorem KJ:wpT Γ (.blt f es) ρ st BQ=cC Γ es ρ st fun vs st1=>gj f vs st1 fun v st2=>fu v st2 BQ:=rfl
theorem DV:wpT Γ (.inst a t) ρ st BQ=wpE Γ a ρ st fun x st1=>∃n,bW st1 x=some n/\BQ (bH t n) st1:=rfl
theorem Jg:wpT Γ (.tmp a) ρ st BQ=wpE Γ a ρ st fun v st1=>Tmp st (fun v st1=>fu v st1 BQ) v st1:=rfl
theorem AJ:wpT Γ (.pcall i a) ρ st BQ=∃f,ρ[i]?=some (some (.fn f))/\wpE Γ a ρ st fun v st1=>Γ 1000 [.fn f,v] st1 fun v st2=>fu v st2 BQ:=rfl
theorem NT:wpT Γ (.ix a b) ρ st BQ=wpE Γ a ρ st fun x st1=>wpE Γ b ρ st1 fun y st2=>ixW x y st2 fun v st3=>fu v st3 BQ:=rfl
theorem ER:vR Γ (.cons e .nil) ρ st Q=wpE Γ e ρ st Q:=rfl
theorem AY:vR Γ (.cons e (.cons e2 es)) ρ st Q=wpE Γ e ρ st fun x st1=>∃c,x=.bl c/\if c=true then vR Γ (.cons e2 es) ρ st1 Q else Q (.bl false) st1:=rfl
theorem Gb:vK Γ (.cons e .nil) ρ st Q=wpE Γ e ρ st Q:=rfl
theorem AQ:vK Γ (.cons e (.cons e2 es)) ρ st Q=wpE Γ e ρ st fun x st1=>∃c,x=.bl c/\if c=true then Q (.bl true) st1 else vK Γ (.cons e2 es) ρ st1 Q:=rfl
theorem zG:jU Γ .nil ρ st BQ=BQ true st:=rfl
theorem D_:jU Γ (.cons e .nil) ρ st BQ=wpT Γ e ρ st BQ:=rfl
theorem Ax:jU Γ (.cons e (.cons e2 es)) ρ st BQ=wpT Γ e ρ st fun c st1=>if c=true then jU Γ (.cons e2 es) ρ st1 BQ else BQ false st1:=rfl
theorem EG:uW Γ (.cons e .nil) ρ st BQ=wpT Γ e ρ st BQ:=rfl
theorem Br:uW Γ (.cons e (.cons e2 es)) ρ st BQ=wpT Γ e ρ st fun c st1=>if c=true then BQ true st1 else uW Γ (.cons e2 es) ρ st1 BQ:=rfl
theorem Ee:fS Γ (.seq e) ρ st IQ=wpE Γ e ρ st fun x st1=>∃xs,bN st1 x=some xs/\IQ xs (iF st1 x) st1:=rfl
theorem KI:fS Γ (.range1 a) ρ st IQ=wpE Γ a ρ st fun x st1=>∃j,x=.int j/\-(2 ^ 62)<=j/\j<2 ^ 62/\IQ (dH 0 j.toNat) (fun _=>True) st1:=rfl
theorem Kv:fS Γ (.range2 a b) ρ st IQ=wpE Γ a ρ st fun x st1=>wpE Γ b ρ st1 fun y st2=>∃i j,x=.int i/\y=.int j/\(-(2 ^ 62)<=i/\i<2 ^ 62/\-(2 ^ 62)<=j/\j<2 ^ 62)/\IQ (dH i (j-i).toNat) (fun _=>True) st2:=rfl
theorem Fi:fS Γ (.zip a b) ρ st IQ=wpE Γ a ρ st fun x st1=>wpE Γ b ρ st1 fun y st2=>∃xs ys,bN st2 x=some xs/\bN st2 y=some ys/\IQ (ig xs ys) (fun st'=>iF st2 x st'/\iF st2 y st') st2:=rfl
theorem A4:fS Γ (.enum a) ρ st IQ=wpE Γ a ρ st fun x st1=>∃xs,x=.tup xs/\IQ (jv 0 xs) (fun _=>True) st1:=rfl
theorem w9:fS Γ (.chars a) ρ st IQ=wpE Γ a ρ st fun x st1=>∃z,x=.str z/\IQ (je z) (fun _=>True) st1:=rfl
theorem Jy:fS Γ (.range3 a b c) ρ st IQ=wpE Γ a ρ st fun x st1=>wpE Γ b ρ st1 fun y st2=>wpE Γ c ρ st2 fun u st3=>∃i j k,x=.int i/\y=.int j/\u=.int k/\(-(2 ^ 62)<=i/\i<2 ^ 62/\-(2 ^ 62)<=j/\j<2 ^ 62/\0<k/\k<2 ^ 62)/\IQ (jl i k (rSz i j k)) (fun _=>True) st3:=rfl
theorem kD:eN Γ (.name i) v ρ st FQ=FQ (ρ.set i (some v)) st:=rfl
theorem qR {ts:Tgs}:eN Γ (.tup ts) v ρ st FQ=∃xs,v=.tup xs/\xs.length=ts.size/\jT Γ ts xs ρ st FQ:=rfl
theorem qW:eN Γ (.sub a b) v ρ st FQ=wpE Γ a ρ st fun x st1=>wpE Γ b ρ st1 fun y st2=>yo x y v st2 fun st3=>FQ ρ st3:=rfl
theorem Bd:jT Γ .nil vs ρ st FQ=(vs=[]/\FQ ρ st):=rfl
theorem yF:jT Γ (.cons t ts) vs ρ st FQ=∃v r,vs=v::r/\eN Γ t v ρ st fun ρ' st'=>jT Γ ts r ρ' st' FQ:=rfl
theorem FA:Tgs.size .nil=0:=id rfl
theorem AD {ts:Tgs}:Tgs.size (.cons t ts)=ts.size+1:=id rfl
end
end FW
namespace FW
open PySem L2 HX
theorem yH {k k':Bool->Prop}(h:∀b,k b->k' b)(q:eqW st x y k):eqW st x y k':=by
 unfold eqW at q |-
 split at q
 ·exact h _ q
 ·exact h _ q
 ·exact h _ q
 ·obtain⟨d,e,h1,h2,h3,h4,q⟩:=q;exact⟨d,e,h1,h2,h3,h4,h _ q⟩
theorem uA {st:AH}{Q':EK}(h:∀v st,Q v st->Q' v st)(q:kT op x y st Q):kT op x y st Q':=by
 cases op with
 | Add =>
  cases x with
  | int i =>
   cases y with
   | int j=>exact h _ _ q
   | _=>exact False.elim q
  | ref n =>
   cases y with
   | ref k=>obtain⟨xs,ys,h1,h2,h3,q⟩:=q;exact⟨xs,ys,h1,h2,h3,h _ _ q⟩
   | _=>exact False.elim q
  | tup xs =>
   cases y with
   | tup ys=>exact⟨q.1,h _ _ q.2⟩
   | _=>exact False.elim q
  | str a =>
   cases y with
   | str b=>exact⟨q.1,h _ _ q.2⟩
   | _=>exact False.elim q
  | _=>exact False.elim q
 | Mult =>
  cases x with
  | int i =>
   cases y with
   | int j=>exact⟨q.1,h _ _ q.2⟩
   | _=>exact False.elim q
  | ref n =>
   cases y with
   | int k=>obtain⟨xs,h1,h2,h3,h4,q⟩:=q;exact⟨xs,h1,h2,h3,h4,h _ _ q⟩
   | _=>exact False.elim q
  | str z =>
   cases y with
   | int k=>obtain⟨h1,h2,h3,h4,q⟩:=q;exact⟨h1,h2,h3,h4,h _ _ q⟩
   | _=>exact False.elim q
  | _=>exact False.elim q
 | Sub=>obtain⟨i,j,rfl,rfl,q⟩:=cJ q;exact h _ _ q
 | FloorDiv=>obtain⟨i,j,rfl,rfl,q⟩:=cJ q;exact⟨q.1,h _ _ q.2⟩
 | Mod=>obtain⟨i,j,rfl,rfl,q⟩:=cJ q;exact⟨q.1,h _ _ q.2⟩
 | Pow=>obtain⟨i,j,rfl,rfl,q⟩:=cJ q;exact⟨q.1,h _ _ q.2⟩
 | _=>exact False.elim q
theorem ki {st:AH}{Q':EK}(h:∀v st,Q v st->Q' v st)(q:eD op x y st Q):eD op x y st Q':=by
 cases op with
 | Eq=>
  unfold eD at q |-;simp only at q |-;exact yH (fun _=>h _ _) q
 | NotEq=>
  unfold eD at q |-;simp only at q |-;exact yH (fun _=>h _ _) q
 | IsNot=>cases y with|bl k=>exact h _ _ q|_=>exact False.elim q
 | In=>
  unfold eD at q |-;simp only at q |-;split at q <;> first|exact h _ _ q|exact q
 | Lt=>
  unfold eD at q |-;simp only at q |-;split at q <;> first|exact h _ _ q|exact q
 | Gt=>
  unfold eD at q |-;simp only at q |-;split at q <;> first|exact h _ _ q|exact q
 | GtE=>
  unfold eD at q |-;simp only at q |-;split at q <;> first|exact h _ _ q|exact q
 | _=>exact False.elim q
theorem mL {st:AH}{Q':EK}(h:∀v st,Q v st->Q' v st)(q:ixW x y st Q):ixW x y st Q':=by
 cases y with
 | int i =>
  rcases AS q with⟨z,c,rfl,h1,h2,q⟩|⟨xs,v,h1,h2,q⟩
  ·exact⟨h1,c,h2,h _ _ q⟩
  ·exact GV h1 h2 (h _ _ q)
 | str z=>exact False.elim q
 | _=>exact q
theorem xO {st:AH}{Q':EK}(h:∀v st,Q v st->Q' v st)(q:slW x lo hi st Q):slW x lo hi st Q':=by
 cases x with
 | tup xs=>exact h _ _ q
 | str z=>exact⟨q.1,h _ _ q.2⟩
 | _=>obtain⟨xs,e,q⟩:=q;exact⟨xs,e,h _ _ q⟩
theorem Et {st:AH}{Q':EK}(h:∀v st,Q v st->Q' v st)(q:smW k x y st Q):smW k x y st Q':=by
 cases x with
 | str z =>
  cases k with
  | join=>obtain⟨ss,h2,h3,q⟩:=q;exact⟨ss,h2,h3,h _ _ q⟩
  | split =>
   cases y with
   | str w=>obtain⟨h1,h2,h3,q⟩:=q;exact⟨h1,h2,h3,h _ _ q⟩
   | _=>exact False.elim q
 | _=>exact False.elim q
theorem kh {st:AH}{Q':EK}(h:∀v st,Q v st->Q' v st)(q:gj b vs st Q):gj b vs st Q':=by
 cases b with
 | len =>
  obtain⟨x,rfl,q⟩:=bM q;rcases wU q with⟨z,rfl,h1,q⟩|⟨xs,e,q⟩
  ·exact⟨h1,h _ _ q⟩
  ·exact Ge e (h _ _ q)
 | max2=>obtain⟨x,y,rfl,q⟩:=iM q;obtain⟨i,j,rfl,rfl,q⟩:=cJ q;exact h _ _ q
 | min2=>obtain⟨x,y,rfl,q⟩:=iM q;obtain⟨i,j,rfl,rfl,q⟩:=cJ q;exact h _ _ q
 | divmod=>obtain⟨x,y,rfl,q⟩:=iM q;obtain⟨i,j,rfl,rfl,q⟩:=cJ q;exact⟨q.1,h _ _ q.2⟩
 | int1 =>
  obtain⟨x,rfl,q⟩:=bM q;rcases um q with⟨b,rfl,q⟩|⟨z,n,rfl,h1,h2,q⟩
  ·exact h _ _ q
  ·exact⟨h1,n,h2,h _ _ q⟩
 | str1=>obtain⟨x,rfl,q⟩:=bM q;obtain⟨i,rfl,q⟩:=pZ q;exact⟨q.1,h _ _ q.2⟩
 | tuple1=>obtain⟨x,rfl,xs,h1,q⟩:=bM q;exact⟨xs,h1,h _ _ q⟩
 | list1=>exact False.elim q
 | all1=>obtain⟨x,rfl,xs,bs,h1,h2,q⟩:=bM q;exact⟨xs,bs,h1,h2,h _ _ q⟩
 | any1=>exact False.elim q
 | abs1=>obtain⟨x,rfl,q⟩:=bM q;obtain⟨i,rfl,q⟩:=pZ q;exact h _ _ q
 | sortS=>exact False.elim q
 | sortD=>exact False.elim q
 | max1=>exact False.elim q
 | sorted1=>exact False.elim q
 | repr1=>exact False.elim q
theorem ke {st:AH}{Q':EK}(h:∀v st,Q v st->Q' v st)(q:x9 m x vs st Q):x9 m x vs st Q':=by
 cases m with
 | append=>obtain⟨n,rfl,q⟩:=pU q;obtain⟨v,rfl,xs,h1,h2,q⟩:=bM q;exact⟨xs,h1,h2,h _ _ q⟩
 | pop0=>obtain⟨n,rfl,q⟩:=pU q;obtain⟨rfl,xs,v,h1,h2,q⟩:=ux q;exact⟨xs,v,h1,h2,h _ _ q⟩
 | extend=>exact False.elim q
 | insert=>exact False.elim q
 | count=>exact False.elim q
 | index=>exact False.elim q
 | popI=>exact False.elim q
theorem bJ {st:AH}{Q':BK}(h:∀v st,Q v st->Q' v st)(q:fu x st Q):fu x st Q':=by
 unfold fu at q |-
 split at q <;> first
  | exact h _ _ q
  | exact q.elim
  | (obtain⟨xs,h1,q⟩:=q;exact⟨xs,h1,h _ _ q⟩)
theorem uD {st:AH}{k k':AH->Prop}(h:∀st,k st->k' st)(q:yo o i v st k):yo o i v st k':=by
 unfold yo at q |-
 split at q
 ·obtain⟨xs,h1,j,h2,q⟩:=q;exact⟨xs,h1,j,h2,h _ q⟩
 ·exact q
theorem wI {Q':EK}(h:∀v st,Q v st->Q' v st)(q:Tmp st0 Q v st):Tmp st0 Q' v st:=by obtain⟨st1,g,h1,h2,h3,h4,q⟩:=q;exact⟨st1,g,h1,h2,h3,h4,h _ _ q⟩
theorem jc {body body':PV->AH->(Option PV->AH->Prop)->Prop}(hb:∀x st k k',(∀o st,k o st->k' o st)->body x st k->body' x st k') :
  ∀ {xs acc:List PV}{st:AH}{Q Q':LK},(∀v st,Q v st->Q' v st)->gL chk body xs acc st Q->gL chk body' xs acc st Q'
 | [],acc,st,Q,Q',h,q=>⟨q.1,h _ _ q.2⟩
 | x::xs,acc,st,Q,Q',h,q=>⟨q.1,hb _ _ _ _ (fun o st' z=>jc hb h z) q.2⟩
section
variable {Γ:Nat->FSp}
def aW (Γ:Nat->FSp):Prop:=∀f vs st Q Q',(∀v st,Q v st->Q' v st)->Γ f vs st Q->Γ f vs st Q'
mutual
theorem ae (G:aW Γ):∀(e:E) {ρ:Fr}{st:AH}{Q Q':EK},(∀v st,Q v st->Q' v st)->wpE Γ e ρ st Q->wpE Γ e ρ st Q'
 | .var i,ρ,st,Q,Q',h,q=>by obtain⟨v,e,z⟩:=m_ q;exact wa e (h _ _ z)
 | .int i,ρ,st,Q,Q',h,q=>by exact h _ _ q
 | .bl i,ρ,st,Q,Q',h,q=>by exact h _ _ q
 | .non,ρ,st,Q,Q',h,q=>by exact h _ _ q
 | .str i,ρ,st,Q,Q',h,q=>by exact h _ _ q
 | .gv _ i,ρ,st,Q,Q',h,q=>by exact h _ _ q
 | .tup es,ρ,st,Q,Q',h,q=>by exact aA G es (fun vs st1 z=>⟨z.1,h _ _ z.2⟩) q
 | .lst es,ρ,st,Q,Q',h,q=>by exact aA G es (fun vs st1 z=>⟨z.1,h _ _ z.2⟩) q
 | .dct0,ρ,st,Q,Q',h,q=>False.elim q
 | .bad,ρ,st,Q,Q',h,q=>False.elim q
 | .jrev a,ρ,st,Q,Q',h,q=>by refine ae G a (fun x st1 z=>?_) q;obtain⟨n,w,e,h1,h2,z⟩:=z;exact⟨n,w,e,h1,h2,h _ _ z⟩
 | .dget _ _,ρ,st,Q,Q',h,q=>False.elim q
 | .smx k a b,ρ,st,Q,Q',h,q=>by exact ae G a (fun x st1 z=>⟨z.1,ae G b (fun y st2 z=>Et h z) z.2⟩) q
 | .dcp _,ρ,st,Q,Q',h,q=>False.elim q
 | .clr _,ρ,st,Q,Q',h,q=>False.elim q
 | .sset _,ρ,st,Q,Q',h,q=>False.elim q
 | .part a y,ρ,st,Q,Q',h,q=>by refine ae G a (fun x st1 z=>?_) q;obtain⟨w,e,h1,z⟩:=z;exact⟨w,e,h1,h _ _ z⟩
 | .pcall i e,ρ,st,Q,Q',h,q=>by obtain⟨a,e1,q⟩:=q;exact⟨a,e1,ae G e (fun x st1 z=>G _ _ _ _ _ h z) q⟩
 | .hm e be caps,ρ,st,Q,Q',h,q=>by refine ae G e (fun x st1 z=>?_) q;obtain⟨xs,e,hl,hc,g,hg,z⟩:=z;exact⟨xs,e,hl,hc,g,hg,h _ _ z⟩
 | .dct1 _ _,ρ,st,Q,Q',h,q=>False.elim q
 | .bin op a b,ρ,st,Q,Q',h,q=>by exact ae G a (fun x st1 z=>ae G b (fun y st2 z=>uA h z) z) q
 | .neg a,ρ,st,Q,Q',h,q=>by
  skip
  refine ae G a (fun x st1 z=>?_) q;obtain⟨i,e,z⟩:=z;exact⟨i,e,h _ _ z⟩
 | .not a,ρ,st,Q,Q',h,q=>by
  skip
  refine ae G a (fun x st1 z=>?_) q;obtain⟨i,e,z⟩:=z;exact⟨i,e,h _ _ z⟩
 | .cmp op a b,ρ,st,Q,Q',h,q=>by exact ae G a (fun x st1 z=>ae G b (fun y st2 z=>ki h z) z) q
 | .bop true es,ρ,st,Q,Q',h,q=>by exact nQ G es h q
 | .bop false es,ρ,st,Q,Q',h,q=>by exact oE G es h q
 | .ite c a b,ρ,st,Q,Q',h,q=>by
  skip
  refine aP G c (fun k st1 z=>?_) q;cases k with
  | true=>rw[QA rfl] at z |-;exact ae G a h z
  | false=>rw[QC P5] at z |-;exact ae G b h z
 | .ix a b,ρ,st,Q,Q',h,q=>by exact ae G a (fun x st1 z=>ae G b (fun y st2 z=>mL h z) z) q
 | .sl a lo hi,ρ,st,Q,Q',h,q=>by exact ae G a (fun x st1 z=>mW G lo (fun l st2 z=>mW G hi (fun u st3 z=>xO h z) z) z) q
 | .call f es,ρ,st,Q,Q',h,q=>by exact aA G es (fun vs st1 z=>G _ _ _ _ _ h z) q
 | .blt b es,ρ,st,Q,Q',h,q=>by exact aA G es (fun vs st1 z=>kh h z) q
 | .inst a t,ρ,st,Q,Q',h,q=>by
  skip
  refine ae G a (fun x st1 z=>?_) q;obtain⟨i,e,z⟩:=z;exact⟨i,e,h _ _ z⟩
 | .met m o es,ρ,st,Q,Q',h,q=>by exact ae G o (fun x st1 z=>⟨z.1,aA G es (fun vs st2 z=>ke h z) z.2⟩) q
 | .comp elt tg it ifs nt caps,ρ,st,Q,Q',h,q=>by
  skip
  exact cu G it (fun xs chk st1 z=>⟨z.1,jc (fun x st k k' hk w=>bu G tg (fun ρ' st3 w=>cU G ifs (fun c st4 w=>by
   cases c with
   | true=>rw[QA rfl] at w |-;exact ae G elt (fun v st5 w=>hk _ _ w) w
   | false=>rw[QC P5] at w |-;exact hk _ _ w) w) w) (fun vs st2 w=>h _ _ w) z.2⟩) q
 | .tmp a,ρ,st,Q,Q',h,q=>by exact ae G a (fun v st1 z=>wI h z) q
 | .compK _ _ _ _ _ _ _,ρ,st,Q,Q',h,q=>False.elim q
 | .compD _ _ _ _ _ _ _ _,ρ,st,Q,Q',h,q=>False.elim q
 | .dct2 _ _,ρ,st,Q,Q',h,q=>False.elim q
 | .dcl _,ρ,st,Q,Q',h,q=>False.elim q
 | .eqd _ _ _,ρ,st,Q,Q',h,q=>False.elim q
theorem aA (G:aW Γ):∀(e:Es) {ρ:Fr}{st:AH}{Q Q':LK},(∀v st,Q v st->Q' v st)->cC Γ e ρ st Q->cC Γ e ρ st Q'
 | .nil,ρ,st,Q,Q',h,q=>by exact h _ _ q
 | .cons e es,ρ,st,Q,Q',h,q=>by exact ae G e (fun x st1 z=>aA G es (fun xs st2 z=>h _ _ z) z) q
theorem mW (G:aW Γ):∀(e:O) {ρ:Fr}{st:AH}{Q Q':Option Int->AH->Prop},(∀v st,Q v st->Q' v st)->wpO Γ e ρ st Q->wpO Γ e ρ st Q'
 | .no,ρ,st,Q,Q',h,q=>by exact h _ _ q
 | .yes e,ρ,st,Q,Q',h,q=>by
  skip
  refine ae G e (fun x st1 z=>?_) q;obtain⟨i,e,z⟩:=z;exact⟨i,e,h _ _ z⟩
theorem aP (G:aW Γ):∀(e:E) {ρ:Fr}{st:AH}{Q Q':BK},(∀v st,Q v st->Q' v st)->wpT Γ e ρ st Q->wpT Γ e ρ st Q'
 | .bop true es,ρ,st,Q,Q',h,q=>by exact cU G es h q
 | .bop false es,ρ,st,Q,Q',h,q=>by exact nL G es h q
 | .not a,ρ,st,Q,Q',h,q=>by exact aP G a (fun c st1 z=>h _ _ z) q
 | .cmp op a b,ρ,st,Q,Q',h,q=>by
  skip
  exact ae G a (fun x st1 z=>ae G b (fun y st2 z=>ki (fun v st3 w=>by obtain⟨c,e,w⟩:=w;exact⟨c,e,h _ _ w⟩) z) z) q
 | .var i,ρ,st,Q,Q',h,q=>by obtain⟨v,e,z⟩:=m_ q;exact wa e (bJ h z)
 | .call f es,ρ,st,Q,Q',h,q=>by exact aA G es (fun vs st1 z=>G _ _ _ _ _ (fun v st2 z=>bJ h z) z) q
 | .blt b es,ρ,st,Q,Q',h,q=>by exact aA G es (fun vs st1 z=>kh (fun v st2 z=>bJ h z) z) q
 | .inst a t,ρ,st,Q,Q',h,q=>by
  skip
  refine ae G a (fun x st1 z=>?_) q;obtain⟨i,e,z⟩:=z;exact⟨i,e,h _ _ z⟩
 | .tmp a,ρ,st,Q,Q',h,q=>by exact ae G a (fun v st1 z=>wI (fun v st2 z=>bJ h z) z) q
 | .ix a b,ρ,st,Q,Q',h,q=>by exact ae G a (fun x st1 z=>ae G b (fun y st2 z=>mL (fun v st3 z=>bJ h z) z) z) q
 | .pcall i e,ρ,st,Q,Q',h,q=>by obtain⟨a,e1,q⟩:=q;exact⟨a,e1,ae G e (fun x st1 z=>G _ _ _ _ _ (fun v st2 z=>bJ h z) z) q⟩
 | .eqd _ _ _,ρ,st,Q,Q',h,q=>False.elim q
 | .compK _ _ _ _ _ _ _,ρ,st,Q,Q',h,q=>False.elim q
 | .compD _ _ _ _ _ _ _ _,ρ,st,Q,Q',h,q=>False.elim q
 | .dcl _,ρ,st,Q,Q',h,q=>False.elim q
 | .dct2 _ _,ρ,st,Q,Q',h,q=>False.elim q
 | .hm _ _ _,ρ,st,Q,Q',h,q=>False.elim q
 | .int _,ρ,st,Q,Q',h,q=>False.elim q
 | .bl _,ρ,st,Q,Q',h,q=>False.elim q
 | .non,ρ,st,Q,Q',h,q=>False.elim q
 | .str _,ρ,st,Q,Q',h,q=>False.elim q
 | .gv _ _,ρ,st,Q,Q',h,q=>False.elim q
 | .tup _,ρ,st,Q,Q',h,q=>False.elim q
 | .lst _,ρ,st,Q,Q',h,q=>False.elim q
 | .dct0,ρ,st,Q,Q',h,q=>False.elim q
 | .bad,ρ,st,Q,Q',h,q=>False.elim q
 | .jrev _,ρ,st,Q,Q',h,q=>False.elim q
 | .dcp _,ρ,st,Q,Q',h,q=>False.elim q
 | .smx _ _ _,ρ,st,Q,Q',h,q=>False.elim q
 | .dget _ _,ρ,st,Q,Q',h,q=>False.elim q
 | .clr _,ρ,st,Q,Q',h,q=>False.elim q
 | .sset _,ρ,st,Q,Q',h,q=>False.elim q
 | .part _ _,ρ,st,Q,Q',h,q=>False.elim q
 | .dct1 _ _,ρ,st,Q,Q',h,q=>False.elim q
 | .bin _ _ _,ρ,st,Q,Q',h,q=>False.elim q
 | .neg _,ρ,st,Q,Q',h,q=>False.elim q
 | .ite _ _ _,ρ,st,Q,Q',h,q=>False.elim q
 | .sl _ _ _,ρ,st,Q,Q',h,q=>False.elim q
 | .met _ _ _,ρ,st,Q,Q',h,q=>False.elim q
 | .comp _ _ _ _ _ _,ρ,st,Q,Q',h,q=>False.elim q
theorem nQ (G:aW Γ):∀(e:Es) {ρ:Fr}{st:AH}{Q Q':EK},(∀v st,Q v st->Q' v st)->vR Γ e ρ st Q->vR Γ e ρ st Q'
 | .nil,ρ,st,Q,Q',h,q=>False.elim q
 | .cons e .nil,ρ,st,Q,Q',h,q=>by exact ae G e h q
 | .cons e (.cons e2 es),ρ,st,Q,Q',h,q=>by
  skip
  refine ae G e (fun x st1 z=>?_) q;obtain⟨c,e,z⟩:=z;refine⟨c,e,?_⟩;cases c with
  | true=>rw[QA rfl] at z |-;exact nQ G (.cons e2 es) h z
  | false=>rw[QC P5] at z |-;exact h _ _ z
theorem oE (G:aW Γ):∀(e:Es) {ρ:Fr}{st:AH}{Q Q':EK},(∀v st,Q v st->Q' v st)->vK Γ e ρ st Q->vK Γ e ρ st Q'
 | .nil,ρ,st,Q,Q',h,q=>False.elim q
 | .cons e .nil,ρ,st,Q,Q',h,q=>by exact ae G e h q
 | .cons e (.cons e2 es),ρ,st,Q,Q',h,q=>by
  skip
  refine ae G e (fun x st1 z=>?_) q;obtain⟨c,e,z⟩:=z;refine⟨c,e,?_⟩;cases c with
  | true=>rw[QA rfl] at z |-;exact h _ _ z
  | false=>rw[QC P5] at z |-;exact oE G (.cons e2 es) h z
theorem cU (G:aW Γ):∀(e:Es) {ρ:Fr}{st:AH}{Q Q':BK},(∀v st,Q v st->Q' v st)->jU Γ e ρ st Q->jU Γ e ρ st Q'
 | .nil,ρ,st,Q,Q',h,q=>by exact h _ _ q
 | .cons e .nil,ρ,st,Q,Q',h,q=>by exact aP G e h q
 | .cons e (.cons e2 es),ρ,st,Q,Q',h,q=>by
  skip
  refine aP G e (fun c st1 z=>?_) q;cases c with
  | true=>rw[QA rfl] at z |-;exact cU G (.cons e2 es) h z
  | false=>rw[QC P5] at z |-;exact h _ _ z
theorem nL (G:aW Γ):∀(e:Es) {ρ:Fr}{st:AH}{Q Q':BK},(∀v st,Q v st->Q' v st)->uW Γ e ρ st Q->uW Γ e ρ st Q'
 | .nil,ρ,st,Q,Q',h,q=>by exact h _ _ q
 | .cons e .nil,ρ,st,Q,Q',h,q=>by exact aP G e h q
 | .cons e (.cons e2 es),ρ,st,Q,Q',h,q=>by
  skip
  refine aP G e (fun c st1 z=>?_) q;cases c with
  | true=>rw[QA rfl] at z |-;exact h _ _ z
  | false=>rw[QC P5] at z |-;exact nL G (.cons e2 es) h z
theorem cu (G:aW Γ):∀(e:It) {ρ:Fr}{st:AH}{Q Q':List PV->(AH->Prop)->AH->Prop},(∀v c st,Q v c st->Q' v c st)->fS Γ e ρ st Q->fS Γ e ρ st Q'
 | .seq a,ρ,st,Q,Q',h,q=>by
  skip
  refine ae G a (fun x st1 z=>?_) q;obtain⟨c,e,z⟩:=z;exact⟨c,e,h _ _ _ z⟩
 | .range1 a,ρ,st,Q,Q',h,q=>by
  skip
  refine ae G a (fun x st1 z=>?_) q;obtain⟨c,e,h1,h2,z⟩:=z;exact⟨c,e,h1,h2,h _ _ _ z⟩
 | .range2 a b,ρ,st,Q,Q',h,q=>by
  skip
  refine ae G a (fun x st1 z=>ae G b (fun y st2 z=>?_) z) q;obtain⟨i,j,e,e2,h1,z⟩:=z;exact⟨i,j,e,e2,h1,h _ _ _ z⟩
 | .zip a b,ρ,st,Q,Q',h,q=>by
  skip
  refine ae G a (fun x st1 z=>ae G b (fun y st2 z=>?_) z) q;obtain⟨i,j,e,e2,z⟩:=z;exact⟨i,j,e,e2,h _ _ _ z⟩
 | .enum a,ρ,st,Q,Q',h,q=>by
  skip
  refine ae G a (fun x st1 z=>?_) q;obtain⟨c,e,z⟩:=z;exact⟨c,e,h _ _ _ z⟩
 | .chars a,ρ,st,Q,Q',h,q=>by refine ae G a (fun x st1 z=>?_) q;obtain⟨c,e,z⟩:=z;exact⟨c,e,h _ _ _ z⟩
 | .zip3 _ _ _,ρ,st,Q,Q',h,q=>False.elim q
 | .range3 a b c,ρ,st,Q,Q',h,q=>by refine ae G a (fun x st1 z=>ae G b (fun y st2 z=>ae G c (fun u st3 z=>?_) z) z) q;obtain⟨i,j,k,e,e2,e3,h1,z⟩:=z;exact⟨i,j,k,e,e2,e3,h1,h _ _ _ z⟩
theorem bu (G:aW Γ):∀(t:Tg) {v:PV}{ρ:Fr}{st:AH}{Q Q':Fr->AH->Prop},(∀ρ st,Q ρ st->Q' ρ st)->eN Γ t v ρ st Q->eN Γ t v ρ st Q'
 | .name i,v,ρ,st,Q,Q',h,q=>by exact h _ _ q
 | .tup ts,v,ρ,st,Q,Q',h,q=>by
  skip
  obtain⟨xs,e,hl,q⟩:=q;exact⟨xs,e,hl,i8 G ts h q⟩
 | .ltup ts,v,ρ,st,Q,Q',h,q=>False.elim q
 | .sub o i,v,ρ,st,Q,Q',h,q=>by exact ae G o (fun x st1 z=>ae G i (fun y st2 z=>uD (fun st3 z=>h _ _ z) z) z) q
theorem i8 (G:aW Γ):∀(t:Tgs) {v:List PV}{ρ:Fr}{st:AH}{Q Q':Fr->AH->Prop},(∀ρ st,Q ρ st->Q' ρ st)->jT Γ t v ρ st Q->jT Γ t v ρ st Q'
 | .nil,v,ρ,st,Q,Q',h,q=>by exact⟨q.1,h _ _ q.2⟩
 | .cons t ts,v,ρ,st,Q,Q',h,q=>by
  skip
  obtain⟨x,r,e,q⟩:=q;exact⟨x,r,e,bu G t (fun ρ' st' z=>i8 G ts h z) q⟩
end
structure jt (D D':aK):Prop where
 nx:∀ρ st,D.nx ρ st->D'.nx ρ st
 rt:∀v st,D.rt v st->D'.rt v st
 bk:∀ρ st,D.bk ρ st->D'.bk ρ st
 ct:∀ρ st,D.ct ρ st->D'.ct ρ st
theorem ow {body body':PV->Fr->AH->aK->Prop}{D:aK}(hD:jt D D')(hb:∀x ρ st D D',jt D D'->body x ρ st D->body' x ρ st D') :
  ∀ {xs:List PV}{ρ:Fr}{st:AH},vB chk body D xs ρ st->vB chk body' D' xs ρ st
 | [],ρ,st,q=>⟨q.1,hD.nx _ _ q.2⟩
 | x::xs,ρ,st,q=>by refine⟨q.1,hb _ _ _ _ _ ?_ q.2⟩;exact⟨fun _ _ z=>ow hD hb z,hD.rt,hD.nx,fun _ _ z=>ow hD hb z⟩
theorem jL {c:Fr->AH->BK->Prop}{body:Fr->AH->aK->Prop}{D:aK}(hD:jt D D')(hc:∀ρ st Q Q',(∀b st,Q b st->Q' b st)->c ρ st Q->c ρ st Q')(hb:∀ρ st D D',jt D D'->body ρ st D->body ρ st D'):∀ {n:Nat}{ρ:Fr}{st:AH},gE c body D n ρ st->gE c body D' n ρ st
 | 0,ρ,st,q=>q
 | n+1,ρ,st,q=>hc _ _ _ _ (fun b st1 z=>by
  cases b with
  | true =>
   rw[QA rfl] at z |-
   refine hb _ _ _ _ ?_ z;exact⟨fun _ _ z=>jL hD hc hb z,hD.rt,hD.nx,fun _ _ z=>jL hD hc hb z⟩
  | false=>rw[QC P5] at z |-;exact hD.nx _ _ z) q
mutual
theorem j8 (G:aW Γ):∀(s:S) {ρ:Fr}{st:AH}{D D':aK},jt D D'->wpS Γ s ρ st D->wpS Γ s ρ st D'
 | .set t e,ρ,st,D,D',h,q=>by exact ae G e (fun v st1 z=>bu G t h.nx z) q
 | .par i j a b,ρ,st,D,D',h,q=>by exact ae G a (fun v st1 z=>ae G b (fun w st2 z=>h.nx _ _ z) z) q
 | .aug i op e,ρ,st,D,D',h,q=>False.elim q
 | .expr e,ρ,st,D,D',h,q=>by exact ae G e (fun v st1 z=>h.nx _ _ z) q
 | .ret e,ρ,st,D,D',h,q=>by exact ae G e h.rt q
 | .retN,ρ,st,D,D',h,q=>by exact h.rt _ _ q
 | .ifS c a b,ρ,st,D,D',h,q=>by
  skip
  refine aP G c (fun k st1 z=>?_) q;cases k with
  | true=>rw[QA rfl] at z |-;exact aR G a h z
  | false=>rw[QC P5] at z |-;exact aR G b h z
 | .whileS c b,ρ,st,D,D',h,q=>by
  skip
  obtain⟨n,q⟩:=q;refine⟨n,jL h (c:=wpT Γ c) (body:=aw Γ b) ?_ ?_ q⟩
  ·exact fun _ _ _ _ hk z=>aP G c hk z
  ·exact fun _ _ _ _ hk z=>aR G b hk z
 | .forS t it b,ρ,st,D,D',h,q=>by
  skip
  exact cu G it (fun xs chk st1 z=>ow h (fun x ρ st D D' hd w=>bu G t (fun ρ2 st2 w=>aR G b hd w) w) z) q
 | .forK _ _ _ _,ρ,st,D,D',h,q=>False.elim q
 | .pass,ρ,st,D,D',h,q=>by exact h.nx _ _ q
 | .bad,ρ,st,D,D',h,q=>False.elim q
 | .set2 i j e,ρ,st,D,D',h,q=>by exact ae G e (fun v st1 z=>h.nx _ _ z) q
 | .brk,ρ,st,D,D',h,q=>by exact h.bk _ _ q
 | .cont,ρ,st,D,D',h,q=>by exact h.ct _ _ q
theorem aR (G:aW Γ):∀(s:Ss) {ρ:Fr}{st:AH}{D D':aK},jt D D'->aw Γ s ρ st D->aw Γ s ρ st D'
 | .nil,ρ,st,D,D',h,q=>by exact h.nx _ _ q
 | .cons s ss,ρ,st,D,D',h,q=>by
  skip
  refine j8 G s ?_ q;exact⟨fun _ _ z=>aR G ss h z,h.rt,h.bk,h.ct⟩
end
end
end FW
namespace FW
open L2 HX
def RdF (K:W.Frag)(H:Hp)(a:Addr)(ys:List V):Prop :=
 (∃o,H a=some (.frz o (.lst ys)))\/∃(o:Obj) (its:Array Value) (n:Nat),K.lookup a=some o/\o.cls=.type "list"/\o.dict=none/\o.data=.seq its n/\its.size<=sizeLine/\Vals ys its.toList
theorem RdF.sq (h:RdF K H a ys):SqL K H a ys:=by
 rcases h with h|h
 ·exact .inl (.inr h)
 ·exact .inr h
mutual
noncomputable def R (K:W.Frag)(m:List Addr)(H:Hp):PV->V->Prop
 | .non,v=>v=.non
 | .bl b,v=>v=.bl b
 | .int i,v=>v=.int i
 | .str x,v=>v=.str x
 | .ref n,v=>∃a,m[n]?=some a/\v=.ref a
 | .tup xs,v=>∃a ys,v=.ref a/\SqT K H a ys/\Rs K m H xs ys
 | .rdl xs,v=>∃a ys,v=.ref a/\RdF K H a ys/\Rs K m H xs ys
 | .fn a,v=>v=.ref a
noncomputable def Rs (K:W.Frag)(m:List Addr)(H:Hp):List PV->List V->Prop
 | [],ys=>ys=[]
 | x::xs,ys=>∃y r,ys=y::r/\R K m H x y/\Rs K m H xs r
end
section
variable {K:W.Frag}{m m':List Addr}{H H':Hp}{v:V}{vs:List V}
theorem R_non:R K m H .non v↔v=.non:=by rw[R]
theorem R_bl:R K m H (.bl b) v↔v=.bl b:=by rw[R]
theorem R_int:R K m H (.int b) v↔v=.int b:=by rw[R]
theorem R_str:R K m H (.str b) v↔v=.str b:=by rw[R]
theorem jR:R K m H (.ref n) v↔∃a,m[n]?=some a/\v=.ref a:=by rw[R]
theorem R_tup:R K m H (.tup xs) v↔∃a ys,v=.ref a/\SqT K H a ys/\Rs K m H xs ys:=by rw[R]
theorem gX:R K m H (.rdl xs) v↔∃a ys,v=.ref a/\RdF K H a ys/\Rs K m H xs ys:=by rw[R]
theorem R_fn:R K m H (.fn a) v↔v=.ref a:=by rw[R]
theorem Rs_nil:Rs K m H [] vs↔vs=[]:=by rw[Rs]
theorem bh {x:PV}{xs:List PV}:Rs K m H (x::xs) vs↔∃y r,vs=y::r/\R K m H x y/\Rs K m H xs r:=by rw[Rs]
theorem Rs_cons' {x:PV}{xs:List PV}:Rs K m H (x::xs) (v::vs)↔R K m H x v/\Rs K m H xs vs:=by
 rw[bh];constructor
 ·rintro⟨_,_,e,h1,h2⟩;cases e;exact⟨h1,h2⟩
 ·rintro⟨h1,h2⟩;exact⟨_,_,rfl,h1,h2⟩
theorem Rs.len:∀ {xs:List PV}{ys:List V},Rs K m H xs ys->xs.length=ys.length
 | [],ys,h=>by rw[Rs_nil] at h;subst h;rfl
 | x::xs,ys,h=>by rw[bh] at h;obtain⟨y,r,rfl,_,h⟩:=h;simp[Rs.len h]
theorem Rs.get:∀ {xs:List PV}{ys:List V}{i:Nat}{x:PV},Rs K m H xs ys->xs[i]?=some x->∃y,ys[i]?=some y/\R K m H x y
 | [],ys,i,x,h,e=>by simp at e
 | x::xs,ys,i,z,h,e=>by
  rw[bh] at h;obtain⟨y,r,rfl,h1,h⟩:=h;cases i with
  | zero=>simp at e;subst e;exact⟨y,rfl,h1⟩
  | succ i =>obtain⟨w,e1,e2⟩:=Rs.get h (by simpa using e);exact⟨w,by simpa using e1,e2⟩
theorem Rs.app:∀ {xs zs:List PV}{ys ws:List V},Rs K m H xs ys->Rs K m H zs ws->Rs K m H (xs++zs) (ys++ws)
 | [],zs,ys,ws,h,h'=>by rw[Rs_nil] at h;subst h;exact h'
 | x::xs,zs,ys,ws,h,h'=>by rw[bh] at h;obtain⟨y,r,rfl,h1,h⟩:=h;rw[List.cons_append,bh];exact⟨y,r++ws,rfl,h1,h.app h'⟩
theorem Rs.drop:∀ {xs:List PV}{ys:List V} (n:Nat),Rs K m H xs ys->Rs K m H (xs.drop n) (ys.drop n)
 | xs,ys,0,h=>by simpa using h
 | [],ys,n+1,h=>by rw[Rs_nil] at h;subst h;simp[Rs_nil]
 | x::xs,ys,n+1,h=>by rw[bh] at h;obtain⟨y,r,rfl,h1,h⟩:=h;simpa using Rs.drop n h
theorem Rs.take:∀ {xs:List PV}{ys:List V} (n:Nat),Rs K m H xs ys->Rs K m H (xs.take n) (ys.take n)
 | xs,ys,0,h=>by simp[Rs_nil]
 | [],ys,n+1,h=>by rw[Rs_nil] at h;subst h;simp[Rs_nil]
 | x::xs,ys,n+1,h=>by rw[bh] at h;obtain⟨y,r,rfl,h1,h⟩:=h;rw[List.take_succ_cons,List.take_succ_cons,Rs_cons'];exact⟨h1,Rs.take n h⟩
theorem Rs.set (hx:R K m H x y):∀ {xs:List PV}{ys:List V} (n:Nat),Rs K m H xs ys->Rs K m H (xs.set n x) (ys.set n y)
 | [],ys,n,h=>by rw[Rs_nil] at h;subst h;simp[Rs_nil]
 | z::xs,ys,0,h=>by rw[bh] at h;obtain⟨w,r,rfl,h1,h⟩:=h;rw[List.set_cons_zero,List.set_cons_zero,Rs_cons'];exact⟨hx,h⟩
 | z::xs,ys,n+1,h=>by rw[bh] at h;obtain⟨w,r,rfl,h1,h⟩:=h;rw[List.set_cons_succ,List.set_cons_succ,Rs_cons'];exact⟨h1,Rs.set hx n h⟩
theorem Rs.cut (h:Rs K m H xs ys)(lo hi:Option Int):Rs K m H (kM xs lo hi) (tw ys lo hi):=by unfold kM tw;rw[h.len];exact(h.drop _).take _
theorem Rs.atI (h:Rs K m H xs ys)(e:atI xs i=some x):∃y,L2.atI ys i=some y/\R K m H x y:=by
 unfold L2.atI at e |-
 rw[h.len] at e;cases q:ixN ys.length i with
 | none=>rw[q] at e;cases e
 | some j =>rw[q] at e;obtain⟨y,e1,e2⟩:=h.get (show xs[j]?=some x from e);exact⟨y,e1,e2⟩
theorem Rs.dropLast (h:Rs K m H xs ys):Rs K m H xs.dropLast ys.dropLast:=by rw[List.dropLast_eq_take,List.dropLast_eq_take,h.len];exact h.take _
theorem Rs.rep (h:Rs K m H xs ys):∀n:Nat,Rs K m H (List.replicate n xs).flatten (List.replicate n ys).flatten
 | 0=>by simp[Rs_nil]
 | n+1=>by rw[RK,RK,SE,SE];exact h.app (Rs.rep h n)
theorem Rs.one (h:R K m H x y):Rs K m H [x] [y]:=by rw[Rs_cons',Rs_nil];exact⟨h,rfl⟩
end
noncomputable def aV:List Str:=["coming","latest","through"]
def TB (K:W.Frag)(H:Hp):Prop:=∀x∈aV,∀c T,W.tabIn K x=some (c,T)->(∀y∈aV,∀d,W.tabIn K y=some (d,T)->y=x)/\∃ps,H T=some (.tbl ps)/\TriplesOk ps.toList /\
 ∀pos cv,codeAmong pos ps.toList=some cv->∃c' oc,cv=.ref c'/\H c'=some (.frz oc (.own 0))/\q9 oc (x++".<locals>."++"<lambda>")
theorem TB.keep {H':Hp}(t:TB K H)(h1:∀a ps,H a=some (.tbl ps)->H' a=some (.tbl ps))(h2:∀a o,H a=some (.frz o (.own 0))->H' a=some (.frz o (.own 0))):TB K H':=fun x hx c T e=>by obtain⟨e0,ps,e1,e2,e3⟩:=t x hx c T e;refine⟨e0,ps,h1 _ _ e1,e2,fun pos cv q=>?_⟩;obtain⟨c',oc,g1,g2,g3⟩:=e3 pos cv q;exact⟨c',oc,g1,h2 _ _ g2,g3⟩
structure Ext (K:W.Frag)(m:List Addr)(H:Hp)(m':List Addr)(H':Hp):Prop where
 pre:m <+: m'
 new:∀a∈m',a∈m\/H a=none
 fr:∀a o,a ∉ m->H a=some o->(∀ps,o≠.tbl ps)->H' a=some o
 tup:∀a ys,SqT K H a ys->SqT K H' a ys
 rdf:∀a ys,RdF K H a ys->RdF K H' a ys
 tbs:∀a ps,a ∉ m->H a=some (.tbl ps)->∃ps',H' a=some (.tbl ps')
 tb:TB K H->TB K H'
 frz:∀a o u,H a=some (.frz o u)->H' a=some (.frz o u)
theorem Ext.refl (K:W.Frag)(m:List Addr)(H:Hp):Ext K m H m H:=⟨S0 _,fun _ h=>.inl h,fun _ _ _ h _=>h,fun _ _ h=>h,fun _ _ h=>h,fun _ ps _ h=>⟨ps,h⟩,fun h=>h,fun _ _ _ h=>h⟩
theorem Ext.ne (x:Ext K m H m' H'){a:Addr}(hm:a ∉ m)(e:H a=some o):H' a≠none:=fun z=>by
 by_cases h:∃ps,o=.tbl ps
 ·obtain⟨ps,rfl⟩:=h;obtain⟨q,e2⟩:=x.tbs a ps hm e;rw[e2] at z;cases z
 ·rw[x.fr a o hm e fun ps q=>h ⟨ps,q⟩] at z;cases z
theorem Ext.trans (a:Ext K m H m1 H1)(b:Ext K m1 H1 m2 H2):Ext K m H m2 H2:=by
 have nin:∀c o,c ∉ m->H c=some o->c ∉ m1:=fun c o h e z=>by
  rcases a.new c z with q|q
  ·exact h q
  ·rw[e] at q;cases q
 refine⟨a.pre.trans b.pre,fun c hc=>?_,fun c o h e n=>b.fr c o (nin c o h e) (a.fr c o h e n) n,fun c ys h=>b.tup c ys (a.tup c ys h),fun c ys h=>b.rdf c ys (a.rdf c ys h),fun c ps h e=>let ⟨p1,e1⟩:=a.tbs c ps h e;b.tbs c p1 (nin c _ h e) e1,fun h=>b.tb (a.tb h),fun c o u h=>b.frz c o u (a.frz c o u h)⟩;rcases b.new c hc with q|q
 ·exact a.new c q
 ·by_cases hm:c∈m
  ·exact .inl hm
  ·cases e:H c with
   | none=>exact .inr rfl
   | some o=>exact absurd q (a.ne hm e)
theorem l9 {m:List Addr}(h:m <+: m'){n:Nat}(e:m[n]?=some a):m'[n]?=some a:=by obtain⟨t,rfl⟩:=h;rw[QT (P8.mp e).1];exact e
mutual
theorem R.mono (x:Ext K m H m' H'):∀ {p:PV}{v:V},R K m H p v->R K m' H' p v
 | .non,v,h=>by rw[R_non] at h |-;exact h
 | .bl b,v,h=>by rw[R_bl] at h |-;exact h
 | .int b,v,h=>by rw[R_int] at h |-;exact h
 | .str b,v,h=>by rw[R_str] at h |-;exact h
 | .ref n,v,h=>by rw[jR] at h |-;obtain⟨a,e,q⟩:=h;exact⟨a,l9 x.pre e,q⟩
 | .tup xs,v,h=>by rw[R_tup] at h |-;obtain⟨a,ys,e,q,r⟩:=h;exact⟨a,ys,e,x.tup _ _ q,Rs.mono x r⟩
 | .rdl xs,v,h=>by rw[gX] at h |-;obtain⟨a,ys,e,q,r⟩:=h;exact⟨a,ys,e,x.rdf _ _ q,Rs.mono x r⟩
 | .fn b,v,h=>by rw[R_fn] at h |-;exact h
theorem Rs.mono (x:Ext K m H m' H'):∀ {ps:List PV}{vs:List V},Rs K m H ps vs->Rs K m' H' ps vs
 | [],vs,h=>by rw[Rs_nil] at h |-;exact h
 | p::ps,vs,h=>by
  rw[bh] at h |-
  obtain⟨y,r,e,h1,h2⟩:=h;exact⟨y,r,e,R.mono x h1,Rs.mono x h2⟩
end
mutual
theorem R.cut {m:List Addr}:∀ {p:PV}{v:V},R K m H p v->p.bec k=true->R K (m.take k) H p v
 | .non,v,h,_=>by rw[R_non] at h |-;exact h
 | .bl b,v,h,_=>by rw[R_bl] at h |-;exact h
 | .int b,v,h,_=>by rw[R_int] at h |-;exact h
 | .str b,v,h,_=>by rw[R_str] at h |-;exact h
 | .ref n,v,h,z=>by
  rw[jR] at h |-
  obtain⟨a,e,q⟩:=h;rw[PV.bec] at z;exact⟨a,by rw[SH (RB z)];exact e,q⟩
 | .tup xs,v,h,z=>by
  rw[R_tup] at h |-
  obtain⟨a,ys,e,q,r⟩:=h;rw[PV.bec] at z;exact⟨a,ys,e,q,Rs.cutm r z⟩
 | .rdl xs,v,h,z=>by
  rw[gX] at h |-
  obtain⟨a,ys,e,q,r⟩:=h;rw[PV.bec] at z;exact⟨a,ys,e,q,Rs.cutm r z⟩
 | .fn b,v,h,_=>by rw[R_fn] at h |-;exact h
theorem Rs.cutm {m:List Addr}:∀ {ps:List PV}{vs:List V},Rs K m H ps vs->PV.becs k ps=true->Rs K (m.take k) H ps vs
 | [],vs,h,_=>by rw[Rs_nil] at h |-;exact h
 | p::ps,vs,h,z=>by
  rw[bh] at h |-
  obtain⟨y,r,e,h1,h2⟩:=h;rw[PV.becs,QB] at z;exact⟨y,r,e,R.cut h1 z.1,Rs.cutm h2 z.2⟩
end
mutual
theorem R.bel {m:List Addr}:∀ {p:PV}{v:V},R K m H p v->p.bec m.length=true
 | .non,v,h=>by rw[PV.bec]
 | .bl b,v,h=>by rw[PV.bec]
 | .int b,v,h=>by rw[PV.bec]
 | .str b,v,h=>by rw[PV.bec]
 | .ref n,v,h=>by rw[jR] at h;obtain⟨a,e,q⟩:=h;rw[PV.bec];exact QM (P8.mp e).1
 | .tup xs,v,h=>by rw[R_tup] at h;obtain⟨a,ys,e,q,r⟩:=h;rw[PV.bec];exact Rs.bel r
 | .rdl xs,v,h=>by rw[gX] at h;obtain⟨a,ys,e,q,r⟩:=h;rw[PV.bec];exact Rs.bel r
 | .fn b,v,h=>by rw[PV.bec]
theorem Rs.bel {m:List Addr}:∀ {ps:List PV}{vs:List V},Rs K m H ps vs->PV.becs m.length ps=true
 | [],vs,h=>by rw[PV.becs]
 | p::ps,vs,h=>by rw[bh] at h;obtain⟨y,r,e,h1,h2⟩:=h;rw[PV.becs,QB];exact⟨R.bel h1,Rs.bel h2⟩
end
noncomputable def CellR (K:W.Frag)(m:List Addr)(H:Hp):Cell->Addr->Prop
 | .lst xs,a=>∃ys,H a=some (.lst ys)/\Rs K m H xs ys
 | .dk kvs,a=>∃ys,H a=some (.dK ys)/\ys.map (·.1)=kvs.map (·.1)/\Rs K m H (kvs.map (·.2)) (ys.map (·.2))
 | .fz kvs,a=>∃o ys,H a=some (.frz o (.dK ys))/\ys.map (·.1)=kvs.map (·.1)/\Rs K m H (kvs.map (·.2)) (ys.map (·.2))
theorem CellR.mono (x:Ext K m H m' H')(h:CellR K m H c a)(e:H' a=H a):CellR K m' H' c a:=by
 cases c with
 | lst xs=>obtain⟨ys,h1,h2⟩:=h;exact⟨ys,e.trans h1,h2.mono x⟩
 | dk kvs=>obtain⟨ys,h1,h2,h3⟩:=h;exact⟨ys,e.trans h1,h2,h3.mono x⟩
 | fz kvs=>obtain⟨o,ys,h1,h2,h3⟩:=h;exact⟨o,ys,e.trans h1,h2,h3.mono x⟩
theorem CellR.ex (h:CellR K m H c a):∃o,H a=some o/\(∀ys,o≠.tup ys)/\∀u p,o=.frz u p->∃ys,p=.dK ys:=by
 cases c with
 | lst xs=>obtain⟨ys,h1,h2⟩:=h;exact⟨_,h1,⟨fun _ z=>(by cases z),fun _ _ z=>(by cases z)⟩⟩
 | dk kvs=>obtain⟨ys,h1,h2,h3⟩:=h;exact⟨_,h1,⟨fun _ z=>(by cases z),fun _ _ z=>(by cases z)⟩⟩
 | fz kvs=>obtain⟨o,ys,h1,h2,h3⟩:=h;exact⟨_,h1,⟨fun _ z=>(by cases z),fun _ _ z=>(by cases z;exact⟨ys,rfl⟩)⟩⟩
theorem CellR.cut (h:CellR K m H c a)(z:c.bec k=true):CellR K (m.take k) H c a:=by
 cases c with
 | lst xs=>obtain⟨ys,h1,h2⟩:=h;exact⟨ys,h1,h2.cutm z⟩
 | dk kvs=>obtain⟨ys,h1,h2,h3⟩:=h;exact⟨ys,h1,h2,h3.cutm z⟩
 | fz kvs=>obtain⟨o,ys,h1,h2,h3⟩:=h;exact⟨o,ys,h1,h2,h3.cutm z⟩
theorem CellR.bel (h:CellR K m H c a):c.bec m.length=true:=by
 cases c with
 | lst xs=>obtain⟨ys,h1,h2⟩:=h;exact h2.bel
 | dk kvs=>obtain⟨ys,h1,h2,h3⟩:=h;exact h3.bel
 | fz kvs=>obtain⟨o,ys,h1,h2,h3⟩:=h;exact h3.bel
structure RH (K:W.Frag)(m:List Addr)(H:Hp)(st:AH):Prop where
 len:m.length=st.length
 nd:m.Nodup
 at_:∀(n:Nat) (c:Cell) (a:Addr),st[n]?=some c->m[n]?=some a->CellR K m H c a
 tb:TB K H
section
variable {K:W.Frag}{m m':List Addr}{H H':Hp}{st:AH}
theorem RH.get {n:Nat}(h:RH K m H st)(e:st[n]?=some c):∃a,m[n]?=some a/\CellR K m H c a:=by
 have:n<m.length:=by rw[h.len];exact(P8.mp e).1
 exact⟨m[n],by simp[this],h.at_ n c _ e (by simp[this])⟩
theorem RH.mem {a:Addr}(h:RH K m H st)(e:a∈m):∃o,H a=some o/\(∀ys,o≠.tup ys)/\∀u p,o=.frz u p->∃ys,p=.dK ys:=by
 obtain⟨n,hn,rfl⟩:=List.mem_iff_getElem.mp e;have:n<st.length:=by rw[<-h.len];exact hn
 exact(h.at_ n st[n] _ (by simp[this]) (by simp[hn])).ex
theorem RH.mem_tbl {a:Addr}(h:RH K m H st)(e:a∈m):H a≠some (.tbl ps):=fun z=>by
 obtain⟨n,hn,rfl⟩:=List.mem_iff_getElem.mp e;have:n<st.length:=by rw[<-h.len];exact hn
 have c:=h.at_ n st[n] m[n] (by simp[this]) (by simp[hn]);cases q:st[n] with
 | lst xs=>rw[q] at c;obtain⟨ys,h1,_⟩:=c;rw[h1] at z;cases z
 | dk xs=>rw[q] at c;obtain⟨ys,h1,_⟩:=c;rw[h1] at z;cases z
 | fz xs=>rw[q] at c;obtain⟨o,ys,h1,_⟩:=c;rw[h1] at z;cases z
theorem RH.lst {n:Nat}(h:RH K m H st)(e:st[n]?=some (.lst xs))(r:R K m H (.ref n) v):∃a ys,v=.ref a/\m[n]?=some a/\H a=some (.lst ys)/\Rs K m H xs ys:=by rw[jR] at r;obtain⟨a,e1,rfl⟩:=r;obtain⟨ys,h1,h2⟩:=h.at_ n _ a e e1;exact⟨a,ys,rfl,e1,h1,h2⟩
theorem RH.fresh (h:RH K m H st)(e:H p=none):p ∉ m:=fun z=>by obtain⟨o,q,_⟩:=h.mem z;rw[e] at q;cases q
theorem Ext.newT (h:RH K m H st)(e:H p=none):Ext K m H m (upd H p o):=by
 refine⟨S0 _,fun _ z=>.inl z,fun a u _ q _=>?_,fun a ys q=>?_,fun a ys q=>?_,fun a ps _ q=>⟨ps,by rw[ak (aI q e)];exact q⟩,fun t=>t.keep (fun a ps q=>by rw[ak (aI q e)];exact q) fun a o q=>by rw[ak (aI q e)];exact q,fun a o u q=>by rw[ak (aI q e)];exact q⟩
 ·rw[ak (aI q e)];exact q
 ·rcases q with (q|⟨u,q⟩)|q
  ·exact .inl (.inl (by rw[ak (aI q e)];exact q))
  ·exact .inl (.inr ⟨u,by rw[ak (aI q e)];exact q⟩)
  ·exact .inr q
 ·rcases q with⟨u,q⟩|q
  ·exact .inl ⟨u,by rw[ak (aI q e)];exact q⟩
  ·exact .inr q
theorem RH.keep (h:RH K m H st)(x:Ext K m H m H')(e:∀a∈m,H' a=H a):RH K m H' st :=
 ⟨h.len,h.nd,fun n c a h1 h2=>(h.at_ n c a h1 h2).mono x (e a (P_ h2)),x.tb h.tb⟩
theorem RH.newT (h:RH K m H st)(e:H p=none):RH K m (upd H p o) st :=
 h.keep (Ext.newT h e) fun a ha=>ak fun z=>h.fresh e (z ▸ ha)
theorem Ext.new1 (h:RH K m H st)(e:H p=none):Ext K m H (m++[p]) (upd H p o):=by
 have q:=Ext.newT (o:=o) h e;refine⟨UC _ _,fun a z=>?_,q.fr,q.tup,q.rdf,q.tbs,q.tb,q.frz⟩;rcases Q5.mp z with z|z
 ·exact .inl z
 ·rw[QI] at z;subst z;exact .inr e
theorem RH.new1 (h:RH K m H st)(e:H p=none)(hc:CellR K (m++[p]) (upd H p o) c p):RH K (m++[p]) (upd H p o) (st++[c]):=by
 have x:=Ext.new1 (o:=o) h e;refine⟨by simp[h.len],SV.mpr ⟨h.nd,QH.mpr ⟨by simp,UZ⟩,fun a ha b hb z=>?_⟩,fun n c' a h1 h2=>?_,x.tb h.tb⟩
 ·rw[QI] at hb;subst hb;exact h.fresh e (z ▸ ha)
 ·by_cases hn:n<st.length
  ·rw[QT hn] at h1;rw[QT (by rw[h.len];exact hn)] at h2;exact(h.at_ n c' a h1 h2).mono x (ak fun z=>h.fresh e (z ▸ P_ h2))
  ·rw[QV (by omega)] at h1;rw[QV (by rw[h.len];omega)] at h2;have hl:=h.len;by_cases hz:n-st.length=0
   ·rw[hz] at h1;rw[show n-m.length=0 by omega] at h2;simp at h1 h2;subst h1 h2;exact hc
   ·rw[RW (by simp;omega)] at h1;cases h1
theorem RH.newL (h:RH K m H st)(e:H p=none)(r:Rs K m H xs ys):RH K (m++[p]) (upd H p (.lst ys)) (st++[.lst xs]) :=
 h.new1 e ⟨ys,bY,r.mono (Ext.new1 h e)⟩
theorem R.last {p:Addr}{n:Nat}(h:m.length=n):R K (m++[p]) H (.ref n) (.ref p):=by rw[jR];exact⟨p,by rw[<-h];simp,rfl⟩
theorem nfL {H:Hp}(g:H a=some (.lst ys)):∀w v,H a≠some (.frz w v):=fun _ _ z=>by rw[g] at z;cases z
theorem Ext.set {n:Nat}{ys:List V}(h:RH K m H st)(e:m[n]?=some a)(hz:∀w v,H a≠some (.frz w v)):Ext K m H m (upd H a o):=by
 have hm:=P_ e;obtain⟨u,hu,h1,h2⟩:=h.mem hm;refine⟨S0 _,fun _ z=>.inl z,fun b w hb q _=>?_,fun b zs q=>?_,fun b zs q=>?_,fun b ps hb q=>⟨ps,by rw[ak (show b≠a from fun z=>hb (by rw[z];exact hm))];exact q⟩,fun t=>t.keep (fun b ps q=>by rw[ak (fun z=>by subst z;exact h.mem_tbl hm q)];exact q) fun b w q=>by rw[ak (fun z=>by subst z;exact hz _ _ q)];exact q,fun b w v q=>by rw[ak (fun z=>by subst z;exact hz _ _ q)];exact q⟩
 ·have hne:b≠a:=fun z=>hb (by rw[z];exact hm);rw[ak hne];exact q
 ·rcases q with (q|⟨w,q⟩)|q
  ·exact .inl (.inl (by rw[ak (fun z=>by subst z;rw[hu] at q;cases q;exact h1 _ rfl)];exact q))
  ·exact .inl (.inr ⟨w,by rw[ak (fun z=>by subst z;exact hz _ _ q)];exact q⟩)
  ·exact .inr q
 ·rcases q with⟨w,q⟩|q
  ·exact .inl ⟨w,by rw[ak (fun z=>by subst z;exact hz _ _ q)];exact q⟩
  ·exact .inr q
theorem Cc {m:List Addr}(h:m.Nodup){i j:Nat}(e:m[i]?=some a)(e':m[j]?=some a):i=j:=by obtain⟨h1,h2⟩:=P8.mp e;obtain⟨h3,h4⟩:=P8.mp e';exact(List.getElem_inj h).mp (h2.trans h4.symm)
theorem RH.setL {n:Nat}(h:RH K m H st)(e:m[n]?=some a)(hz:∀w v,H a≠some (.frz w v))(r:Rs K m H xs ys):RH K m (upd H a (.lst ys)) (st.set n (.lst xs)):=by
 have x:Ext K m H m (upd H a (.lst ys)):=Ext.set (ys:=ys) h e hz;refine⟨by simp[h.len],h.nd,fun k c b h1 h2=>?_,x.tb h.tb⟩;by_cases hk:k=n
 ·subst hk;rw[e] at h2;cases h2;have hl:k<st.length:=by rw[<-h.len];exact(P8.mp e).1
  rw[Q6 hl] at h1;cases h1;exact⟨ys,bY,r.mono x⟩
 ·rw[Q7 (fun z=>hk z.symm)] at h1;exact(h.at_ k c b h1 h2).mono x (ak fun z=>hk (Cc h.nd h2 (z ▸ e)))
end
structure RF (K:W.Frag)(m:List Addr)(H:Hp)(ρ:Fr)(σ:L2.St):Prop where
 len:ρ.length=σ.length
 at_:∀(i:Nat) v,ρ[i]?=some (some v)->∃x,σ[i]?=some (some x)/\R K m H v x
theorem RF.mono (h:RF K m H ρ σ)(x:Ext K m H m' H'):RF K m' H' ρ σ :=
 ⟨h.len,fun i v e=>let ⟨y,e1,r⟩:=h.at_ i v e;⟨y,e1,r.mono x⟩⟩
theorem RF.set (h:RF K m H ρ σ)(i:Nat)(r:R K m H v x):RF K m H (ρ.set i (some v)) (σ.set i (some x)):=by
 refine⟨by simp[h.len],fun j w e=>?_⟩;by_cases hj:i=j
 ·subst hj;have hl:i<ρ.length:=by have:=(P8.mp e).1;simpa using this
  rw[Q6 hl] at e;cases e;exact⟨x,by rw[Q6 (h.len ▸ hl)],r⟩
 ·rw[Q7 hj] at e;rw[Q7 hj];exact h.at_ j w e
noncomputable def post (K:W.Frag)(m:List Addr)(H:Hp)(Q:VK):EK:=fun v st'=>∀m' H' x,Ext K m H m' H'->RH K m' H' st'->R K m' H' v x->Q x H'
noncomputable def postB (K:W.Frag)(m:List Addr)(H:Hp)(Q:Bool->Hp->Prop):BK:=fun v st'=>∀m' H',Ext K m H m' H'->RH K m' H' st'->Q v H'
noncomputable def O4 (K:W.Frag)(m:List Addr)(H:Hp)(Q:List V->Hp->Prop):LK:=fun vs st'=>∀m' H' xs,Ext K m H m' H'->RH K m' H' st'->Rs K m' H' vs xs->Q xs H'
noncomputable def TEx (K:W.Frag)(w:Fr->AH->EK->Prop):TE:=fun σ H Q=>∃m ρ st,RF K m H ρ σ/\RH K m H st/\w ρ st (post K m H Q)
noncomputable def TTx (K:W.Frag)(w:Fr->AH->BK->Prop):TT:=fun σ H Q=>∃m ρ st,RF K m H ρ σ/\RH K m H st/\w ρ st (postB K m H Q)
noncomputable def TAx (K:W.Frag)(w:Fr->AH->LK->Prop):TA:=fun σ H Q=>∃m ρ st,RF K m H ρ σ/\RH K m H st/\w ρ st (O4 K m H Q)
theorem post.ext (x:Ext K m H m1 H1)(q:post K m H Q v st):post K m1 H1 Q v st:=fun m' H' y e r s=>q m' H' y (x.trans e) r s
theorem postB.ext (x:Ext K m H m1 H1)(q:postB K m H Q v st):postB K m1 H1 Q v st:=fun m' H' e r=>q m' H' (x.trans e) r
noncomputable def MK (K:W.Frag)(w:PV->PV->AH->EK->Prop):R2:=fun x' y' H Q=>∃m st x y,RH K m H st/\R K m H x x'/\R K m H y y'/\w x y st (post K m H Q)
noncomputable def OL (K:W.Frag)(w:List PV->AH->EK->Prop):List V->Hp->VK->Prop:=fun xs' H Q=>∃m st xs,RH K m H st/\Rs K m H xs xs'/\w xs st (post K m H Q)
end FW
namespace FW
open L2 HX
theorem fI {n:Nat}(h:n<=100000):n<=sizeLine:=by rw[sizeLine_eq];omega
theorem vj {n:Nat}(h:n<100000):n<sizeLine:=by rw[sizeLine_eq];omega
section
variable {X:Cx}
theorem post.here (q:post K m H Q v st)(h:RH K m H st)(r:R K m H v x):Q x H:=q m H x (Ext.refl _ _ _) h r
theorem post.newT (q:post K m H Q (.tup xs) st)(h:RH K m H st)(r:Rs K m H xs ys)(e:H p=none):Q (.ref p) (upd H p (.tup ys)) :=
 q m _ _ (Ext.newT h e) (h.newT e) (R_tup.mpr ⟨p,ys,rfl,SqT.of bY,r.mono (Ext.newT h e)⟩)
theorem post.newL {st:AH}(q:post K m H Q (.ref st.length) (st++[.lst xs]))(h:RH K m H st)(r:Rs K m H xs ys)(e:H p=none):Q (.ref p) (upd H p (.lst ys)) :=
 q _ _ _ (Ext.new1 h e) (h.newL e r) (R.last h.len)
theorem post.setL {st:AH}(q:post K m H Q v (st.set n (.lst xs)))(h:RH K m H st)(e:m[n]?=some a)(hz:∀w v,H a≠some (.frz w v))(r:Rs K m H xs ys)(rv:R K m H v y) :
  Q y (upd H a (.lst ys)):=q _ _ _ (Ext.set (ys:=ys) h e hz) (h.setL e hz r) (rv.mono (Ext.set (ys:=ys) h e hz))
theorem gr (h:RH K m H st)(r:R K m H v x)(e:bG st v=some xs):∃a ys,x=.ref a/\SqL K H a ys/\Rs K m H xs ys:=by
 cases v with
 | rdl zs =>cases e;rw[gX] at r;obtain⟨a,ys,rfl,h1,h2⟩:=r;exact⟨a,ys,rfl,h1.sq,h2⟩
 | ref n =>
  unfold bG at e;simp only at e;split at e
  ·cases e;rename_i q;obtain⟨a,ys,rfl,_,h1,h2⟩:=h.lst q r;exact⟨a,ys,rfl,SqL.of h1,h2⟩
  ·cases e
 | _=>cases e
theorem md (h:RH K m H st)(r:R K m H v x)(e:bN st v=some xs):∃a ys,x=.ref a/\(SqL K H a ys\/SqT K H a ys)/\Rs K m H xs ys:=by
 cases v with
 | tup zs =>cases e;rw[R_tup] at r;obtain⟨a,ys,rfl,h1,h2⟩:=r;exact⟨a,ys,rfl,.inr h1,h2⟩
 | rdl zs =>obtain⟨a,ys,h1,h2,h3⟩:=gr h r e;exact⟨a,ys,h1,.inl h2,h3⟩
 | ref n =>obtain⟨a,ys,h1,h2,h3⟩:=gr h r e;exact⟨a,ys,h1,.inl h2,h3⟩
 | _=>cases e
theorem Pp {E:Value->Shared->Prop}{s:Shared}{ws:List Value}{Q:Value->Shared->Prop}(ht:IsTup s.heap t ([]:List Value).toArray)(hb:IsTup s.heap b ws.toArray)(h:Q (.ref b) s) :
  wpAny (model P w) A (binaryOp .Add (.ref t) (.ref b)) Q E s:=by
 obtain⟨⟨cls,dd,data,sl⟩,ho,hc,n,hd⟩:=id ht;obtain⟨⟨cls2,dd2,data2,sl2⟩,ho2,hc2,n2,hd2⟩:=id hb;simp only at hc hd hc2 hd2;subst hc hd hc2 hd2;exact concat_meets ⟨_,ho,rfl⟩ ⟨_,ho2,rfl⟩ noFill_tuple_add seq_tuple_add TQ TK (S5 _ _)
  (tuple_addW0 t b ([]:List Value).toArray ws.toArray n n2 dd dd2 sl sl2 rfl) ⟨ho,ho2,h⟩
theorem Ip {z:Str}:(Cb z n).length=z.length*n:=by
 have:∀(n:Nat) (a:Array Nat),((List.replicate n z.cps).foldl (·++ ·) a).size=a.size+z.cps.size*n:=by
  intro n
  induction n with
  | zero=>intro a;simp
  | succ n ih=>intro a;rw[RK,S_,ih,Array.size_append,Nat.mul_succ];omega
 have:=this n #[];simpa[Cb,Str.length] using this
theorem Ib:OpR X (binaryOp .Mult) (fun x y H Q=>∃z k,x=.str z/\y=.int k/\2<=k/\k<2 ^ 30/\0<z.length/\z.length*k.toNat<=100000/\Q (.str (Cb z k.toNat)) H):=by
 intro pins s σ H x y v u Q I rx ry h;obtain⟨z,k,rfl,rfl,h1,h2,h3,h4,q⟩:=h;obtain⟨t,rfl⟩:=rx;obtain⟨t',rfl⟩:=ry;have hz:(z.length:Int)<=100000:=by
  have:1<=k.toNat:=by omega
  have:=Nat.le_mul_of_pos_right z.length this;omega
 have e1:(k == 1 || z.length == 0)=false:=by rw[Bool.or_eq_false_iff,T8,T8];omega
 refine PySem.P.mul_str (by rw[Bool.or_eq_false_iff,decide_eq_false_iff_not,decide_eq_false_iff_not];omega) (fun _ _=>?_) (fun _ _=>?_) ?_
 ·have:=Int.le_ediv_of_mul_le (a:=100000) (b:=2 ^ 63-1) (c:=k) (by omega) (by omega);omega
 ·unfold Builtin.Str.tooLong;exact QJ (by rw[sizeLine_eq];omega)
 ·rw[QC (by omega),QC (by rw[e1];exact P5)];exact⟨by rw[show Str.length ⟨_⟩=(Cb z k.toNat).length from rfl,Ip,sizeLine_eq];omega,.str _,H,I.tok _,⟨_,rfl⟩,q⟩
theorem Lj (op:Operator):OpR X (binaryOp op) (MK X.K (kT op)):=by
 intro pins s σ H x' y' v u Q I rx ry h;obtain⟨m,st,x,y,rh,hx,hy,w⟩:=h;cases op with
 | Add =>
  cases x with
  | int i =>
   cases y with
   | int j =>have w:post X.K m H Q (.int (i+j)) st:=w;rw[R_int] at hx hy;subst hx hy;exact L5 pins s σ H _ _ v u Q I rx ry ⟨_,_,rfl,rfl,w.here rh (R_int.mpr rfl)⟩
   | _=>exact False.elim w
  | ref n =>
   cases y with
   | ref k =>obtain⟨xs,ys,h1,h2,h3,w⟩:=w;obtain⟨a,xs',rfl,e1,g1,r1⟩:=rh.lst h1 hx;obtain⟨b,ys',rfl,e2,g2,r2⟩:=rh.lst h2 hy;exact Ll pins s σ H _ _ v u Q I rx ry ⟨a,b,xs',ys',rfl,rfl,g1,g2,by rw[<-r1.len,<-r2.len];exact fI h3,fun p hp=>w.newL rh (r1.app r2) hp⟩
   | _=>exact False.elim w
  | tup xs =>
   cases y with
   | tup ys =>
    obtain⟨h2,w⟩:=w;rw[R_tup] at hx hy;obtain⟨a,xs',rfl,g1,r1⟩:=hx;obtain⟨b,ys',rfl,g2,r2⟩:=hy;by_cases h1:xs'=[]
    ·subst h1;cases rx;cases ry;obtain⟨its1,rv1,p1,_⟩:=I.tuple g1;obtain⟨its2,rv2,p2,_⟩:=I.tuple g2;cases rv1;have e:=r1.len;rw[RZ.mp e,T4] at w;exact Pp p1 p2 ⟨.ref b,H,I,rfl,w.here rh (R_tup.mpr ⟨b,ys',rfl,g2,r2⟩)⟩
    refine Hy pins s σ H _ _ v u Q I rx ry ⟨a,b,xs',ys',rfl,rfl,g1,g2,fun z=>?_,by rw[<-r1.len,<-r2.len];exact fI h2,fun z=>?_,fun z p hp=>w.newT rh (r1.app r2) hp⟩
    ·exact h1 z
    ·subst z;have e:=r2.len;rw[RZ.mp e,SD] at w;exact w.here rh (R_tup.mpr ⟨a,xs',rfl,g1,r1⟩)
   | _=>exact False.elim w
  | str a =>
   cases y with
   | str b =>obtain⟨h2,w⟩:=w;rw[R_str] at hx hy;subst hx hy;exact yW pins s σ H _ _ v u Q I rx ry ⟨_,_,rfl,rfl,fI h2,w.here rh (R_str.mpr rfl)⟩
   | _=>exact False.elim w
  | _=>exact False.elim w
 | Mult =>
  cases x with
  | int i =>
   cases y with
   | int j =>have w:CMB i j/\post X.K m H Q (.int (i*j)) st:=w;rw[R_int] at hx hy;subst hx hy;exact IH pins s σ H _ _ v u Q I rx ry ⟨_,_,rfl,rfl,w.1,w.2.here rh (R_int.mpr rfl)⟩
   | _=>exact False.elim w
  | ref n =>
   cases y with
   | int k =>obtain⟨xs,h1,h2,h3,h4,w⟩:=w;rw[R_int] at hy;subst hy;obtain⟨a,xs',rfl,e1,g1,r1⟩:=rh.lst h1 hx;exact Mc pins s σ H _ _ v u Q I rx ry ⟨a,_,xs',rfl,rfl,g1,h2,h3,by rw[<-r1.len];exact fI h4,fun p hp=>w.newL rh (r1.rep _) hp⟩
   | _=>exact False.elim w
  | str z =>
   cases y with
   | int k =>obtain⟨h1,h2,h3,h4,w⟩:=w;rw[R_int] at hy;subst hy;rw[R_str] at hx;subst hx;exact Ib pins s σ H _ _ v u Q I rx ry ⟨_,_,rfl,rfl,h1,h2,h3,h4,w.here rh (R_str.mpr rfl)⟩
   | _=>exact False.elim w
  | _=>exact False.elim w
 | Sub =>obtain⟨i,j,rfl,rfl,w⟩:=cJ w;rw[R_int] at hx hy;subst hx hy;exact Lc pins s σ H _ _ v u Q I rx ry ⟨_,_,rfl,rfl,w.here rh (R_int.mpr rfl)⟩
 | FloorDiv =>obtain⟨i,j,rfl,rfl,w⟩:=cJ w;rw[R_int] at hx hy;subst hx hy;exact Fv pins s σ H _ _ v u Q I rx ry ⟨_,_,rfl,rfl,w.1,w.2.here rh (R_int.mpr rfl)⟩
 | Mod =>obtain⟨i,j,rfl,rfl,w⟩:=cJ w;rw[R_int] at hx hy;subst hx hy;exact Lz pins s σ H _ _ v u Q I rx ry ⟨_,_,rfl,rfl,w.1,w.2.here rh (R_int.mpr rfl)⟩
 | Pow =>obtain⟨i,j,rfl,rfl,w⟩:=cJ w;rw[R_int] at hx hy;subst hx hy;exact Lm pins s σ H _ _ v u Q I rx ry ⟨_,_,rfl,rfl,w.1,w.2.here rh (R_int.mpr rfl)⟩
 | _=>exact False.elim w
mutual
theorem R.den:∀ {p:PV}{v:V}{d:PyData},R K m H p v->p.toD=some d->(∃xs,d=.list xs)\/Den K H d v
 | .non,v,d,h,e=>by rw[PV.toD] at e;cases e;rw[R_non] at h;exact .inr (den_non.mpr h)
 | .bl b,v,d,h,e=>by rw[PV.toD] at e;cases e;rw[R_bl] at h;exact .inr (den_bl.mpr h)
 | .int b,v,d,h,e=>by rw[PV.toD] at e;cases e;rw[R_int] at h;exact .inr (den_int.mpr h)
 | .str b,v,d,h,e=>by rw[PV.toD] at e;cases e;rw[R_str] at h;exact .inr (den_str.mpr h)
 | .ref n,v,d,h,e=>by rw[PV.toD] at e;cases e
 | .fn n,v,d,h,e=>by rw[PV.toD] at e;cases e
 | .tup xs,v,d,h,e=>by
  rw[PV.toD] at e;cases q:PV.toDs xs with
  | none=>rw[q] at e;cases e
  | some ds =>rw[q] at e;cases e;rw[R_tup] at h;obtain⟨a,ys,rfl,h1,h2⟩:=h;exact .inr (den_tup.mpr ⟨a,ys,rfl,h1,Rs.den h2 q⟩)
 | .rdl xs,v,d,h,e=>by
  rw[PV.toD] at e;cases q:PV.toDs xs with
  | none=>rw[q] at e;cases e
  | some ds=>rw[q] at e;cases e;exact .inl ⟨_,rfl⟩
theorem Rs.den:∀ {ps:List PV}{vs:List V}{ds:List PyData},Rs K m H ps vs->PV.toDs ps=some ds->Dens K H ds vs
 | [],vs,ds,h,e=>by rw[PV.toDs] at e;cases e;rw[Rs_nil] at h;exact dens_nil.mpr h
 | p::ps,vs,ds,h,e=>by
  rw[bh] at h;obtain⟨y,r,rfl,h1,h2⟩:=h;rw[PV.toDs] at e;cases q:p.toD with
  | none=>rw[q] at e;cases e
  | some d =>
   cases q2:PV.toDs ps with
   | none=>rw[q,q2] at e;cases e
   | some ds' =>
    rw[q,q2] at e;cases e;refine dens_cons'.mpr ⟨?_,Rs.den h2 q2⟩;cases p with
    | rdl xs =>
     rw[PV.toD] at q;cases q3:PV.toDs xs with
     | none=>rw[q3] at q;cases q
     | some es =>rw[q3] at q;cases q;rw[gX] at h1;obtain⟨a,ys,rfl,g1,g2⟩:=h1;exact den_lst.mpr ⟨a,ys,rfl,g1.sq,Rs.den g2 q3⟩
    | _ =>
     rcases R.den h1 q with⟨xs,rfl⟩|z
     ·first
       | (rw[PV.toD] at q;cases q;done)
       | (rw[PV.toD] at q;simp only[Option.map_eq_some_iff,reduceCtorEq,and_false,exists_false] at q)
     ·exact z
end
theorem mU (rh:RH K m H st)(h:R K m H p v)(e:sh st p=some d):Den K H d v:=by
 cases p with
 | ref n =>
  unfold sh at e;simp only at e;split at e
  ·rename_i xs q;cases q2:PV.toDs xs with
   | none=>rw[q2] at e;cases e
   | some ds =>rw[q2] at e;cases e;obtain⟨a,ys,rfl,_,h1,h2⟩:=rh.lst q h;exact den_lst.mpr ⟨a,ys,rfl,SqL.of h1,h2.den q2⟩
  ·cases e
 | rdl xs =>
  have e':(PV.rdl xs).toD=some d:=e;rw[PV.toD] at e';cases q2:PV.toDs xs with
  | none=>rw[q2] at e';cases e'
  | some ds =>rw[q2] at e';cases e';rw[gX] at h;obtain⟨a,ys,rfl,g1,g2⟩:=h;exact den_lst.mpr ⟨a,ys,rfl,g1.sq,g2.den q2⟩
 | tup xs =>
  have e':(PV.tup xs).toD=some d:=e;rcases R.den h e' with⟨zs,rfl⟩|z
  ·rw[PV.toD] at e';simp at e'
  ·exact z
 | fn b=>have e':(PV.fn b).toD=some d:=e;rw[PV.toD] at e';cases e'
 | non=>have e':(PV.non).toD=some d:=e;rw[PV.toD] at e';cases e';exact den_non.mpr (R_non.mp h)
 | bl b=>have e':(PV.bl b).toD=some d:=e;rw[PV.toD] at e';cases e';exact den_bl.mpr (R_bl.mp h)
 | int b=>have e':(PV.int b).toD=some d:=e;rw[PV.toD] at e';cases e';exact den_int.mpr (R_int.mp h)
 | str b=>have e':(PV.str b).toD=some d:=e;rw[PV.toD] at e';cases e';exact den_str.mpr (R_str.mp h)
theorem R.nonB (h:R K m H p v):decide (v=.non)=hZ p:=by
 cases p with
 | non=>rw[R_non] at h;subst h;rfl
 | bl b=>rw[R_bl] at h;subst h;rfl
 | int b=>rw[R_int] at h;subst h;rfl
 | str b=>rw[R_str] at h;subst h;rfl
 | ref n=>rw[jR] at h;obtain⟨a,_,rfl⟩:=h;rfl
 | tup n=>rw[R_tup] at h;obtain⟨a,_,rfl,_⟩:=h;rfl
 | rdl n=>rw[gX] at h;obtain⟨a,_,rfl,_⟩:=h;rfl
 | fn n=>rw[R_fn] at h;subst h;rfl
theorem R.blB (h:R K m H p v):decide (v=.bl k)=pE k p:=by
 cases p with
 | non=>rw[R_non] at h;subst h;rfl
 | bl b=>rw[R_bl] at h;subst h;cases b <;> cases k <;> rfl
 | int b=>rw[R_int] at h;subst h;rfl
 | str b=>rw[R_str] at h;subst h;rfl
 | ref n=>rw[jR] at h;obtain⟨a,_,rfl⟩:=h;rfl
 | tup n=>rw[R_tup] at h;obtain⟨a,_,rfl,_⟩:=h;rfl
 | rdl n=>rw[gX] at h;obtain⟨a,_,rfl,_⟩:=h;rfl
 | fn n=>rw[R_fn] at h;subst h;rfl
theorem Nr:decide (V.int i=V.int j)=decide (i=j):=by simp
theorem N8:decide (V.bl i=V.bl j)=decide (i=j):=by simp
theorem NK:decide (V.str i=V.str j)=decide (i=j):=by simp
theorem vH:∀ {ns:List Int}{ys:List V},Rs K m H (ns.map PV.int) ys->ys=ns.map V.int
 | [],ys,h=>by rw[SF,Rs_nil] at h;exact h
 | n::ns,ys,h=>by
  cases ys with
  | nil=>have:=h.len;simp at this
  | cons y ys =>rw[QN,Rs_cons',R_int] at h;rw[h.1,vH h.2];rfl
theorem oh:∀ {ns:List Int},(ns.map V.int).all jG=true
 | []=>rfl
 | n::ns=>by rw[QN,RN,oh];rfl
theorem vN:∀ {ns:List Int},inV (.int i) (ns.map V.int)=ns.any fun j=>j == i
 | []=>rfl
 | n::ns=>by
  have:=vN (i:=i) (ns:=ns);unfold inV at this |-
  rw[QN,RG,RG,this];rfl
theorem p9:∀ {ns:List Str}{ys:List V},Rs K m H (ns.map PV.str) ys->ys=ns.map V.str
 | [],ys,h=>by rw[SF,Rs_nil] at h;exact h
 | n::ns,ys,h=>by
  cases ys with
  | nil=>have:=h.len;simp at this
  | cons y ys =>rw[QN,Rs_cons',R_str] at h;rw[h.1,p9 h.2];rfl
theorem ot:∀ {ns:List Str},(ns.map V.str).all jG=true
 | []=>rfl
 | n::ns=>by rw[QN,RN,ot];rfl
theorem yE:∀ {xs:List PV}{ys:List V},Rs K m H xs ys->xs.all Dn=true->ys.all jG=true/\inV .non ys=xs.any hZ
 | [],ys,r,_=>by rw[Rs_nil] at r;subst r;exact⟨rfl,rfl⟩
 | x::xs,ys,r,h=>by
  obtain⟨y,ys,rfl,r1,r2⟩:=r;rw[RN,QB] at h;obtain⟨a,b⟩:=yE r2 h.2;unfold inV at b |-
  cases x with
  | non=>rw[R_non] at r1;subst r1;exact⟨by rw[RN,a];rfl,by rw[RG,RG,b];rfl⟩
  | int i=>rw[R_int] at r1;subst r1;exact⟨by rw[RN,a];rfl,by rw[RG,RG,b];rfl⟩
  | _=>exact absurd h.1 P5
theorem vA:∀ {ns:List Str},inV (.str i) (ns.map V.str)=ns.any fun j=>j == i
 | []=>rfl
 | n::ns=>by
  have:=vA (i:=i) (ns:=ns);unfold inV at this |-
  rw[QN,RG,RG,this];rfl
section
variable {K:W.Frag}{m:List Addr}{H:Hp}
end
theorem E1 (hu:X.A.units+64<cLine)(op:CmpOp):OpR X (compareOp op) (MK X.K (eD op)):=by
 intro pins s σ H x' y' v u Q I rx ry h;obtain⟨m,st,x,y,rh,hx,hy,w⟩:=h;unfold eD at w;cases op with
 | Eq =>
  simp only at w;unfold eqW at w;split at w
  ·rw[R_int] at hx hy;subst hx hy;exact F3 pins s σ H _ _ v u Q I rx ry ⟨rfl,by rw[Nr];exact w.here rh (R_bl.mpr rfl)⟩
  ·rw[R_bl] at hx hy;subst hx hy;exact F3 pins s σ H _ _ v u Q I rx ry ⟨rfl,by rw[N8];exact w.here rh (R_bl.mpr rfl)⟩
  ·rw[R_str] at hx hy;subst hx hy;exact F3 pins s σ H _ _ v u Q I rx ry ⟨rfl,by rw[NK];exact w.here rh (R_bl.mpr rfl)⟩
  ·obtain⟨d,e,h1,h2,h3,h4,w⟩:=w;exact LA hu pins s σ H _ _ v u Q I rx ry ⟨d,e,mU rh hx h1,mU rh hy h2,h3,h4,w.here rh (R_bl.mpr rfl)⟩
 | NotEq =>
  simp only at w;unfold eqW at w;split at w
  ·rw[R_int] at hx hy;subst hx hy;exact Fo pins s σ H _ _ v u Q I rx ry ⟨rfl,by rw[Nr];exact w.here rh (R_bl.mpr rfl)⟩
  ·rw[R_bl] at hx hy;subst hx hy;exact Fo pins s σ H _ _ v u Q I rx ry ⟨rfl,by rw[N8];exact w.here rh (R_bl.mpr rfl)⟩
  ·rw[R_str] at hx hy;subst hx hy;exact Fo pins s σ H _ _ v u Q I rx ry ⟨rfl,by rw[NK];exact w.here rh (R_bl.mpr rfl)⟩
  ·obtain⟨d,e,h1,h2,h3,h4,w⟩:=w;exact LO hu pins s σ H _ _ v u Q I rx ry ⟨d,e,mU rh hx h1,mU rh hy h2,h3,h4,w.here rh (R_bl.mpr rfl)⟩
 | IsNot =>
  simp only at w;split at w
  ·rw[R_bl] at hy;subst hy;exact C2 pins s σ H _ _ v u Q I rx ry ⟨_,rfl,by rw[hx.blB];exact w.here rh (R_bl.mpr rfl)⟩
  ·exact w.elim
 | Lt =>
  simp only at w;split at w
  ·rw[R_int] at hx hy;subst hx hy;exact Nc pins s σ H _ _ v u Q I rx ry ⟨_,_,rfl,rfl,w.here rh (R_bl.mpr rfl)⟩
  ·exact w.elim
 | Gt =>
  simp only at w;split at w
  ·rw[R_int] at hx hy;subst hx hy;exact Nu pins s σ H _ _ v u Q I rx ry ⟨_,_,rfl,rfl,w.here rh (R_bl.mpr rfl)⟩
  ·exact w.elim
 | GtE =>
  simp only at w;split at w
  ·rw[R_int] at hx hy;subst hx hy;exact OO pins s σ H _ _ v u Q I rx ry ⟨_,_,rfl,rfl,w.here rh (R_bl.mpr rfl)⟩
  ·exact w.elim
 | In =>
  simp only at w;split at w
  ·rw[R_str] at hx hy;subst hx hy;exact Cy pins s σ H _ _ v u Q I rx ry ⟨_,_,rfl,rfl,w.here rh (R_bl.mpr rfl)⟩
  ·exact w.elim
 | _=>exact False.elim w
theorem JW (hu:X.A.units+64<cLine):IxR X (MK X.K ixW):=by
 intro value slice pins s σ H x' y' v u Q I rx ry h hs;obtain⟨m,st,x,y,rh,hx,hy,w⟩:=h;cases y with
 | int i =>
  rw[R_int] at hy;subst hy;rcases AS w with⟨z,c,rfl,h1,h2,w⟩|⟨xs,z,h1,h2,w⟩
  ·rw[R_str] at hx;subst hx;exact Ml value slice pins s σ H _ _ v u Q I rx ry ⟨_,_,c,rfl,rfl,fI h1,h2,w.here rh (R_str.mpr rfl)⟩ hs
  obtain⟨a,ys,rfl,g,r⟩:=md rh hx h1;obtain⟨y,e,ry'⟩:=r.atI h2;rcases g with g|g
  ·exact IU value slice pins s σ H _ _ v u Q I rx ry ⟨a,ys,_,y,rfl,rfl,g,e,w.here rh ry'⟩ hs
  ·exact Ld value slice pins s σ H _ _ v u Q I rx ry ⟨a,ys,_,y,rfl,rfl,g,e,w.here rh ry'⟩ hs
 | str z=>exact False.elim w
 | _=>exact w.elim
theorem kN {E:Value->Shared->Prop}{s:Shared}{Q:Value->Shared->Prop}(ht:IsTup s.heap t items)(hs:s.heap.IsSliceOf sl vl vu .none)(pl:IsPart vl lo)(pu:IsPart vu hi)(hw:HT.sIx items.size 0 lo=0/\HT.sIx items.size items.size hi=items.size)(h:Q (.ref t) s):wpAny (model prog w) A (getItem (.ref t) (.ref sl)) Q E s:=by
 obtain⟨os,hos,hcs,hds⟩:=id hs;have hTs:s.TypeIs (.ref sl) "slice":=⟨os,hos,hcs⟩;unfold getItem
 try with_reducible refine S4 ?_
 first|refine P4 (QE ?_)|skip
 refine P4 (wpAny_sequenceKey ht.typeIs (by decide) ?_);refine P4 (wpAny_callSpecial?_slot (name:=Str.ofString "__getitem__") ht.typeIs RT
  (wpAny_call_entry RT ht.typeIs entry_tuple_getitem ?_ (args_tuple_getitem _ _)))
 show wpAny _ _ (Builtin.Tuple.tupleItemsOf (.ref t) >>= _) _ _ s;refine P4 (tupleItemsOf_ ht ?_);refine P4 (wpAny_typeOf hTs ?_);rw[QA (by decide)];refine P4 (HT.sliceApplied_gen hs pl pu ?_);have hyes:((((HT.sIx items.size 0 lo:Nat):Int) == 0 && (1:Int) == 1 && (HT.sIx items.size items.size hi-HT.sIx items.size 0 lo) == items.size)=true):=by rw[hw.1,hw.2];simp
 show wpAny _ _ (if (((HT.sIx items.size 0 lo:Nat):Int) == 0 && (1:Int) == 1 && (HT.sIx items.size items.size hi-HT.sIx items.size 0 lo) == items.size)=true then _ else _) _ _ s;rw[QA hyes];unfold Builtin.Tuple.tupleIsExact;refine P4 (P4 (wpAny_typeOf ht.typeIs (QE ?_)));rw[QA (by simp)];exact P4 (wpAny_rule (QE ⟨_,rfl,QE h⟩))
noncomputable def Oj (K:W.Frag):V->Option Int->Option Int->Hp->VK->Prop:=fun x' lo hi H Q=>∃m st x,RH K m H st/\R K m H x x'/\slW x lo hi st (post K m H Q)
theorem As {ys:List V}(h:HT.sIx ys.length 0 lo=0/\HT.sIx ys.length ys.length hi=ys.length):tw ys lo hi=ys:=by unfold tw;rw[h.1,h.2,R8,Nat.sub_zero,SJ]
theorem BD (h:IsPart v p):∃q:Option (Int × Tok),v=partValue q/\q.map (·.1)=p:=by
 cases h with
 | none=>exact⟨none,rfl,rfl⟩
 | int i t=>exact⟨some (i,t),rfl,rfl⟩
theorem G_ {z:Str}{l u:Option (Int × Tok)}{lo:Option Int}{Q:Value->Shared->Prop}(e:(l.map (·.1),u.map (·.1))=(lo,hi))(h1:z.length<=100000)(h:∀tk t',Q (.str (l4 z lo hi) t') { s with toks:=tk }):(sliceMade z t l u none).post Q s:=by
 cases e;unfold sliceMade;have h:∀tk t',Q (.str (if ((slicePicked z l u none).length == z.length)=true then z else ⟨((slicePicked z l u none).filterMap (z.cps[·]?)).toArray⟩) t') { s with toks:=tk }:=h;cases q:((slicePicked z l u none).length == z.length) with
 | true =>rw[q] at h;exact h s.toks t
 | false =>rw[q] at h;refine⟨?_,h _ _⟩;show ((slicePicked z l u none).filterMap (z.cps[·]?)).toArray.size<=sizeLine;rw[QR];refine QP (S7 _ _) (QP ?_ (fI h1));refine sliceRange_length_le _ _ _ _ (fun _=>?_) fun z=>absurd (show (1:Int) > 0 by decide) z;cases l <;> cases u <;> constructor <;> simp only[Option.map,Option.getD,show (1:Int) > 0 by decide,if_true] <;> first|omega|(split <;> omega)
theorem Nk:SlR X (Oj X.K):=by
 intro pins s σ H x' v vl vu lo hi sl Q I rx hs pl pu h;obtain⟨m,st,x,rh,hx,w⟩:=h;unfold slW at w;split at w
 ·rename_i z;rw[R_str] at hx;subst hx;obtain⟨t,rfl⟩:=rx;obtain⟨h1,w⟩:=w;obtain⟨l,el,pl'⟩:=BD pl;obtain⟨u,eu,pu'⟩:=BD pu;subst el eu;refine ⟨"str",_,PyProof.Rows.slot_str_getitem.lookup,typeIs_str _ _ _,?_⟩;refine wpAny_getItem_str_slice (l:=l) (u:=u) (st:=none) hs rfl (G_ ?_ h1 fun tk t'=>⟨.str (l4 z lo hi),H,I.tok tk,⟨t',rfl⟩,w.here rh (R_str.mpr rfl)⟩);rw[pl',pu']
 ·rw[R_tup] at hx;obtain⟨a,ys,rfl,g,r⟩:=hx;by_cases hw:HT.sIx ys.length 0 lo=0/\HT.sIx ys.length ys.length hi=ys.length
  ·cases rx;obtain⟨its,r',ht,hz⟩:=I.tuple g;have hlen:its.toArray.size=ys.length:=by rw[QR];exact r'.length.symm
   refine ⟨"tuple",_,PyProof.Rows.slot_tuple_getitem.lookup,ht.typeIs,kN ht hs pl pu (by rw [hlen];exact hw) ?_⟩;refine⟨.ref a,H,I,rfl,w.here rh (R_tup.mpr ⟨a,ys,rfl,g,?_⟩)⟩;have:=r.cut lo hi;rw[As hw] at this;exact this
  ·exact L_ pins s σ H _ v vl vu lo hi sl Q I rx hs pl pu ⟨a,ys,rfl,g,hw,fun p hp=>w.newT rh (r.cut lo hi) hp⟩
 ·obtain⟨xs,h1,w⟩:=w;obtain⟨a,ys,rfl,g,r⟩:=gr rh hx h1;exact Hs pins s σ H _ v vl vu lo hi sl Q I rx hs pl pu ⟨a,ys,rfl,g,fun p hp=>w.newL rh (r.cut lo hi) hp⟩
theorem Rs.one' {x:PV}(h:Rs K m H [x] ys):∃y,ys=[y]/\R K m H x y:=by rw[bh] at h;obtain⟨y,r,rfl,h1,h2⟩:=h;rw[Rs_nil] at h2;subst h2;exact⟨y,rfl,h1⟩
theorem Rs.two' {x:PV}(h:Rs K m H [x,z] ys):∃y u,ys=[y,u]/\R K m H x y/\R K m H z u:=by rw[bh] at h;obtain⟨y,r,rfl,h1,h2⟩:=h;obtain⟨u,rfl,h3⟩:=h2.one';exact⟨y,u,rfl,h1,h3⟩
theorem uO:∀ {xs:List PV}{bs:List Bool}{ys:List V}{us:List Value},nC xs=some bs->Rs K m H xs ys->Vals ys us->LSm.BoolsAre us bs
 | [],bs,ys,us,e,h,r=>by rw[Rs_nil] at h;subst h;cases r;cases e;exact .nil
 | x::xs,bs,ys,us,e,h,r=>by
  rw[bh] at h;obtain⟨y,q,rfl,h1,h2⟩:=h;cases x with
  | bl b =>
   cases r with
   | cons r1 r2 =>
    rw[R_bl] at h1;subst h1;cases r1;unfold nC at e;cases z:nC xs with
    | none=>rw[z] at e;cases e
    | some bs' =>rw[z] at e;cases e;exact .cons b (uO z h2 r2)
  | _=>cases e
theorem C9 {vs:List Value}{A:Around}{E:Value->Shared->Prop}{s:Shared}{Q:Value->Shared->Prop}(hh:A.handled=none)(hl:s.heap.IsList l vs.toArray)(hb:LSm.BoolsAre vs bs)(h:∀h' tk,(∀b x,s.heap.get? b=some x->h'.get? b=some x)->Q (.bool (bs.all id)) { s with heap:=h',toks:=tk }):wpAny (model P w) A (call (.builtin "all") [.ref l]) Q E s:=by
 have hlt:l<s.heap.objs.size:=by obtain⟨_,e,_⟩:=hl;exact QF e
 refine call_all_walk (wpAny_pyIter_list hl ?_);refine⟨s.heap.objs.size,[s.heap.objs.size,l],[s.heap.objs.size],vs.toArray.size,_,_,fun i=>(bs[i]?).getD true,rfl,Walks.list (A:=A.in1) hh _ l (QU hlt) vs.toArray,
  ⟨⟨_,QG _ rfl,rfl,rfl⟩,hl.push _⟩,fun i v s' Q' E' hP hQ=>?_,fun h' tk hk=>?_⟩
 ·obtain⟨b,e,rfl⟩:=hb.get i v (by simpa using hP);simp only[e,Option.getD_some] at hQ;exact wpAny_truthy_bool hQ
 ·have e:((List.range vs.toArray.size).all fun i=>(bs[i]?).getD true)=bs.all id:=by rw[QR,hb.length];exact LSm.range_all bs
  rw[e];exact h h' tk (LSm.kept_iter hk)
noncomputable def MU:B->Value
 | .len=>.builtin "len"
 | .max2=>.builtin "max"
 | .min2=>.builtin "min"
 | .divmod=>.builtin "divmod"
 | .int1=>.type "int"
 | .str1=>.type "str"
 | .tuple1=>.type "tuple"
 | .list1=>.type "list"
 | .all1=>.builtin "all"
 | .any1=>.builtin "any"
 | .abs1=>.builtin "abs"
 | .sorted1=>.builtin "sorted"
 | .repr1=>.builtin "repr"
 | .sortS=>.builtin "sorted"
 | .max1=>.builtin "max"
 | .sortD=>.builtin "sorted"
theorem F2:∀ {ns:List Str},Rs K m H (ns.map PV.str) (ns.map V.str)
 | []=>by rw[SF,SF,Rs_nil]
 | n::ns=>by rw[QN,QN,Rs_cons',R_str];exact⟨rfl,F2⟩
section
variable {prog:Program}{w:World}{A:Around}{E:Value->Shared->Prop}{s:Shared}{l:Addr}{xs:Array (Int × Tok)}
end
theorem C3 {α:Type}{o:Option α}{r:List (Option α)}{ds:List α}(h:df (o::r)=some ds):∃d es,o=some d/\df r=some es/\ds=d::es:=by
 cases o with
 | none=>cases h
 | some x =>
  cases q:df r with
  | none=>rw[df,q] at h;cases h
  | some es=>rw[df,q] at h;cases h;exact⟨x,es,rfl,rfl,rfl⟩
theorem vw:fO X (.type "int") (fun xs H Q=>∃z n,xs=[.str z]/\z.length<=640/\PySem.intText? z=some n/\Q (.int n) H):=by intro pins s σ H xs us Q I r h;obtain⟨z,n,rfl,h1,h2,q⟩:=h;obtain⟨u,rfl,t,rfl⟩:=fQ r;exact W.KIN.call_text h2 h1 ⟨.int n,H,I.tok _,⟨_,rfl⟩,q⟩
theorem Em (hc:X.calm=true)(hgd:X.A.guards=some [])(hun:X.A.units+64<cLine)(b:B):fO X (MU b) (OL X.K (gj b)):=by
 intro pins s σ H xs' us Q I r h;obtain⟨m,st,xs,rh,hx,w⟩:=h;cases b with
 | len =>
  obtain⟨x0,rfl,w⟩:=bM w;obtain⟨y,rfl,hy⟩:=hx.one';rcases wU w with⟨z,rfl,h1,w⟩|⟨ys,h1,w⟩
  ·rw[R_str] at hy;subst hy;exact uT pins s σ H _ us Q I r ⟨_,rfl,fI h1,w.here rh (R_int.mpr rfl)⟩
  obtain⟨a,zs,rfl,g,rz⟩:=md rh hy h1;refine vi pins s σ H _ us Q I r ⟨a,zs,rfl,g,?_⟩;have:=w.here rh (x:=V.int ys.length) (R_int.mpr rfl);rw[rz.len] at this;exact this
 | max2 =>obtain⟨x0,y0,rfl,w⟩:=iM w;obtain⟨i,j,rfl,rfl,w⟩:=cJ w;obtain⟨y,u,rfl,hy,hu⟩:=hx.two';rw[R_int] at hy hu;subst hy hu;exact Cf hc pins s σ H _ us Q I r ⟨_,_,rfl,w.here rh (R_int.mpr rfl)⟩
 | min2 =>obtain⟨x0,y0,rfl,w⟩:=iM w;obtain⟨i,j,rfl,rfl,w⟩:=cJ w;obtain⟨y,u,rfl,hy,hu⟩:=hx.two';rw[R_int] at hy hu;subst hy hu;exact Cm hc pins s σ H _ us Q I r ⟨_,_,rfl,w.here rh (R_int.mpr rfl)⟩
 | divmod =>obtain⟨x0,y0,rfl,w⟩:=iM w;obtain⟨i,j,rfl,rfl,w⟩:=cJ w;obtain⟨y,u,rfl,hy,hu⟩:=hx.two';rw[R_int] at hy hu;subst hy hu;refine uX pins s σ H _ us Q I r ⟨_,_,rfl,w.1,fun p hp=>w.2.newT rh ?_ hp⟩;rw[Rs_cons',Rs_cons',Rs_nil,R_int,R_int];exact⟨rfl,rfl,rfl⟩
 | int1 =>
  obtain⟨x0,rfl,w⟩:=bM w;obtain⟨y,rfl,hy⟩:=hx.one';rcases um w with⟨b0,rfl,w⟩|⟨z,n,rfl,h1,h2,w⟩
  case inr =>rw[R_str] at hy;subst hy;exact vw pins s σ H _ us Q I r ⟨_,_,rfl,h1,h2,w.here rh (R_int.mpr rfl)⟩
  rw[R_bl] at hy;subst hy;exact Cs pins s σ H _ us Q I r (.inr ⟨_,rfl,w.here rh (R_int.mpr rfl)⟩)
 | str1 =>obtain⟨x0,rfl,w⟩:=bM w;obtain⟨i,rfl,w⟩:=pZ w;obtain⟨y,rfl,hy⟩:=hx.one';rw[R_int] at hy;subst hy;exact ve pins s σ H _ us Q I r ⟨_,rfl,w.1,w.2.here rh (R_str.mpr rfl)⟩
 | tuple1 =>
  obtain⟨x0,rfl,w⟩:=bM w;obtain⟨ys,h1,w⟩:=w;obtain⟨y,rfl,hy⟩:=hx.one';obtain⟨a,zs,rfl,g,rz⟩:=md rh hy h1;refine su pins s σ H _ us Q I r ⟨a,zs,rfl,?_⟩;rcases g with g|g
  ·exact .inl ⟨g,fun p hp=>w.newT rh rz hp⟩
  ·exact .inr ⟨g,w.here rh (R_tup.mpr ⟨a,zs,rfl,g,rz⟩)⟩
 | list1=>exact False.elim w
 | all1 =>obtain⟨x0,rfl,w⟩:=bM w;obtain⟨ys,bs,h1,h2,w⟩:=w;obtain⟨y,rfl,hy⟩:=hx.one';obtain⟨a,zs,rfl,g,rz⟩:=gr rh hy h1;obtain⟨u,rfl,ru⟩:=fQ r;cases ru;obtain⟨its,ri,pl,_⟩:=I.list g;exact C9 (I.ok.hd hc) pl.isList (uO h2 rz ri) fun h' tk k=>⟨.bl _,H,I.kept k,rfl,w.here rh (R_bl.mpr rfl)⟩
 | any1=>exact False.elim w
 | abs1 =>
  obtain⟨x0,rfl,w⟩:=bM w;obtain⟨i,rfl,w⟩:=pZ w;obtain⟨y,rfl,hy⟩:=hx.one';rw[R_int] at hy;subst hy;refine D1 pins s σ H _ us Q I r ⟨_,rfl,?_⟩;have:=w.here rh (R_int.mpr rfl);have e:(if i<0 then -i else i)=(i.natAbs:Int):=by split <;> omega
  rw[e];exact this
 | sorted1=>exact False.elim w
 | sortS=>exact False.elim w
 | sortD=>exact False.elim w
 | max1=>exact False.elim w
 | repr1=>exact False.elim w
theorem B7 (h:bW st x=some n):n∈["NoneType","bool","int","str","list","tuple","dict"]:=by
 cases x with
 | ref k =>unfold bW at h;simp only at h;split at h <;> cases h <;> decide
 | _=>cases h <;> decide
theorem GY {σ:L2.St}{E:Value->Shared->Prop}{K:W.Frag}{c:String}{Q:Value->Shared->Prop}(I:Inv X pins σ H s)(rh:RH X.K m H st)(hx:R X.K m H x x')(ru:RelV x' u)(hk:bW st x=some n)(hc:c∈["int","bool","str","tuple","list","dict"])(h:∀tk,Q (.bool (bH c n)) { s with toks:=tk }) :
  wpAny (model X.prog X.w) A (call (.builtin "isinstance") [u,.type c]) Q E s:=by
 have e:=Dt X.K c hc n (B7 hk);cases x with
 | non=>cases hk;rw[R_non] at hx;subst hx;exact gm I ru .non e h
 | bl b=>cases hk;rw[R_bl] at hx;subst hx;exact gm I ru (.bl b) e h
 | fn b=>cases hk
 | int b=>cases hk;rw[R_int] at hx;subst hx;exact gm I ru (.int b) e h
 | str b=>cases hk;rw[R_str] at hx;subst hx;exact gm I ru (.str b) e h
 | tup xs =>cases hk;rw[R_tup] at hx;obtain⟨a,ys,rfl,g,r⟩:=hx;cases ru;obtain⟨its,_,⟨o,ho,hcl,_⟩,_⟩:=I.tuple g;exact R4 W.kitx_tuple I.kIn ⟨o,ho,hcl⟩ e (fun z=>nomatch z) h
 | rdl xs =>cases hk;rw[gX] at hx;obtain⟨a,ys,rfl,g,r⟩:=hx;cases ru;obtain⟨its,_,pl,_⟩:=I.list g.sq;obtain⟨o,ho,hcl,_⟩:=pl.isList;exact R4 U8 I.kIn ⟨o,ho,hcl⟩ e (fun z=>nomatch z) h
 | ref k =>
  unfold bW at hk;simp only at hk;split at hk
  ·cases hk;rename_i q;obtain⟨a,ys,rfl,_,h1,h2⟩:=rh.lst q hx;exact gm I ru (.lst h1) e h
  ·cases hk;rename_i kvs q;rw[jR] at hx;obtain⟨a,e1,rfl⟩:=hx;obtain⟨ys,h1,_⟩:=rh.at_ k _ a q e1;exact gm I ru (.dK h1) e h
  ·cases hk;rename_i kvs q;rw[jR] at hx;obtain⟨a,e1,rfl⟩:=hx;obtain⟨o,ys,h1,_⟩:=rh.at_ k _ a q e1;cases ru;obtain⟨ho,_,_,vs,_,o',_,_,ho',hcl,_⟩:=I.hok a _ h1;exact R4 U9 I.kIn ⟨o',ho',hcl.1⟩ e (fun z=>nomatch z) h
  ·cases hk
noncomputable def Bc:M->String
 | .append=>"list.append"
 | .pop0=>"list.pop"
 | .extend=>"list.extend"
 | .insert=>"list.insert"
 | .count=>"list.count"
 | .index=>"list.index"
 | .popI=>"list.pop"
noncomputable def OE (K:W.Frag)(w:PV->List PV->AH->EK->Prop):V->List V->Hp->VK->Prop:=fun x' xs' H Q=>∃m st x xs,RH K m H st/\R K m H x x'/\Rs K m H xs xs'/\w x xs st (post K m H Q)
theorem LY (c:M):MtR X (Bc c) (OE X.K (x9 c)):=by
 intro pins s σ H x' vs' v us Q I rx rv h;obtain⟨m,st,x,vs,rh,hx,hv,w⟩:=h;cases c with
 | append =>obtain⟨n0,rfl,w⟩:=pU w;obtain⟨x0,rfl,w⟩:=bM w;obtain⟨xs,h1,h2,w⟩:=w;obtain⟨a,ys,rfl,e,g,r⟩:=rh.lst h1 hx;obtain⟨y,rfl,hy⟩:=hv.one';exact n_ pins s σ H _ _ v us Q I rx rv ⟨a,ys,y,rfl,rfl,g,by rw[<-r.len];exact vj h2,w.setL rh e (nfL g) (r.app (.one hy)) (R_non.mpr rfl)⟩
 | pop0 =>obtain⟨n0,rfl,w⟩:=pU w;obtain⟨rfl,w⟩:=ux w;obtain⟨xs,z,h1,h2,w⟩:=w;obtain⟨a,ys,rfl,e,g,r⟩:=rh.lst h1 hx;rw[Rs_nil] at hv;subst hv;obtain⟨y,e2,ry⟩:=r.get h2;rw[r.len] at e2;exact MJ pins s σ H _ _ v us Q I rx rv ⟨a,ys,y,rfl,rfl,g,e2,w.setL rh e (nfL g) r.dropLast ry⟩
 | popI=>exact False.elim w
 | index=>exact False.elim w
 | count=>exact False.elim w
 | extend=>exact False.elim w
 | insert=>exact False.elim w
noncomputable def Py (K:W.Frag):V->V->V->Hp->(Hp->Prop)->Prop:=fun o' i' v' H Q=>∃m st o i v,RH K m H st/\R K m H o o'/\R K m H i i'/\R K m H v v'/\yo o i v st fun st'=>∀H',Ext K m H m H'->RH K m H' st'->Q H'
theorem Ls (hu:X.A.units+64<cLine):LZ X (Py X.K):=by
 intro pins s σ H o' i' v' ov iv u Q I ro ri rv h;obtain⟨m,st,o,i,v,rh,ho,hi,hv,w⟩:=h;unfold yo at w;split at w
 ·obtain⟨xs,h1,q,h2,w⟩:=w;obtain⟨a,ys,rfl,e,g,r⟩:=rh.lst h1 ho;rw[R_int] at hi;subst hi;exact FV pins s σ H _ _ _ ov iv u Q I ro ri rv ⟨a,ys,_,q,rfl,rfl,g,by rw[<-r.len];exact h2,w _ (Ext.set (ys:=ys) rh e (nfL g)) (rh.setL e (nfL g) (r.set hv q))⟩
 ·exact w.elim
noncomputable def Pq (K:W.Frag):V->Hp->(Bool->Hp->Prop)->Prop:=fun x' H Q=>∃m st x,RH K m H st/\R K m H x x'/\fu x st (postB K m H Q)
theorem uH:∀ {x':V}{H:Hp}{Q:Bool->Hp->Prop},Pq X.K x' H Q->∃k,Mz X.K x' H k/\Q k H:=by
 intro x' H Q h;obtain⟨m,st,x,rh,hx,w⟩:=h;unfold fu at w;split at w
 ·rw[R_bl] at hx;subst hx;exact⟨_,rfl,w m H (Ext.refl _ _ _) rh⟩
 ·rw[R_non] at hx;subst hx;exact⟨_,rfl,w m H (Ext.refl _ _ _) rh⟩
 ·rw[R_int] at hx;subst hx;exact⟨_,rfl,w m H (Ext.refl _ _ _) rh⟩
 ·exact w.elim
 ·obtain⟨xs,h1,w⟩:=w;obtain⟨a,ys,rfl,g,r⟩:=md rh hx h1;have e:(!xs.isEmpty)=!ys.isEmpty:=by have:=r.len;cases xs <;> cases ys <;> first|rfl|(simp at this)
  refine⟨_,?_,w m H (Ext.refl _ _ _) rh⟩;rw[e];rcases g with g|g
  ·exact .inl ⟨ys,g,rfl⟩
  ·exact .inr (.inl ⟨ys,g,rfl⟩)
end
end FW
namespace FW
open L2 HX
mutual
noncomputable def PV.same:PV->PV->Bool
 | .non,y=>match y with | .non=>true|_=>false
 | .bl a,y=>match y with | .bl b=>a == b|_=>false
 | .int a,y=>match y with | .int b=>a == b|_=>false
 | .str a,y=>match y with | .str b=>a == b|_=>false
 | .tup xs,y=>match y with | .tup ys=>PV.sames xs ys|_=>false
 | .ref a,y=>match y with | .ref b=>a == b|_=>false
 | .rdl xs,y=>match y with | .rdl ys=>PV.sames xs ys|_=>false
 | .fn a,y=>match y with | .fn b=>a == b|_=>false
noncomputable def PV.sames:List PV->List PV->Bool
 | [],y=>y.isEmpty
 | x::xs,y=>match y with|y::ys=>x.same y && PV.sames xs ys | []=>false
end
mutual
theorem PV.same_eq:∀ {x y:PV},x.same y=true->x=y
 | .non,y,h=>by cases y with|non=>rfl|_=>exact Bool.noConfusion (show false=true from h)
 | .bl a,y,h=>by cases y with|bl b=>rw[eq_of_beq (show (a == b)=true from h)] | _=>exact Bool.noConfusion (show false=true from h)
 | .int a,y,h=>by cases y with|int b=>rw[eq_of_beq (show (a == b)=true from h)] | _=>exact Bool.noConfusion (show false=true from h)
 | .str a,y,h=>by cases y with|str b=>rw[eq_of_beq (show (a == b)=true from h)] | _=>exact Bool.noConfusion (show false=true from h)
 | .ref a,y,h=>by cases y with|ref b=>rw[eq_of_beq (show (a == b)=true from h)] | _=>exact Bool.noConfusion (show false=true from h)
 | .tup xs,y,h=>by cases y with|tup ys=>rw[PV.sames_eq (show PV.sames xs ys=true from h)] | _=>exact Bool.noConfusion (show false=true from h)
 | .rdl xs,y,h=>by cases y with|rdl ys=>rw[PV.sames_eq (show PV.sames xs ys=true from h)] | _=>exact Bool.noConfusion (show false=true from h)
 | .fn a,y,h=>by cases y with|fn b=>rw[eq_of_beq (show (a == b)=true from h)] | _=>exact Bool.noConfusion (show false=true from h)
theorem PV.sames_eq:∀ {x y:List PV},PV.sames x y=true->x=y
 | [],y,h=>by cases y with|nil=>rfl|cons a b=>exact Bool.noConfusion (show false=true from h)
 | x::xs,y,h=>by
  cases y with
  | nil=>exact Bool.noConfusion (show false=true from h)
  | cons y ys =>have h:=(QB _ _).mp (show (x.same y && PV.sames xs ys)=true from h);rw[PV.same_eq h.1,PV.sames_eq h.2]
end
structure Cfg where
 N:List Str
 names:List (Str × NameKind)
 fns:List Str
 lim:Nat
 blts:List Str
 gl:List (Str × PV)
 pc:Bool:=false
 hm:Option Nat:=none
noncomputable def Cfg.vis (c:Cfg)(x:Str):Bool:=(c.names.lookup x == some .local || c.names.lookup x == some .cell || c.names.lookup x == some .free) && !(x == ("__debug__":Str)) && !(x == ("__classdict__":Str))
noncomputable def Cfg.loc (c:Cfg)(x:Str):Bool:=c.names.lookup x == some .local || c.names.lookup x == some .cell
noncomputable def Cfg.glb (c:Cfg)(x:Str):Bool:=c.names.lookup x == some .globalImplicit && !(x == ("__debug__":Str)) && !(x == ("__name__":Str))
noncomputable def Cfg.blt (c:Cfg)(x:Str):Bool:=c.glb x && c.blts.contains x
noncomputable def Cfg.fn (c:Cfg)(f:Nat)(x:Str):Bool:=c.fns[f]? == some x && decide (f<c.lim) && c.glb x
noncomputable def qd:B->Str
 | .len=>"len"
 | .max2=>"max"
 | .min2=>"min"
 | .divmod=>"divmod"
 | .int1=>"int"
 | .str1=>"str"
 | .tuple1=>"tuple"
 | .list1=>"list"
 | .all1=>"all"
 | .any1=>"any"
 | .abs1=>"abs"
 | .sorted1=>"sorted"
 | .repr1=>"repr"
 | .sortS=>"sorted"
 | .max1=>"max"
 | .sortD=>"sorted"
noncomputable def vn:M->Str
 | .append=>"append"
 | .pop0=>"pop"
 | .extend=>"extend"
 | .insert=>"insert"
 | .count=>"count"
 | .index=>"index"
 | .popI=>"pop"
noncomputable def kinds:List String:=["int","bool","str","tuple","list","dict"]
noncomputable def rH:Expr->Bool
 | .ListComp ..=>false
 | .SetComp ..=>false
 | .DictComp ..=>false
 | _=>true
noncomputable def zu:Expr->Bool
 | .Name ..=>true
 | .Call ..=>true
 | .Subscript ..=>true
 | _=>false
mutual
noncomputable def Tg.low (n:Nat):Tg->Bool
 | .name i=>decide (i<n)
 | .tup ts=>Tgs.low n ts
 | .ltup ts=>Tgs.low n ts
 | .sub _ _=>false
noncomputable def Tgs.low (n:Nat):Tgs->Bool
 | .nil=>true
 | .cons t ts=>Tg.low n t && Tgs.low n ts
end
noncomputable def gQ:Expr->Bool
 | .Set ..=>false
 | _=>true
noncomputable def Cfg.inner (c:Cfg)(nt:List Str)(caps:List Nat)(sc:Scope):Cfg:={ c with N:=nt++caps.filterMap (c.N[·]?),names:=sc.names,pc:=false,hm:=none }
noncomputable def C8 (k:Option NameKind):Bool:=k == some .cell || k == some .free
noncomputable def Cfg.block (c:Cfg)(nt:List Str)(caps:List Nat)(sc:Scope):Bool :=
 sc.kind == .function && sc.names.all (fun y=>!(y.2 == .cell)) && sc.names.all (fun y=>!(y.2 == .local) || sc.names.lookup y.1 == some .local) && sc.names.all (fun y=>!(y.2 == .free) || C8 (c.names.lookup y.1))
  && caps.all (fun i=>decide (i<c.N.length)) && (caps.filterMap (c.N[·]?)).all (fun x=>sc.names.lookup x == some .free && C8 (c.names.lookup x)) && decide (nt++caps.filterMap (c.N[·]?)).Nodup
noncomputable def Ay:It->Expr->Bool
 | .zip _ _,.Tuple ..=>true
 | .zip _ _,_=>false
 | .zip3 _ _ _,.Tuple ..=>true
 | .zip3 _ _ _,_=>false
 | .enum _,.Tuple ..=>true
 | .enum _,_=>false
 | .seq _,_ | .range1 _,_ | .range2 _ _,_ | .chars _,_ | .range3 _ _ _,_=>true
noncomputable def fF:Expr->Bool
 | .Name ..=>true
 | .List ..=>true
 | .Subscript ..=>true
 | .ListComp ..=>true
 | _=>false
noncomputable def zw:Expr->Bool
 | .Constant (.str _) ..=>true
 | _=>false
noncomputable def Ea:SM->Str
 | .join=>"join"
 | .split=>"split"
noncomputable def ay (x:Expr)(f:Str->Pos->Bool):Bool:=match x with | .Name y p=>f y p|_=>false
theorem ai (h:ay x f=true):∃y p,x=.Name y p/\f y p=true:=by cases x with|Name y p=>exact⟨y,p,rfl,h⟩|_=>exact Bool.noConfusion h
noncomputable def Bu (x:Expr)(f:Int->Bool):Bool:=match x with | .Constant (.int j) _ _=>f j|_=>false
theorem tL (h:Bu x f=true):∃j k p,x=.Constant (.int j) k p/\f j=true:=by
 cases x with
 | Constant v k p=>cases v with|int j=>exact⟨j,k,p,rfl,h⟩|_=>exact Bool.noConfusion h
 | _=>exact Bool.noConfusion h
noncomputable def Ma (x:Expr)(f:Bool->Bool):Bool:=match x with | .Constant (.bool j) _ _=>f j|_=>false
theorem wB (h:Ma x f=true):∃j k p,x=.Constant (.bool j) k p/\f j=true:=by
 cases x with
 | Constant v k p=>cases v with|bool j=>exact⟨j,k,p,rfl,h⟩|_=>exact Bool.noConfusion h
 | _=>exact Bool.noConfusion h
noncomputable def uo (x:Expr)(f:Str->Bool):Bool:=match x with | .Constant (.str j) _ _=>f j|_=>false
theorem kG (h:uo x f=true):∃j k p,x=.Constant (.str j) k p/\f j=true:=by
 cases x with
 | Constant v k p=>cases v with|str j=>exact⟨j,k,p,rfl,h⟩|_=>exact Bool.noConfusion h
 | _=>exact Bool.noConfusion h
noncomputable def J_ (x:Expr):Bool:=match x with | .Constant .none _ _=>true|_=>false
theorem CA (h:J_ x=true):∃k p,x=.Constant .none k p:=by
 cases x with
 | Constant v k p=>cases v with|none=>exact⟨k,p,rfl⟩|_=>exact Bool.noConfusion h
 | _=>exact Bool.noConfusion h
noncomputable def gY (x:Expr)(f:List Expr->Bool):Bool:=match x with | .Tuple xs _ _=>f xs|_=>false
theorem b8 (h:gY x f=true):∃xs k p,x=.Tuple xs k p/\f xs=true:=by cases x with|Tuple xs k p=>exact⟨xs,k,p,rfl,h⟩|_=>exact Bool.noConfusion h
noncomputable def DE (x:Expr)(f:List Expr->Bool):Bool:=match x with | .List xs _=>f xs|_=>false
theorem yM (h:DE x f=true):∃xs p,x=.List xs p/\f xs=true:=by cases x with|List xs p=>exact⟨xs,p,rfl,h⟩|_=>exact Bool.noConfusion h
noncomputable def on1 {α:Type}(xs:List α)(f:α->Bool):Bool:=match xs with | [a]=>f a|_=>false
theorem bj {α:Type}{xs:List α}{f:α->Bool}(h:on1 xs f=true):∃a,xs=[a]/\f a=true:=by
 cases xs with
 | nil=>exact Bool.noConfusion h
 | cons a t=>cases t with|nil=>exact⟨a,rfl,h⟩|cons _ _=>exact Bool.noConfusion h
noncomputable def on2 {α:Type}(xs:List α)(f:α->α->Bool):Bool:=match xs with | [a,b]=>f a b|_=>false
theorem g_ {α:Type}{xs:List α}{f:α->α->Bool}(h:on2 xs f=true):∃a b,xs=[a,b]/\f a b=true:=by
 cases xs with
 | nil=>exact Bool.noConfusion h
 | cons a t=>cases t with
  | nil=>exact Bool.noConfusion h
  | cons b t=>cases t with|nil=>exact⟨a,b,rfl,h⟩|cons _ _=>exact Bool.noConfusion h
noncomputable def on3 {α:Type}(xs:List α)(f:α->α->α->Bool):Bool:=match xs with | [a,b,c]=>f a b c|_=>false
theorem IP {α:Type}{xs:List α}{f:α->α->α->Bool}(h:on3 xs f=true):∃a b c,xs=[a,b,c]/\f a b c=true:=by
 cases xs with
 | nil=>exact Bool.noConfusion h
 | cons a t=>cases t with
  | nil=>exact Bool.noConfusion h
  | cons b t=>cases t with
   | nil=>exact Bool.noConfusion h
   | cons c t=>cases t with|nil=>exact⟨a,b,c,rfl,h⟩|cons _ _=>exact Bool.noConfusion h
noncomputable def ir {α:Type}(xs:List α)(f:α->List α->Bool):Bool:=match xs with|a::t=>f a t | []=>false
theorem aC {α:Type}{xs:List α}{f:α->List α->Bool}(h:ir xs f=true):∃a t,xs=a::t/\f a t=true:=by
 cases xs with
 | nil=>exact Bool.noConfusion h
 | cons a t=>exact⟨a,t,rfl,h⟩
noncomputable def jQ {α:Type}(x:Option α)(f:α->Bool):Bool:=match x with|some a=>f a|none=>false
theorem gJ {α:Type}{x:Option α}{f:α->Bool}(h:jQ x f=true):∃a,x=some a/\f a=true:=by
 cases x with
 | none=>exact Bool.noConfusion h
 | some a=>exact⟨a,rfl,h⟩
noncomputable def yR (x:Expr)(f:List (Option Expr)->List Expr->Bool):Bool:=match x with | .Dict ks vs _=>f ks vs|_=>false
noncomputable def JP (x:Expr)(f:Expr->Operator->Expr->Bool):Bool:=match x with | .BinOp l o r _=>f l o r|_=>false
theorem CH (h:JP x f=true):∃l o r p,x=.BinOp l o r p/\f l o r=true:=by cases x with|BinOp l o r p=>exact⟨l,o,r,p,rfl,h⟩|_=>exact Bool.noConfusion h
noncomputable def Dv (x:Expr)(f:Expr->Bool):Bool:=match x with | .UnaryOp .USub y _=>f y|_=>false
theorem uB (h:Dv x f=true):∃y p,x=.UnaryOp .USub y p/\f y=true:=by
 cases x with
 | UnaryOp o y p=>cases o with|USub=>exact⟨y,p,rfl,h⟩|_=>exact Bool.noConfusion h
 | _=>exact Bool.noConfusion h
noncomputable def Fs (x:Expr)(f:Expr->Bool):Bool:=match x with | .UnaryOp .Not y _=>f y|_=>false
theorem tO (h:Fs x f=true):∃y p,x=.UnaryOp .Not y p/\f y=true:=by
 cases x with
 | UnaryOp o y p=>cases o with|Not=>exact⟨y,p,rfl,h⟩|_=>exact Bool.noConfusion h
 | _=>exact Bool.noConfusion h
noncomputable def w5 (x:Expr)(f:Expr->CmpOp->Expr->Bool):Bool:=match x with | .Compare l os rs _=>on1 os fun o=>on1 rs fun r=>f l o r|_=>false
theorem tU (h:w5 x f=true):∃l o r p,x=.Compare l [o] [r] p/\f l o r=true:=by
 cases x with
 | Compare l os rs p =>obtain⟨o,rfl,h⟩:=bj h;obtain⟨r,rfl,h⟩:=bj h;exact⟨l,o,r,p,rfl,h⟩
 | _=>exact Bool.noConfusion h
noncomputable def DC (x:Expr)(f:PySem.BoolOp->List Expr->Bool):Bool:=match x with | .BoolOp o xs _=>f o xs|_=>false
theorem kj (h:DC x f=true):∃o xs p,x=.BoolOp o xs p/\f o xs=true:=by cases x with|BoolOp o xs p=>exact⟨o,xs,p,rfl,h⟩|_=>exact Bool.noConfusion h
noncomputable def Jx (x:Expr)(f:Expr->Expr->Expr->Bool):Bool:=match x with | .IfExp y l r _=>f y l r|_=>false
theorem Ck (h:Jx x f=true):∃y l r p,x=.IfExp y l r p/\f y l r=true:=by cases x with|IfExp y l r p=>exact⟨y,l,r,p,rfl,h⟩|_=>exact Bool.noConfusion h
noncomputable def ud (x:Expr)(f:Expr->Expr->Bool):Bool:=match x with | .Subscript l r _=>f l r|_=>false
theorem gu (h:ud x f=true):∃l r p,x=.Subscript l r p/\f l r=true:=by cases x with|Subscript l r p=>exact⟨l,r,p,rfl,h⟩|_=>exact Bool.noConfusion h
noncomputable def Bj (x:Expr)(f:Option Expr->Option Expr->Bool):Bool:=match x with | .Slice u v none _=>f u v|_=>false
theorem wG (h:Bj x f=true):∃u v p,x=.Slice u v none p/\f u v=true:=by
 cases x with
 | Slice u v w p=>cases w with|none=>exact⟨u,v,p,rfl,h⟩|some _=>exact Bool.noConfusion h
 | _=>exact Bool.noConfusion h
noncomputable def FN (x:Expr)(f:Expr->Bool):Bool:=match x with | .Slice none none (some z) _=>f z|_=>false
theorem Aq (h:FN x f=true):∃z p,x=.Slice none none (some z) p/\f z=true:=by
 cases x with
 | Slice u v w p=>cases u with
  | none=>cases v with
   | none=>cases w with|none=>exact Bool.noConfusion h|some z=>exact⟨z,p,rfl,h⟩
   | some _=>exact Bool.noConfusion h
  | some _=>exact Bool.noConfusion h
 | _=>exact Bool.noConfusion h
noncomputable def aQ (x:Expr)(f:Expr->List Expr->Pos->Bool):Bool:=match x with | .Call g xs [] p=>f g xs p|_=>false
theorem aD (h:aQ x f=true):∃g xs p,x=.Call g xs [] p/\f g xs p=true:=by
 cases x with
 | Call g xs ks p=>cases ks with|nil=>exact⟨g,xs,p,rfl,h⟩|cons _ _=>exact Bool.noConfusion h
 | _=>exact Bool.noConfusion h
noncomputable def jb (x:Expr)(f:Expr->Str->Pos->Bool):Bool:=match x with | .Attribute y n p=>f y n p|_=>false
theorem iY (h:jb x f=true):∃y n p,x=.Attribute y n p/\f y n p=true:=by cases x with|Attribute y n p=>exact⟨y,n,p,rfl,h⟩|_=>exact Bool.noConfusion h
noncomputable def Df (x:Expr)(f:Expr->List Comprehension->Scope->Pos->Bool):Bool:=match x with | .ListComp e gs sc p=>f e gs sc p|_=>false
theorem jI (h:Df x f=true):∃e gs sc p,x=.ListComp e gs sc p/\f e gs sc p=true:=by cases x with|ListComp e gs sc p=>exact⟨e,gs,sc,p,rfl,h⟩|_=>exact Bool.noConfusion h
noncomputable def Mb (x:Expr)(f:Expr->Expr->List Comprehension->Scope->Pos->Bool):Bool:=match x with | .DictComp k v gs sc p=>f k v gs sc p|_=>false
theorem Fm (h:Mb x f=true):∃k v gs sc p,x=.DictComp k v gs sc p/\f k v gs sc p=true:=by cases x with|DictComp k v gs sc p=>exact⟨k,v,gs,sc,p,rfl,h⟩|_=>exact Bool.noConfusion h
noncomputable def K9 (wk:DW)(x:Expr)(f:Expr->Bool):Bool:=match wk with
 | .keys=>gQ x && f x
 | .items=>aQ x fun g xs cp=>jb g fun y n ap=>n == ("items":Str) && ap.endLine == cp.line && xs.isEmpty && fF y && f y
 | .values=>aQ x fun g xs cp=>jb g fun y n ap=>n == ("values":Str) && ap.endLine == cp.line && xs.isEmpty && fF y && f y
noncomputable def Lu:DW->Expr->Bool
 | .items,.Tuple ..=>true
 | .items,_=>false
 | .keys,_=>true
 | .values,_=>true
theorem C6 {α:Type}{x:Option α}(h:x.isNone=true):x=none:=by cases x with|none=>rfl|some _=>exact Bool.noConfusion h
noncomputable def Ks (x:Expr)(f:Arguments->Expr->Scope->Bool):Bool:=match x with | .Lambda a b sc _=>f a b sc|_=>false
theorem C7 (h:Ks x f=true):∃a b sc p,x=.Lambda a b sc p/\f a b sc=true:=by cases x with|Lambda a b sc p=>exact⟨a,b,sc,p,rfl,h⟩|_=>exact Bool.noConfusion h
noncomputable def Do (x:Arguments)(f:Str->Bool):Bool:=x.posonlyargs.isEmpty && x.vararg.isNone && x.kwonlyargs.isEmpty && x.kw_defaults.isEmpty && x.kwarg.isNone && x.defaults.isEmpty && on1 x.args fun a=>f a.arg
noncomputable def Cfg.lam (c:Cfg)(k:Nat)(y:Str)(caps:List Nat)(sc:Scope):Cfg:={ c with N:=y::caps.filterMap (c.N[·]?),names:=sc.names,lim:=k,pc:=false,hm:=none }
noncomputable def Cfg.lamOk (c:Cfg)(k:Nat)(y:Str)(caps:List Nat)(sc:Scope):Bool :=
 sc.kind == .function && !sc.isCoroutine && !sc.isGenerator && sc.names.all (fun y=>!(y.2 == .cell)) && sc.names.lookup y == some .local && sc.names.all (fun y=>!(y.2 == .local) || sc.names.lookup y.1 == some .local) && sc.names.all (fun y=>!(y.2 == .free) || C8 (c.names.lookup y.1))
  && decide (k+1<c.lim) && caps.all (fun i=>decide (i<c.N.length)) && (caps.filterMap (c.N[·]?)).all (fun x=>sc.names.lookup x == some .free && C8 (c.names.lookup x)) && decide (y::caps.filterMap (c.N[·]?)).Nodup
mutual
noncomputable def aB (c:Cfg):E->Expr->Bool
 | .var i,x=>ay x fun y _=>c.N[i]? == some y && c.vis y
 | .int i,x=>Bu x fun j=>i == j
 | .bl i,x=>Ma x fun j=>i == j
 | .non,x=>J_ x
 | .str i,x=>uo x fun j=>i == j
 | .gv y v,x=>ay x fun z _=>z == y && c.glb y && jQ (c.gl.lookup y) fun w=>w.same v
 | .tup es,x=>gY x fun xs=>eG c es xs
 | .lst es,x=>DE x fun xs=>eG c es xs
 | .dct1 k i,x=>yR x fun ks vs=>on1 ks fun ok=>jQ ok fun kx=>uo kx fun k'=>on1 vs fun vx=>Bu vx fun i'=>k == k' && i == i'
 | .dct0,x=>yR x fun ks vs=>ks.isEmpty && vs.isEmpty
 | .bin op a b,x=>JP x fun l o r=>o == op && aB c a l && aB c b r
 | .neg a,x=>Dv x fun y=>aB c a y
 | .not a,x=>Fs x fun y=>aB c a y
 | .cmp op a b,x=>w5 x fun l o r=>o == op && !behindInMarks o r && aB c a l && aB c b r
 | .bop k es,x=>DC x fun o xs=>(o == if k then .And else .Or) && eG c es xs && !xs.isEmpty
 | .ite t a b,x=>Jx x fun y l r=>zF c t y && aB c a l && aB c b r
 | .ix a b,x=>ud x fun l r=>nj r && aB c a l && aB c b r
 | .sl a lo hi,x=>ud x fun l r=>Bj r fun u v=>aB c a l && L6 c lo u && L6 c hi v
 | .call f es,x=>aQ x fun g xs _=>ay g fun y _=>c.fn f y && xs.all aj && eG c es xs
 | .blt b es,x=>aQ x fun g xs _=>ay g fun y _=>y == qd b && c.blt y && xs.all aj && !xs.isEmpty && eG c es xs
 | .inst a t,x=>aQ x fun g xs _=>ay g fun y _=>on2 xs fun l r=>ay r fun z _=>y == ("isinstance":Str) && c.blt y && aj l && z == (t:Str) && c.blt z && kinds.contains t && aB c a l
 | .met m o es,x=>aQ x fun g xs cp=>jb g fun y n ap=>n == vn m && ap.endLine == cp.line && xs.all aj && decide (xs.length<=2) && fF y && aB c o y && eG c es xs
 | .comp elt tg it ifs nt caps,x=>Df x fun ex gs sc _=>on1 gs fun g=>g.is_async == 0 && Ay it g.target && gQ g.iter && tg.low nt.length && c.block nt caps sc && By c it g.iter && j6 (c.inner nt caps sc) tg g.target && o6 (c.inner nt caps sc) ifs g.ifs && aB (c.inner nt caps sc) elt ex
 | .tmp a,x=>aB c a x
 | .compK elt tg wk e ifs nt caps,x=>Df x fun ex gs sc _=>on1 gs fun g=>g.is_async == 0 && Lu wk g.target && gQ g.iter && tg.low nt.length && c.block nt caps sc && K9 wk g.iter (fun y=>aB c e y) && j6 (c.inner nt caps sc) tg g.target && o6 (c.inner nt caps sc) ifs g.ifs && aB (c.inner nt caps sc) elt ex
 | .compD kx vx tg wk e ifs nt caps,x=>Mb x fun ek ev gs sc _=>on1 gs fun g=>g.is_async == 0 && Lu wk g.target && gQ g.iter && tg.low nt.length && c.block nt caps sc && K9 wk g.iter (fun y=>aB c e y) && j6 (c.inner nt caps sc) tg g.target && o6 (c.inner nt caps sc) ifs g.ifs && aB (c.inner nt caps sc) kx ek && aB (c.inner nt caps sc) vx ev
 | .dct2 k v,x=>yR x fun ks vs=>on1 ks fun ok=>jQ ok fun kx=>on1 vs fun vx=>aB c k kx && aB c v vx
 | .dcl a,x=>aQ x fun g xs _=>ay g fun y _=>on1 xs fun u=>y == ("dict":Str) && c.blt y && aj u && aB c a u
 | .eqd ne a b,x=>w5 x fun l o r=>(o == if ne then .NotEq else .Eq) && !behindInMarks o r && aB c a l && aB c b r
 | .bad,_=>true
 | .dget a b,x=>aQ x fun g xs cp=>jb g fun y n ap=>on1 xs fun u=>n == ("get":Str) && ap.endLine == cp.line && aj u && fF y && aB c a y && aB c b u
 | .dcp a,x=>aQ x fun g xs _=>ay g fun y _=>on1 xs fun u=>y == ("dict":Str) && c.blt y && aj u && aB c a u
 | .clr a,x=>aQ x fun g xs cp=>jb g fun y n ap=>n == ("clear":Str) && ap.endLine == cp.line && xs.isEmpty && fF y && aB c a y
 | .sset a,x=>aQ x fun g xs _=>ay g fun y _=>on1 xs fun l=>aQ l fun g2 ys _=>ay g2 fun z _=>on1 ys fun u=>y == ("sorted":Str) && c.blt y && z == ("set":Str) && c.blt z && aj l && aj u && aB c a u
 | .jrev a,x=>aQ x fun g xs cp=>jb g fun y n ap=>uo y fun j=>on1 xs fun l=>ud l fun u r=>FN r fun z=>Dv z fun z1=>Bu z1 fun i=>n == ("join":Str) && ap.endLine == cp.line && j == ("":Str) && i == 1 && aB c a u
 | .smx k a b,x=>aQ x fun g xs cp=>jb g fun y n ap=>on1 xs fun l=>n == Ea k && ap.endLine == cp.line && (fF y || zw y) && aj l && aB c a y && aB c b l
 | .part a s,x=>aQ x fun g xs cp=>jb g fun y n ap=>on1 xs fun l=>uo l fun j=>n == ("partition":Str) && ap.endLine == cp.line && j == s && !(s.length == 0) && fF y && aB c a y
 | .pcall i e,x=>c.pc && aQ x fun g xs _=>ay g fun y _=>on1 xs fun l=>c.N[i]? == some y && c.vis y && aj l && aB c e l
 | .hm e be caps,x=>jQ c.hm fun k=>aQ x fun g xs _=>ay g fun y _=>on2 xs fun l r=>Ks r fun as b sc=>Do as fun z=>y == ("how_many":Str) && c.glb y && aj l && c.lamOk k z caps sc && aB c e l && aB (c.lam k z caps sc) be b
termination_by structural e=>e
noncomputable def eG (c:Cfg):Es->List Expr->Bool
 | .nil,xs=>xs.isEmpty
 | .cons e es,xs=>ir xs fun y ys=>aj y && aB c e y && eG c es ys
termination_by structural e=>e
noncomputable def L6 (c:Cfg):O->Option Expr->Bool
 | .no,x=>x.isNone
 | .yes e,x=>jQ x fun y=>aB c e y
termination_by structural e=>e
noncomputable def zF (c:Cfg):E->Expr->Bool
 | .not a,x=>Fs x fun y=>zF c a y
 | .bop k es,x=>DC x fun o xs=>(o == if k then .And else .Or) && !xs.isEmpty && o6 c es xs
 | .cmp op a b,x=>w5 x fun l o r=>o == op && !behindInMarks o r && aB c a l && aB c b r
 | .var i,x=>ay x fun y _=>c.N[i]? == some y && c.vis y
 | .call f es,x=>aQ x fun g xs _=>ay g fun y _=>c.fn f y && xs.all aj && eG c es xs
 | .blt b es,x=>aQ x fun g xs _=>ay g fun y _=>y == qd b && c.blt y && xs.all aj && !xs.isEmpty && eG c es xs
 | .inst a t,x=>aQ x fun g xs _=>ay g fun y _=>on2 xs fun l r=>ay r fun z _=>y == ("isinstance":Str) && c.blt y && aj l && z == (t:Str) && c.blt z && kinds.contains t && aB c a l
 | .tmp a,x=>zu x && aB c a x
 | .ix a b,x=>ud x fun l r=>nj r && aB c a l && aB c b r
 | .pcall i e,x=>c.pc && aQ x fun g xs _=>ay g fun y _=>on1 xs fun l=>c.N[i]? == some y && c.vis y && aj l && aB c e l
 | .eqd ne a b,x=>w5 x fun l o r=>(o == if ne then .NotEq else .Eq) && !behindInMarks o r && aB c a l && aB c b r
 | .compK _ _ _ _ _ _ _,_ | .compD _ _ _ _ _ _ _ _,_ | .dcl _,_ | .dct2 _ _,_ | .hm _ _ _,_ | .bl _,_ | .int _,_ | .non,_ | .str _,_ | .gv _ _,_ | .tup _,_ | .lst _,_ | .dct0,_ | .dct1 _ _,_ | .bin _ _ _,_ | .neg _,_ | .ite _ _ _,_ | .sl _ _ _,_ | .met _ _ _,_ | .comp _ _ _ _ _ _,_ | .bad,_ | .jrev _,_ | .sset _,_ | .clr _,_ | .dcp _,_ | .dget _ _,_ | .part _ _,_ | .smx _ _ _,_=>true
termination_by structural e=>e
noncomputable def o6 (c:Cfg):Es->List Expr->Bool
 | .nil,xs=>xs.isEmpty
 | .cons e es,xs=>ir xs fun y ys=>zF c e y && o6 c es ys
termination_by structural e=>e
noncomputable def By (c:Cfg):It->Expr->Bool
 | .seq e,x=>gQ x && aB c e x
 | .range1 a,x=>aQ x fun g xs _=>ay g fun y _=>on1 xs fun l=>y == ("range":Str) && c.blt y && aj l && aB c a l
 | .range2 a b,x=>aQ x fun g xs _=>ay g fun y _=>on2 xs fun l r=>y == ("range":Str) && c.blt y && aj l && aj r && aB c a l && aB c b r
 | .zip a b,x=>aQ x fun g xs _=>ay g fun y _=>on2 xs fun l r=>y == ("zip":Str) && c.blt y && aj l && aj r && aB c a l && aB c b r
 | .zip3 a b d,x=>aQ x fun g xs _=>ay g fun y _=>on3 xs fun l r u=>y == ("zip":Str) && c.blt y && aj l && aj r && aj u && aB c a l && aB c b r && aB c d u
 | .enum a,x=>aQ x fun g xs _=>ay g fun y _=>on1 xs fun l=>y == ("enumerate":Str) && c.blt y && aj l && aB c a l
 | .chars e,x=>gQ x && aB c e x
 | .range3 a b d,x=>aQ x fun g xs _=>ay g fun y _=>on3 xs fun l r u=>y == ("range":Str) && c.blt y && aj l && aj r && aj u && aB c a l && aB c b r && aB c d u
termination_by structural e=>e
noncomputable def j6 (c:Cfg):Tg->Expr->Bool
 | .name i,x=>ay x fun y _=>c.N[i]? == some y && c.loc y
 | .tup ts,x=>gY x fun xs=>qM c ts xs
 | .ltup ts,x=>gY x fun xs=>qM c ts xs
 | .sub o i,x=>ud x fun l r=>nj r && aB c o l && aB c i r
termination_by structural e=>e
noncomputable def qM (c:Cfg):Tgs->List Expr->Bool
 | .nil,xs=>xs.isEmpty
 | .cons t ts,xs=>ir xs fun y ys=>aj y && j6 c t y && qM c ts ys
termination_by structural e=>e
end
end FW
namespace FW
open L2 HX
noncomputable def bZ (K:W.Frag)(sp:FSp):Sp:=fun vs H Q _=>∃m st as,Rs K m H as vs/\RH K m H st/\sp as st (post K m H Q)
def Lh (P:Program)(w:World)(K:W.Frag)(mg:Str->Option Value)(base:Heap)(k:Nat)(outer:List Env)(s:Shared)(H:Hp)(a:Addr)(L:FSp):Prop :=
 ∀(A':Around) (outer':List Env) (s':Shared) (H':Hp) (u:Value) (v:V) (Q':VK),Room k A'->vU P w K mg base A' outer' s' H'->Un (frs outer) [] H H' s.heap s'.heap->RelV v u->bZ K L [v] H' Q' E0 ->
  W.FnAt a s'.heap/\codeAny (model P w) A' (.call (.ref a) ⟨[u],[]⟩) (CR CX0 outer' P w H' s' Q' E0) s'
def wg (L:FSp):Prop:=∀as st Q Q',(∀v st,Q v st->Q' v st)->L as st Q->L as st Q'
def Hd (a:Nat)(L:FSp):FSp:=fun as st Q=>∃(xs:List PV) (g:PV->Bool),as=[.tup xs,.fn a]/\xs.length<=100000/\(∀y∈xs,∀Q':EK,Q' (.bl (g y)) st->L [y] st Q')/\Q (.int (bsr g xs)) st
structure CT (P:Program)(w:World)(K:W.Frag)(mg:Str->Option Value)(base:Heap)(k:Nat):Prop where
 ex:∃f fd,mg "how_many"=some (.ref f)/\W.keepIn K (.ref f)=true/\Binds K fd ["stair","holds"] [] /\
  ∀(a:Addr) (L:FSp),wg L->∀(A:Around) (outer:List Env) (s:Shared) (H:Hp) (args:Args) (us:List Value) (vs:List V) (Q:VK),Room (k+1) A->vU P w K mg base A outer s H->BindsTo s fd args ((["stair","holds"]:List Str).zip us)->Vals vs us ->
   Lh P w K mg base k outer s H a L->bZ K (Hd a L) vs H Q E0->codeAny (model P w) A (.call (.ref f) args) (CR CX0 outer P w H s Q E0) s
structure HmX (X:Cx)(k:Nat):Prop where
 ok:CT X.prog X.w X.K X.mg X.base (k+1)
 cd:∃x c0 T,x∈aV/\W.tabIn X.K x=some (c0,T)/\X.env.code=.ref c0/\X.env.qual=x++".<locals>."/\W.CodeHd X.base c0 T
 bm:∃bm ob,X.mg "__builtins__"=some (.ref bm)/\bm≠builtinsNs/\X.base.get? bm=some ob/\ob.cls=.type "module"/\ob.dict=some builtinsNs/\ob.data=.plain
structure COk (X:Cx)(c:Cfg)(Γ:Nat->FSp):Prop where
 calm:X.calm=true
 pass:PassesOwn (model X.prog X.w) X.A X.env X.xe
 N:X.N=c.N
 nd:c.N.Nodup
 vis:∀x,c.names.lookup x=some .local\/c.names.lookup x=some .cell\/c.names.lookup x=some .free->Vis X.env.scope x
 loc:∀x,c.names.lookup x=some .local\/c.names.lookup x=some .cell->Loc X.env.scope x/\(X.fn x=true\/X.env.scope.names.lookup x=some .local)
 lcl:∀x,c.names.lookup x=some .local->X.env.scope.names.lookup x=some .local
 glb:∀x,c.names.lookup x=some .globalImplicit->Gl X x
 bk:X.env.blockKind=.function
 cel:∀x,c.names.lookup x=some .cell\/c.names.lookup x=some .free->X.env.kindOf x=some .cell\/X.env.kindOf x=some .free
 room:Room c.lim X.A
 fn:∀f x,f<c.lim->c.fns[f]?=some x->∃ps,Has X.prog X.w X.K X.mg X.base (f+1) x ps (bZ X.K (Γ f))
 blt:∀x∈c.blts,X.mg x=none
 gl:∀x v,c.gl.lookup x=some v->∃u y,X.mg x=some u/\RelV y u/\∀m H,R X.K m H v y
 mono:aW Γ
 lam:c.pc=true->∀ {pins:List (Addr × Obj)}{σ:L2.St}{H:Hp}{s:Shared}{b:Addr}{u:Value}{v:V}{Q:VK},L2.Inv X pins σ H s->RelV v u->bZ X.K (Γ 1000) [.ref b,v] H Q E0 ->
  W.FnAt b s.heap/\wpAny (model X.prog X.w) X.A (call (.ref b) [u]) (EP X pins σ Q) X.xe s
 hmo:∀k,c.hm=some k->HmX X k
section
variable {X:Cx}{c:Cfg}{Γ:Nat->FSp}
theorem COk.visx (C:COk X c Γ)(h:c.vis x=true):Vis X.env.scope x/\(x == ("__debug__":Str))=false/\(x == ("__classdict__":Str))=false:=by unfold Cfg.vis at h;simp only[Bool.and_eq_true,Bool.or_eq_true,beq_iff_eq,Bool.not_eq_true'] at h;exact⟨C.vis x (by rcases h.1.1 with (h|h)|h <;> simp[h]),h.1.2,h.2⟩
theorem COk.glbx (C:COk X c Γ)(h:c.glb x=true):Gl X x/\(x == ("__debug__":Str))=false/\x≠"__name__":=by unfold Cfg.glb at h;simp only[Bool.and_eq_true,beq_iff_eq,Bool.not_eq_true'] at h;exact⟨C.glb x h.1.1,h.1.2,fun z=>by rw[z] at h;exact absurd h.2 (by decide)⟩
theorem COk.bltx (C:COk X c Γ)(h:c.blt x=true):Gl X x/\(x == ("__debug__":Str))=false/\x≠"__name__"/\X.mg x=none:=by unfold Cfg.blt at h;rw[QB] at h;obtain⟨h1,h2,h3⟩:=C.glbx h.1;exact⟨h1,h2,h3,C.blt x (List.contains_iff_mem.mp h.2)⟩
theorem COk.fnx (C:COk X c Γ)(h:c.fn f x=true):Gl X x/\(x == ("__debug__":Str))=false/\Room (f+1) X.A/\∃ps,Has X.prog X.w X.K X.mg X.base (f+1) x ps (bZ X.K (Γ f)):=by unfold Cfg.fn at h;simp only[Bool.and_eq_true,beq_iff_eq,decide_eq_true_eq] at h;obtain⟨h1,h2,h3⟩:=C.glbx h.2;exact⟨h1,h2,C.room.mono h.1.2,C.fn f x h.1.2 h.1.1⟩
theorem JZ:∀b:B,bootBuiltins (qd b)=some (MU b):=by intro b;cases b <;> decide +kernel
theorem zI:∀t∈kinds,bootBuiltins (t:Str)=some (.type t):=by decide +kernel
theorem xi:bootBuiltins ("isinstance":Str)=some (.builtin "isinstance"):=by decide +kernel
theorem zm (h:zu x=true)(env:Env):∀whole,isTrue x env whole=(do let v <-whole;standAt x.pos;holding [v] (truthy v)):=by cases x <;> first|(intro _;rfl)|cases h
theorem lW (h:Rs K m H as vs):Rs K m H as (vs++[]):=by rw[SD];exact h
theorem yJ (C:COk X c Γ){xs:List Expr}(hf:c.fn f y=true)(hn:xs.all aj=true)(hc:eG c es xs=true)(ha:PA X xs (TAx X.K (cC Γ es))) :
  PE X (.Call (.Name y p) xs [] pos) (TEx X.K fun ρ st Q=>cC Γ es ρ st fun vs st1=>Γ f vs st1 Q):=by
 obtain⟨h1,h2,hr,ps,F⟩:=C.fnx hf;have key:∀ {σ:L2.St}{H:Hp}{Q:VK},TEx X.K (fun ρ st Q=>cC Γ es ρ st fun vs st1=>Γ f vs st1 Q) σ H Q->mJ (bZ X.K (Γ f)) [] E0 (TAx X.K (cC Γ es)) σ H Q:=by rintro σ H Q ⟨m,ρ,st,rf,rh,w⟩;exact⟨m,ρ,st,rf,rh,aA C.mono es (fun vs st1 k m1 H1 xs1 e1 r1 r2=>⟨m1,st1,vs,lW r2,r1,C.mono _ _ _ _ _ (fun _ _ q=>q.ext e1) k⟩) w⟩
 intro pins s σ H Q I h;cases xs with
 | nil =>
  refine Ig F hr h1 h2 pins s σ H Q I ?_;obtain⟨m,ρ,st,rf,rh,w⟩:=h;cases es with
  | nil=>exact⟨m,st,[],Rs_nil.mpr rfl,rh,w⟩
  | cons e es=>exact Bool.noConfusion (show false=true from hc)
 | cons x xs =>rw[RN,QB] at hn;exact HC F hr ha h1 h2 hn.1 hn.2 pins s σ H Q I (key h)
theorem xk (C:COk X c Γ){y:Str}{xs:List Expr}(hy:y=qd b)(hb:c.blt y=true)(hn:xs.all aj=true)(hne:xs.isEmpty=false)(ha:PA X xs (TAx X.K (cC Γ es))) :
  PE X (.Call (.Name y p) xs [] pos) (TEx X.K fun ρ st Q=>cC Γ es ρ st fun vs st1=>gj b vs st1 Q):=by
 obtain⟨h1,h2,h3,h4⟩:=C.bltx hb;have hv:=JZ b;rw[<-hy] at hv;have key:∀ {σ:L2.St}{H:Hp}{Q:VK},TEx X.K (fun ρ st Q=>cC Γ es ρ st fun vs st1=>gj b vs st1 Q) σ H Q->tCB (OL X.K (gj b)) (TAx X.K (cC Γ es)) σ H Q:=by rintro σ H Q ⟨m,ρ,st,rf,rh,w⟩;exact⟨m,ρ,st,rf,rh,aA C.mono es (fun vs st1 k m1 H1 xs1 e1 r1 r2=>⟨m1,st1,vs,r1,r2,kh (fun _ _ q=>q.ext e1) k⟩) w⟩
 have hc:=Em C.calm C.room.gd C.room.units b;cases xs with
 | nil=>cases hne
 | cons x xs =>
  rw[RN,QB] at hn;intro pins s σ H Q I h;cases b <;> first
   | exact uj hc h1 h4 hv ha h3 h2 hn.1 hn.2 pins s σ H Q I (key h)
   | exact rF hc h1 h4 hv ha h3 h2 hn.1 hn.2 pins s σ H Q I (key h)
theorem Cr (m:M):PlainAttrs "list"/\Slot "list" (vn m) (Bc m)/\typeOf (.builtin (Bc m))=pure (.type "method_descriptor"):=by
 cases m
 ·exact⟨RD,PySem.F.slot_list_append,PySem.F.type_list_append⟩
 ·exact⟨RD,PySem.F.slot_list_pop,PySem.F.type_list_pop⟩
 ·exact⟨RD,PySem.F.slot_list_extend,PySem.F.type_list_extend⟩
 ·exact⟨RD,PySem.F.slot_list_insert,PySem.F.type_list_insert⟩
 ·exact⟨RD,PySem.F.slot_list_count,PySem.F.type_list_count⟩
 ·exact⟨RD,PySem.F.slot_list_index,PySem.F.type_list_index⟩
 ·exact⟨RD,PySem.F.slot_list_pop,PySem.F.type_list_pop⟩
theorem ku (h:fF y=true):attributeBase y n env w=w:=by cases y <;> first|rfl|cases h
theorem FJ (C:COk X c Γ){n:Str}{ap cp:Pos}{xs:List Expr}(hn:n=vn m)(hl:(ap.endLine == cp.line)=true)(hs:xs.all aj=true)(h2:xs.length<=2)(hy:fF y=true)(ho:PE X y (TEx X.K (wpE Γ o)))(ha:PA X xs (TAx X.K (cC Γ es)))(hc:eG c es xs=true) :
  PE X (.Call (.Attribute y n ap) xs [] cp) (TEx X.K (wpE Γ (.met m o es))):=by
 obtain⟨pa,slot,ty⟩:=Cr m;rw[<-hn] at slot;have hm:MtR X (Bc m) (OE X.K (x9 m)):=LY m;intro pins s σ H Q I h;obtain⟨mm,ρ,st,rf,rh,w⟩:=h
 skip
 have tyv:∀ {m1:List Addr} {H1:Hp} {st1:AH} {v:PV} {x:V},RH X.K m1 H1 st1->R X.K m1 H1 v x->(∃xs,bG st1 v=some xs)->tyV X.K "list" x H1:=by rintro m1 H1 st1 v x r1 r2 ⟨xs,e⟩;obtain⟨a,ys,rfl,g,_⟩:=gr r1 r2 e;exact .inl ⟨rfl,ys,g⟩
 match xs,hs,h2,ha,hc with
 | [],hs,h2,ha,hc =>
  refine Lq pa slot ty hm ho (ku hy) hl pins s σ H Q I ?_;refine⟨mm,ρ,st,rf,rh,ae C.mono o (fun v st1 k m1 H1 x1 e1 r1 r2=>⟨tyv r1 r2 k.1,?_⟩) w⟩;cases es with
  | nil =>
   have k2:=k.2
   skip
   exact⟨m1,st1,v,[],r1,r2,Rs_nil.mpr rfl,ke (fun _ _ q=>q.ext e1) k2⟩
  | cons e es=>exact Bool.noConfusion (show false=true from hc)
 | [a],hs,h2,ha,hc =>simp only[List.all_cons,List.all_nil,Bool.and_true] at hs;have st1:starEach [a] X.env=[(false,eval a X.env)]:=av hs;refine t4 pa slot ty hm ho ha (ku hy) (by rw[st1];rfl) hl st1 rfl pins s σ H Q I ?_;refine⟨mm,ρ,st,rf,rh,ae C.mono o (fun v st1 k m1 H1 x1 e1 r1 r2=>⟨tyv r1 r2 k.1,?_⟩) w⟩;exact⟨m1,ρ,st1,rf.mono e1,r1,aA C.mono es (fun vs st2 k m2 H2 xs2 e2 r3 r4=>⟨m2,st2,v,vs,r3,r2.mono e2,r4,ke (fun _ _ q=>q.ext (e1.trans e2)) k⟩) k.2⟩
 | [a,b],hs,h2,ha,hc =>simp only[List.all_cons,List.all_nil,Bool.and_true,Bool.and_eq_true] at hs;have stb:starEach [b] X.env=[(false,eval b X.env)]:=av hs.2;have st1:starEach [a,b] X.env=(false,eval a X.env)::starEach [b] X.env:=av hs.1;refine t4 pa slot ty hm ho ha (ku hy) (by rw[st1,stb];rfl) hl st1 (by rw[stb];rfl) pins s σ H Q I ?_;refine⟨mm,ρ,st,rf,rh,ae C.mono o (fun v st1 k m1 H1 x1 e1 r1 r2=>⟨tyv r1 r2 k.1,?_⟩) w⟩;exact⟨m1,ρ,st1,rf.mono e1,r1,aA C.mono es (fun vs st2 k m2 H2 xs2 e2 r3 r4=>⟨m2,st2,v,vs,r3,r2.mono e2,r4,ke (fun _ _ q=>q.ext (e1.trans e2)) k⟩) k.2⟩
 | _::_::_::_,hs,h2,ha,hc=>simp at h2
mutual
theorem PV.bel_le {i j:Nat}(h:i<=j):∀ {v:PV},v.bel i=true->v.bel j=true
 | .non,_=>by rw[PV.bel]
 | .bl _,_=>by rw[PV.bel]
 | .int _,_=>by rw[PV.bel]
 | .str _,_=>by rw[PV.bel]
 | .ref n,z=>by rw[PV.bel] at z |-;have:=RB z;exact QM (by omega)
 | .tup xs,z=>by rw[PV.bel] at z |-;exact PV.bels_le h z
 | .rdl xs,z=>by rw[PV.bel] at z |-;exact PV.bels_le h z
 | .fn _,z=>by rw[PV.bel] at z;cases z
theorem PV.bels_le {i j:Nat}(h:i<=j):∀ {vs:List PV},PV.bels i vs=true->PV.bels j vs=true
 | [],_=>by rw[PV.bels]
 | v::vs,z=>by rw[PV.bels,QB] at z |-;exact⟨PV.bel_le h z.1,PV.bels_le h z.2⟩
end
theorem AC (C:COk X c Γ){t:String}{y:Str}(h:(y == ("isinstance":Str) && c.blt y && aj l && z == (t:Str) && c.blt z && kinds.contains t)=true)(ha:PE X l (TEx X.K (wpE Γ a))) :
  PE X (.Call (.Name y p) [l,.Name z q] [] pos) (TEx X.K (wpE Γ (.inst a t))):=by
 simp only[Bool.and_eq_true,beq_iff_eq] at h;obtain⟨⟨⟨⟨⟨h1,h2⟩,h3⟩,h4⟩,h5⟩,h6⟩:=h;subst h1 h4;have ht:t∈kinds:=List.contains_iff_mem.mp h6;obtain⟨g1,g2,g3,g4⟩:=C.bltx h2;obtain⟨k1,k2,k3,k4⟩:=C.bltx h5;rintro pins s σ H Q I ⟨m,ρ,st,rf,rh,w⟩
 skip
 have pt:PE X (.Name (t:Str) q) (tC (.ty t)):=Iv k1 k4 (zI t ht) rfl k3 k2;have hA:PA X [l,.Name (t:Str) q] (fj (TEx X.K (wpE Γ a)) (fj (tC (.ty t)) om)):=pac ha (pac pt eg) h3;have hC:fO X (.builtin "isinstance") (fun xs H Q=>∃m st x y n,RH X.K m H st/\R X.K m H x y/\xs=[y,.ty t]/\bW st x=some n/\Q (.bl (bH t n)) H):=by rintro pins s σ H xs us Q I r ⟨m,st,x,y,n,r1,r2,rfl,e,q⟩;obtain⟨u,v,rfl,ru,rv⟩:=wD r;cases (show v=Value.type t from rv);exact GY (K:=X.K) I r1 r2 ru e ht fun tk=>⟨.bl _,H,I.tok tk,rfl,q⟩
 refine uj hC g1 g4 xi hA g3 g2 h3 rfl pins s σ H Q I ?_;refine⟨m,ρ,st,rf,rh,ae C.mono a (fun v st1 k m1 H1 x1 e1 r1 r2=>?_) w⟩;obtain⟨n,e,k⟩:=k;exact⟨m1,st1,v,x1,n,r1,r2,rfl,e,(k.ext e1).here r1 (R_bl.mpr rfl)⟩
theorem Dr (C:COk X c Γ){i:Nat}(h:(c.N[i]? == some y && c.vis y)=true):PE X (.Name y p) (TEx X.K (wpE Γ (.var i))):=by simp only[Bool.and_eq_true,beq_iff_eq] at h;obtain⟨h1,h2,h3⟩:=C.visx h.2;rintro pins s σ H Q I ⟨m,ρ,st,rf,rh,w⟩;obtain⟨v,e,w⟩:=m_ w;obtain⟨y,e2,r⟩:=rf.at_ i v e;exact yP (by rw[C.N];exact h.1) h1 h2 h3 pins s σ H Q I ⟨y,e2,w.here rh r⟩
theorem pS (rh:RH K m H st)(e:Ext K m H m' H')(rh':RH K m' H' st')(r:R K m' H' v x)(q:Tmp st Q v st') :
  ∃st1,Q v st1/\Ext K m H m H'/\RH K m H' st1/\R K m H' v x:=by
 obtain⟨st1,g,rfl,hl,hs,hb,q⟩:=q;have hm:m'.take m.length=m:=by obtain⟨t,ht⟩:=e.pre;rw[<-ht,U1]
 have hlen:m.length=st.length:=rh.len;refine⟨st1,q,⟨S0 _,fun _ z=>.inl z,e.fr,e.tup,e.rdf,e.tbs,e.tb,e.frz⟩,⟨by rw[hl,hlen],rh.nd,fun n c a h1 h2=>?_,e.tb rh.tb⟩,?_⟩
 ·have hn:n<st1.length:=(P8.mp h1).1;have c1:CellR K m' H' c a:=rh'.at_ n c a (by rw[QT hn];exact h1) (l9 e.pre h2);have hc:c.bec m.length=true:=by
   rcases hs n (by omega) with z|⟨c',z,zb⟩
   ·rw[h1] at z;exact(rh.at_ n c a z.symm h2).bel
   ·rw[h1] at z;cases z;have zb':∀ {c:Cell},c.bel 0=true->c.bec m.length=true:=by
     have b0:∀(xs:List PV),PV.bels 0 xs=true->PV.becs m.length xs=true:=fun xs h=>PV.bels_becs (Q8 _) h;intro c h;cases c with
     | lst xs=>exact b0 _ h
     | dk kvs=>exact b0 _ h
     | fz kvs=>cases h
    exact zb' zb
  have:=c1.cut hc;rw[hm] at this;exact this
 ·have:=r.cut (k:=m.length) (by rw[hlen];exact PV.bel_bec (P6 _) hb);rw[hm] at this;exact this
noncomputable def postF (K:W.Frag)(m:List Addr)(H:Hp)(Q:L2.St->Hp->Prop):Fr->AH->Prop:=fun ρ' st'=>∀m' H' σ',Ext K m H m' H'->RH K m' H' st'->RF K m' H' ρ' σ'->Q σ' H'
theorem postF.ext (x:Ext K m H m1 H1)(q:postF K m H Q ρ st):postF K m1 H1 Q ρ st:=fun m' H' σ' e r s=>q m' H' σ' (x.trans e) r s
theorem postF.here (q:postF K m H Q ρ st)(h:RH K m H st)(r:RF K m H ρ σ):Q σ H:=q m H σ (Ext.refl _ _ _) h r
noncomputable def TGx (K:W.Frag)(w:PV->Fr->AH->(Fr->AH->Prop)->Prop):TG:=fun v' σ H Q=>∃m ρ st v,RF K m H ρ σ/\RH K m H st/\R K m H v v'/\w v ρ st (postF K m H Q)
noncomputable def PY (K:W.Frag)(w:List PV->Fr->AH->(Fr->AH->Prop)->Prop):TGs:=fun v' σ H Q=>∃m ρ st v,RF K m H ρ σ/\RH K m H st/\Rs K m H v v'/\w v ρ st (postF K m H Q)
theorem COk.locx (C:COk X c Γ)(h:c.loc x=true):Loc X.env.scope x/\(X.fn x=true\/X.env.scope.names.lookup x=some .local):=by unfold Cfg.loc at h;simp only[Bool.or_eq_true,beq_iff_eq] at h;exact C.loc x h
theorem COk.ndX (C:COk X c Γ):X.N.Nodup:=by rw[C.N];exact C.nd
theorem lj {es:List Expr}(h:aj e=true):assignEach (e::es) env=(false,assign e env)::assignEach es env:=by cases e <;> first|rfl|cases h
theorem sm:∀ {ts:Tgs}{xs:List Expr}{env:Env},qM c ts xs=true->(assignEach xs env).length=ts.size/\(assignEach xs env).findIdx? (·.1)=none
 | .nil,xs,env,h=>by
  have h:xs.isEmpty=true:=h;cases xs with
  | nil=>exact⟨rfl,rfl⟩
  | cons _ _=>cases h
 | .cons t ts,xs,env,h=>by
  replace h:=aC h;obtain⟨y,ys,rfl,h⟩:=h
  ·simp only[Bool.and_eq_true] at h;obtain⟨⟨h1,h2⟩,h3⟩:=h;obtain⟨g1,g2⟩:=sm (env:=env) h3;rw[lj h1];exact⟨by simp[g1,Tgs.size],by simp[List.findIdx?_cons,g2]⟩
structure qK (K:W.Frag)(J:L2.It)(xs:List PV)(chk:AH->Prop)(m0:List Addr)(H0:Hp):Prop where
 stop:∀m H st,Ext K m0 H0 m H->RH K m H st->chk st->J.stop xs.length H
 item:∀(i:Nat) v m H st,Ext K m0 H0 m H->RH K m H st->chk st->xs[i]?=some v->J.go i H/\∀x H',J.yld i H x H'->Ext K m H m H'/\RH K m H' st/\R K m H' v x
noncomputable def TIx (K:W.Frag)(w:Fr->AH->(List PV->(AH->Prop)->AH->Prop)->Prop):TI:=fun σ H Rr=>∃m ρ st,RF K m H ρ σ/\RH K m H st /\
 w ρ st fun xs chk st1=>∀m1 H1 J,Ext K m H m1 H1->RH K m1 H1 st1->qK K J xs chk m1 H1->Rr J H1
theorem qh (h:gQ x=true):∀v,foldedSetIterable x env v=pure v:=by cases x <;> first|(intro _;rfl)|cases h
theorem Mr {tl:TE}(hl:PE X l tl):PI X tg l (fun σ H Rr=>tl σ H fun x H1=>∃a,x=.ref a/\((∃xs,SqL X.K H1 a xs)/\Rr (Itl X.K a) H1\/(∃xs,SqT X.K H1 a xs)/\Rr (Itt X.K a) H1)):=by
 intro pins s σ H Rr I h;refine thn (hl pins s σ H _ I h) fun v s1 ⟨x,H1,I1,r1,q1⟩=>?_;obtain⟨a,e,q1⟩:=q1;subst e;cases r1;rcases q1 with⟨⟨xs,hq⟩,q⟩|⟨⟨xs,hq⟩,q⟩
 ·obtain⟨its,rv,p,hz⟩:=I1.list hq;refine wpAny_pyIter_list p.isList ?_;refine⟨s1.heap.objs.size,[s1.heap.objs.size],_,_,H1,rfl,I1.kept (t':=s1.toks) fun b o e=>P2 _ e,Cd a _,⟨_,QG _ rfl,rfl,rfl⟩,fun b hb=>?_,q⟩;have e:b=s1.heap.objs.size:=by simpa using hb
  subst e;exact I1.fpOk (P6 _) (I1.hok.fresh (P6 _))
 ·obtain⟨its,rv,p,hz⟩:=I1.tuple hq;refine wpAny_pyIter_tuple (show s1.heap.IsTuple a its.toArray from p) ?_;refine⟨s1.heap.objs.size,[s1.heap.objs.size],_,_,H1,rfl,I1.kept (t':=s1.toks) fun b o e=>P2 _ e,zB a _,⟨_,QG _ rfl,rfl,rfl⟩,fun b hb=>?_,q⟩;have e:b=s1.heap.objs.size:=by simpa using hb
  subst e;exact I1.fpOk (P6 _) (I1.hok.fresh (P6 _))
theorem Cg {n:Nat}(rh:RH K m0 H0 st0)(e:st0[n]?=some (.lst xs))(ea:m0[n]?=some a):qK K (Itl K a) xs (fun st'=>st'[n]?=st0[n]?) m0 H0:=by
 have get:∀m H st,Ext K m0 H0 m H->RH K m H st->st[n]?=st0[n]?->∃ys,H a=some (.lst ys)/\Rs K m H xs ys:=fun m H st x r q=>by rw[e] at q;exact r.at_ n _ a q (l9 x.pre ea)
 refine⟨fun m H st x r q=>?_,fun i v m H st x r q ev=>?_⟩
 ·obtain⟨ys,h1,h2⟩:=get m H st x r q;exact⟨ys,SqL.of h1,by rw[h2.len];exact P6 _⟩
 ·obtain⟨ys,h1,h2⟩:=get m H st x r q;obtain⟨y,e1,r1⟩:=h2.get ev;refine⟨⟨ys,y,SqL.of h1,e1⟩,fun z H' ⟨e2,e3⟩=>?_⟩;subst e2;have:=e3 ys (SqL.of h1);rw[e1] at this;cases this;exact⟨Ext.refl _ _ _,r,r1⟩
theorem F4 (h:RdF K H0 a ys)(r0:Rs K m0 H0 xs ys):qK K (Itl K a) xs (fun _=>True) m0 H0:=by refine⟨fun m H st x r q=>⟨ys,(x.rdf _ _ h).sq,by rw[r0.len];exact P6 _⟩,fun i v m H st x r q ev=>?_⟩;obtain⟨y,e1,r1⟩:=(r0.mono x).get ev;refine⟨⟨ys,y,(x.rdf _ _ h).sq,e1⟩,fun z H' ⟨e2,e3⟩=>?_⟩;subst e2;have:=e3 ys (x.rdf _ _ h).sq;rw[e1] at this;cases this;exact⟨Ext.refl _ _ _,r,r1⟩
theorem D8 (h:SqT K H0 a ys)(r0:Rs K m0 H0 xs ys):qK K (Itt K a) xs (fun _=>True) m0 H0:=by refine⟨fun m H st x r q=>⟨ys,x.tup _ _ h,by rw[r0.len];exact P6 _⟩,fun i v m H st x r q ev=>?_⟩;obtain⟨y,e1,r1⟩:=(r0.mono x).get ev;refine⟨⟨ys,y,x.tup _ _ h,e1⟩,fun z H' ⟨e2,e3⟩=>?_⟩;subst e2;have:=e3 ys (x.tup _ _ h);rw[e1] at this;cases this;exact⟨Ext.refl _ _ _,r,r1⟩
theorem rN:qK K (Itr lo n) (dH lo n) (fun _=>True) m0 H0:=by
 refine⟨fun m H st x r q=>by show n<=_;simp[dH],fun i v m H st x r q ev=>?_⟩;unfold dH at ev;rw[QK] at ev;have hi:i<n:=by
  by_cases hi:i<n
  ·exact hi
  ·rw[RW (by simp;omega)] at ev;cases ev
 rw[SI hi] at ev;cases ev;refine⟨hi,fun z H' ⟨e2,e3⟩=>?_⟩;subst e2 e3;exact⟨Ext.refl _ _ _,r,R_int.mpr rfl⟩
end
end FW
namespace FW
open L2 HX
section
variable {X:Cx}{c:Cfg}{Γ:Nat->FSp}
noncomputable def P1 (prog:Program)(w:World)(a:Addr)(ns:List Int):HO:=.ext fun h=>PM prog w (!(byT w)) h a ns
end
end FW
namespace FW
open L2 HX
section
variable {X:Cx}{pins:List (Addr × Obj)}{σ:L2.St}{H:Hp}{s:Shared}{h':Heap}
theorem BM {t':Nat}{wr:List Addr}(I:L2.Inv X pins σ H s)(k:∀b o,b ∉ wr->s.heap.get? b=some o->h'.get? b=some o)(hf:∀b∈wr,jX X pins H b):L2.Inv X pins σ H { s with heap:=h',toks:=t' }:=by
 have nit:∀b u,H b=some u->b ∉ wr:=fun b u e z=>by rw[(hf b z).1] at e;cases e
 refine I.step (g':=s.gens) (d':=s.drawn) (ch:=wr) (fun b hb=>⟨(hf b hb).2.2.2.1,(hf b hb).2.1,(hf b hb).2.2.2.2.1,(hf b hb).2.2.2.2.2⟩) (fun b o _ _ hc e _=>k b o hc e) (fun b o _ _ hc e _=>⟨o.slots,k b o hc e⟩) (fun _ _ _ _ n=>n)
  (fun b o hc e=>⟨o,k b o hc e⟩) (fun _ _ e=>e) (fun _ _ _ e=>e) (fun b ps e=>⟨#[],by rw[e];simp⟩) (fun m hm=>?_) (fun b u e=>?_) I.bare
 ·obtain⟨o,es,ep,ho,r⟩:=hm;exact⟨o,es,ep,k _ o (fun z=>(hf _ z).2.1 rfl) ho,r⟩
 ·refine(I.hok b u e).stay (fun c v hc q=>k c v ?_ q) (fun _ q=>q) fun _ _ q=>q;rcases hc with z|z
  ·rw[z];exact nit b u e
  ·exact nit c _ z
theorem Bt {t':Nat}{wr:List Addr}{T:Addr}{xs:List V}{its:List Value}(I:L2.Inv X pins σ H s)(k:∀b o,b ∉ wr->s.heap.get? b=some o->h'.get? b=some o)(hf:∀b∈wr,jX X pins H b)
  (hT:s.heap.objs.size<=T) (hx:Vals xs its) (hz:xs.length<=sizeLine) (ht:h'.IsTuple T its.toArray):L2.Inv X pins σ (upd H T (.tup xs)) { s with heap:=h',toks:=t' }:=by
 have nit:∀b u,H b=some u->b ∉ wr:=fun b u e z=>by rw[(hf b z).1] at e;cases e
 have hn:H T=none:=I.hok.fresh hT;have up:∀b u,H b=some u->upd H T (.tup xs) b=some u:=fun b u e=>by rw[ak (aI e hn)];exact e
 refine I.step (g':=s.gens) (d':=s.drawn) (ch:=wr) (fun b hb=>⟨(hf b hb).2.2.2.1,(hf b hb).2.1,(hf b hb).2.2.2.2.1,(hf b hb).2.2.2.2.2⟩) (fun b o _ _ hc e _=>k b o hc e) (fun b o _ _ hc e _=>⟨o.slots,k b o hc e⟩)
  (fun b o _ e n=>by rw[ak (QU (P7 (QF e) hT))];exact n)
  (fun b o hc e=>⟨o,k b o hc e⟩) (fun b _ e=>up b _ e) (fun b _ _ e=>up b _ e) (fun b ps e=>⟨#[],by rw[up b _ e];simp⟩) (fun m hm=>?_) (fun b u e=>?_) I.bare
 ·obtain⟨o,es,ep,ho,r⟩:=hm;exact⟨o,es,ep,k _ o (fun z=>(hf _ z).2.1 rfl) ho,r⟩
 ·by_cases hb:b=T
  ·subst hb;rw[bY] at e;cases e;exact⟨hz,its,hx,ht⟩
  ·rw[ak hb] at e;refine(I.hok b u e).stay (fun c v hc q=>k c v ?_ q) (fun c q=>up c _ q) fun c _ q=>up c _ q;rcases hc with z|z
   ·rw[z];exact nit b u e
   ·exact nit c _ z
end
theorem nk:∀ {xs ys:List PV},(ig xs ys).length=min xs.length ys.length
 | [],ys=>by simp[ig]
 | x::xs,[]=>by simp[ig]
 | x::xs,y::ys=>by simp only[ig,List.length_cons,nk (xs:=xs) (ys:=ys)];omega
theorem qY:∀ {xs ys:List PV}{i:Nat}{v:PV},(ig xs ys)[i]?=some v->∃x y,xs[i]?=some x/\ys[i]?=some y/\v=.tup [x,y]
 | [],ys,i,v,h=>by simp[ig] at h
 | x::xs,[],i,v,h=>by simp[ig] at h
 | x::xs,y::ys,0,v,h=>by simp[ig] at h;exact⟨x,y,rfl,rfl,h.symm⟩
 | x::xs,y::ys,i+1,v,h=>by
  simp only[ig,List.getElem?_cons_succ] at h |-
  exact qY h
end FW
namespace FW
open L2 HX
theorem GP {h:Heap}{i:Nat}(e:h.get? it=some o)(hc:o.cls=.type "tuple_iterator")(hd:o.data=.fields #[.ref t,.int (i:Int) 0]) :
  (h.update it (Obj.mapFields fun z=>z.setIfInBounds k x)).get? it=some (Obj.mapFields (fun z=>z.setIfInBounds k x) o):=by
 refine SB _ e ?_;obtain⟨c,d,da,sl⟩:=o;simp only at hc hd;subst hc hd;rfl
theorem yG (it t:Addr)(i:Nat)(items:Array Value)(x:Value):Meets (Builtin.«tuple_iterator.__next__» { pos:=[.ref it] }) fun _ R s =>
  s.heap.IsTupleIter it t i/\s.heap.IsTuple t items/\items[i]?=some x/\∀h',h'.IsTupleIter it t (i+1)->Heap.SameBut it s.heap h'->R (.ok (.ret x)) { s with heap:=h' }:=by
 intro prog w A R s ⟨⟨o,e,hc,hd⟩,⟨o2,e2,hc2,n,hd2⟩,hx,h⟩;refine P4 (QE ?_);refine P4 (wpAny_field (i:=0) e hd rfl ?_);refine P4 (wpAny_field (i:=1) e hd rfl ?_);refine P4 (wpAny_seqItems e2 hd2 ?_);show wpAny _ _ (match items[((i:Nat):Int).toNat]? with|some x=>_|none=>_) _ _ _;rw[UJ,hx];refine P4 (wpAny_setField e hd (S1 1) ?_);refine QE ?_;refine h _ ⟨_,GP e hc hd,?_,?_⟩ (Heap.SameBut.update _ _ _)
 ·obtain⟨c,d,da,sl⟩:=o;simp only at hc hd;subst hc hd;rfl
 ·obtain⟨c,d,da,sl⟩:=o;simp only at hc hd;subst hc hd;show Data.fields #[.ref t,rawInt ((i:Int)+1)]=Data.fields #[.ref t,.int ((i+1:Nat):Int) 0];rw[T5];rfl
theorem IA {α:Type}{M:Model}{A:Around}{E:Value->Shared->Prop}{s:Shared}{Q:α->Shared->Prop}(hh:A.handled=none)(h:∀h' e,(∀b o,s.heap.get? b=some o->h'.get? b=some o)->(∃o,h'.get? e=some o/\o.cls=.type "StopIteration")->E (.ref e) { s with heap:=h' }) :
  wpAny M A (Builtin.SmallTypes.stopIteration:Sem α) Q E s:=by
 refine P4 ?_;refine P4 (wpAny_newTuple ?_);refine P4 (QE ?_);refine wpAny_newObj_type (wpAny_raiseNew_none hh ?_);refine h _ _ (fun b o e=>P2 _ (P2 _ e)) ⟨_,QG _ rfl,rfl⟩
theorem z_ (it t:Addr)(i:Nat)(items:Array Value):Meets (Builtin.«tuple_iterator.__next__» { pos:=[.ref it] }) fun A R s =>
  A.handled=none/\s.heap.IsTupleIter it t i/\s.heap.IsTuple t items/\items[i]?=none/\∀h' e,Heap.ExtBut it s.heap h'->(∃o,h'.get? e=some o/\o.cls=.type "StopIteration")->R (.error (.ref e)) { s with heap:=h' }:=by
 intro prog w A R s ⟨hh,⟨o,e,hc,hd⟩,⟨o2,e2,hc2,n,hd2⟩,hx,h⟩;refine P4 (QE ?_);refine P4 (wpAny_field (i:=0) e hd rfl ?_);refine P4 (wpAny_field (i:=1) e hd rfl ?_);refine P4 (wpAny_seqItems e2 hd2 ?_);show wpAny _ _ (match items[((i:Nat):Int).toNat]? with|some x=>_|none=>_) _ _ _;rw[UJ,hx];refine P4 (wpAny_rule ?_);refine P4 (wpAny_setField e hd (S2 1) ?_);refine IA hh fun h' x k1 k2=>h h' x (fun b o' hb eb=>k1 b o' ?_) k2;show (s.heap.update it _).get? b=some o';rw[Heap.get?_update_ne _ _ _ _ hb];exact eb
section
variable {prog:Program}{w:World}{A:Around}{E:Value->Shared->Prop}{s:Shared}{it t:Addr}{i:Nat}{items:Array Value}
theorem nB {Q:Value->Shared->Prop}(hi:s.heap.IsTupleIter it t i)(ht:s.heap.IsTuple t items)(hx:items[i]?=some x)(h:∀h',h'.IsTupleIter it t (i+1)->Heap.SameBut it s.heap h'->Q x { s with heap:=h' }) :
  wpAny (model prog w) A (Builtin.SmallTypes.nextOf (.ref it)) Q E s:=by
 refine P4 (wpAny_callSpecial?_slot hi.typeIs R9 ?_);refine call_meets R9 hi.typeIs F.entry_tuple_iterator_next (F.args_tuple_iterator_next_1 _) (yG it t i items x) ⟨hi,ht,hx,fun h' k1 k2=>QE (h h' k1 k2)⟩
theorem oO (hh:A.handled=none)(hi:s.heap.IsTupleIter it t i)(ht:s.heap.IsTuple t items)(hx:items[i]?=none)(h:∀h' e,Heap.ExtBut it s.heap h'->(∃o,h'.get? e=some o/\o.cls=.type "StopIteration")->E (.ref e) { s with heap:=h' }) :
  wpAny (model prog w) A (Builtin.SmallTypes.nextOf (.ref it)) Q E s:=by
 refine P4 (wpAny_callSpecial?_slot hi.typeIs R9 ?_);exact call_meets R9 hi.typeIs F.entry_tuple_iterator_next (F.args_tuple_iterator_next_1 _) (z_ it t i items) ⟨hh,hi,ht,hx,h⟩
end
theorem r9 {h h':Heap}(k:∀o,h.get? it=some o->h'.get? it=some o)(z:h.IsTupleIter it t i):h'.IsTupleIter it t i:=by obtain⟨o,e,r⟩:=z;exact⟨o,k o e,r⟩
theorem qU {h h':Heap}(k:∀o,h.get? t=some o->h'.get? t=some o)(z:h.IsTuple t items):h'.IsTuple t items:=by obtain⟨o,e,r⟩:=z;exact⟨o,k o e,r⟩
theorem o9 {prog:Program}{w:World}{A:Around}(hh:A.handled=none)(it t:Addr)(hne:t≠it)(items:Array Value) :
  Draws prog w A it [it,t] items.size (fun i v=>items[i]?=some v) fun i h=>h.IsTupleIter it t i/\h.IsTuple t items where
 live:=fun i h z=>let ⟨o,e,_⟩:=z.1;⟨o,e⟩
 frame:=fun i h h' z k=>⟨r9 (fun o e=>k it (by simp) o e) z.1,qU (fun o e=>k t (by simp) o e) z.2⟩
 item:=fun i s Q E hi z h=>nB z.1 z.2 (Array.getElem?_eq_getElem hi) fun h' k1 k2=>h _ h' s.toks (Array.getElem?_eq_getElem hi) ⟨k1,qU (fun o e=>by rw[k2.2 t hne];exact e) z.2⟩ k2
 done:=fun s Q E z h=>oO hh z.1 z.2 (Array.getElem?_eq_none (P6 _)) h
theorem xm (t:Addr)(items:Array Value):Meets (Builtin.«enumerate.__new__» { pos:=[.type "enumerate",.ref t] }) fun _ R s =>
  s.heap.IsTuple t items/\∀h',IsEnum h' (s.heap.objs.size+1) s.heap.objs.size 0 .none->h'.IsTupleIter s.heap.objs.size t 0->(∀b o,s.heap.get? b=some o->h'.get? b=some o)->R (.ok (.ret (.ref (s.heap.objs.size+1)))) { s with heap:=h' }:=by
 intro prog w A R s ⟨ht,h⟩;refine P4 ?_;refine P4 (QE ?_);rw[sub_enumerate];refine P4 (QE ?_);refine QE ?_;refine P4 (P4 (wpAny_stack fun st _ _ _=>QE ?_));have fin:wpAny (model prog w) A.in1 (do
   let i <-pyIter (.ref t);let r <-Builtin.SmallTypes.newRecord (.type "enumerate") (Builtin.SmallTypes.ownedTupleFields++[i,rawInt 0,.none,.none])
   ret r) (fun fin s'=>match fin with
   | Fin.done f=>R (Except.ok f) s'
   | Fin.again c'=>c'.quiet=true/\codeAny (model prog w) A c' R s') (fun e s'=>R (Except.error e) s') s:=by
  refine P4 (wpAny_pyIter_tuple ht ?_);refine P4 (wpAny_newObj_type (T:="enumerate") (data:=.fields #[.none,.bool false,.ref s.heap.objs.size,rawInt 0,.none,.none]) ?_);refine QE ?_;have hl:(s.heap.push { cls:=.type "tuple_iterator",data:=.fields #[.ref t,.int 0 0] }).objs.size=s.heap.objs.size+1:=SK ..;have:=h ((s.heap.push { cls:=.type "tuple_iterator",data:=.fields #[.ref t,.int 0 0] }).push { cls:=.type "enumerate",data:=.fields #[.none,.bool false,.ref s.heap.objs.size,rawInt 0,.none,.none] }) (by have e:=QG (s.heap.push { cls:=.type "tuple_iterator",data:=.fields #[.ref t,.int 0 0] }) (o:={ cls:=.type "enumerate",data:=.fields #[.none,.bool false,.ref s.heap.objs.size,rawInt 0,.none,.none] }) rfl;rw[hl] at e;exact e) ⟨_,P2 _ (QG _ rfl),rfl,rfl⟩ (fun b o e=>P2 _ (P2 _ e))
  rw[<-hl] at this;exact this
 split
 ·rename_i c _ _ _ _ _;generalize (c == Value.type "enumerate")=b;cases b with
  | true=>exact P4 (m:=pure (Value.ref t,none)) (QE fin)
  | false=>exact P4 (m:=pure (Value.ref t,none)) (QE fin)
 ·exact P4 (m:=pure (Value.ref t,none)) (QE fin)
theorem zy {E:Value->Shared->Prop}{s:Shared}{Q:Value->Shared->Prop}(ht:s.heap.IsTuple t items)(h:∀h',IsEnum h' (s.heap.objs.size+1) s.heap.objs.size 0 .none->h'.IsTupleIter s.heap.objs.size t 0->(∀b o,s.heap.get? b=some o->h'.get? b=some o)->Q (.ref (s.heap.objs.size+1)) { s with heap:=h' }) :
  wpAny (model prog w) A (call (.type "enumerate") [.ref t]) Q E s:=by
 refine callType_new F.called_enumerate rfl (F.typeCall_enumerate_1 _) (F.newCall_enumerate_1 _) (fun obj=>?_) F.entry_enumerate_new (xm t items) ⟨ht,fun h' k1 k2 k3=>⟨⟨_,k1,rfl⟩,h h' k1 k2 k3⟩⟩;exact F.args_object_init_2 _ _
noncomputable def Ite (K:W.Frag)(a:Addr):L2.It :=
 ⟨fun i H=>∃xs x,SqT K H a xs/\xs[i]?=some x,
  fun i H v H'=>∃T,v=.ref T/\H T=none/\∀xs x,SqT K H a xs->xs[i]?=some x->H'=upd H T (.tup [.int i,x]),
  fun i H=>∃xs,SqT K H a xs/\i=xs.length⟩
def MC (a e it:Addr)(i:Nat)(h:Heap):Prop:=(∃old,IsEnum h e it (i:Int) old)/\h.IsTupleIter it a i
theorem CO {P:Program}{w:World}{K:W.Frag}{elts:List Expr}{kt:Nat}{pt:Pos}{a e it:Addr}(h1:e≠it)(h2:a≠e)(h3:a≠it) :
  xJ P w K (.Tuple elts kt pt) (Ite K a) [e,it] e (MC a e it) where
 mem:=by simp
 obj:=fun i h st c hc=>by
  obtain⟨⟨old,q1⟩,⟨o4,e4,c4,d4⟩⟩:=st;simp only[List.mem_cons,List.not_mem_nil,or_false] at hc;rcases hc with rfl|rfl
  ·exact⟨_,q1,fun v z=>nomatch z⟩
  ·exact⟨o4,e4,fun v z=>by rw[d4] at z;cases z⟩
 keep:=fun i h h' st k=>by obtain⟨⟨old,q1⟩,q2⟩:=st;exact⟨⟨old,k e (by simp) _ q1⟩,r9 (fun o z=>k it (by simp) o z) q2⟩
 item:=by
  intro X hP hw hK hc i pins s σ H E I hf st hg;subst hP hw hK;obtain⟨xs,x,hq1,hx⟩:=hg;obtain⟨its1,rv1,p1,hz1⟩:=I.tuple hq1;obtain⟨u1,hu1,ru1⟩:=rv1.get hx;have W:=WalksT.enumerateD (A:=X.A) (o9 (prog:=X.prog) (w:=X.w) (A:=X.A.in1) (I.ok.hd hc) it a h3 its1.toArray) e h1 (by simp[h1,Ne.symm h2]) (by simp);obtain⟨q1,q2⟩:=st;have l1:=(P8.mp hu1).1;have tp:s.heap.IsTuple a its1.toArray:=p1;refine W.item i s _ _ (by rw[QR];exact l1) ⟨q1,q2,tp⟩ fun T vals h' tk hv hT isT mid kk=>?_;obtain⟨tt,v1,e1,rfl⟩:=hv;have z1:v1=u1:=by
   (have:its1[i]?=some v1:=by simpa using e1);rw[hu1] at this;cases this;rfl
  subst z1;refine⟨_,rfl,W.go elts kt pt i T { s with heap:=h',toks:=tk } _ _ mid fun h'' st'' kk2=>?_⟩;have ap:=W.apart i T h' mid;obtain⟨o,eo,c,d⟩:=isT;have I2:L2.Inv X pins σ (upd H T (.tup [.int i,x])) { s with heap:=h'',toks:=tk }:=Bt (its:=[.int i tt,v1]) I (fun b o hb z=>kk2 b o hb (kk b o hb z)) (fun b hb=>hf b (by simpa using hb)) hT (.cons ⟨tt,rfl⟩ (.cons ru1 .nil)) (by simp[sizeLine]) ⟨o,kk2 T o ap eo,c,d⟩;refine⟨.ref T,_,I2,rfl,⟨T,rfl,I.hok.fresh hT,fun xs' x' k1 k2=>?_⟩,⟨st''.1,st''.2.1⟩,fun b hb=>?_⟩
  ·rw[I.tuple_inj k1 hq1,hx] at k2;cases k2;rfl
  ·have hlt:b<s.heap.objs.size:=by
    simp only[List.mem_cons,List.not_mem_nil,or_false] at hb;obtain⟨old,q1⟩:=q1;obtain⟨o5,e5,_⟩:=q2;rcases hb with rfl|rfl
    ·exact QF q1
    ·exact QF e5
   rw[ak (QU (P7 hlt hT))];exact(hf b hb).1
 done:=by intro X hP hw hK hc i pins s σ H E I hf st hg;subst hP hw hK;obtain⟨xs,hq1,rfl⟩:=hg;obtain⟨its1,rv1,p1,hz1⟩:=I.tuple hq1;have W:=WalksT.enumerateD (A:=X.A) (o9 (prog:=X.prog) (w:=X.w) (A:=X.A.in1) (I.ok.hd hc) it a h3 its1.toArray) e h1 (by simp[h1,Ne.symm h2]) (by simp);obtain⟨q1,q2⟩:=st;rw[rv1.length] at q1 q2;exact W.done s _ _ ⟨by simpa using q1,by simpa using q2,p1⟩ fun h' tk kk=>⟨rfl,BM I kk fun b hb=>hf b (by simpa using hb)⟩
 self:=fun _ _ _ _ _ st h=>by obtain⟨⟨old,q1⟩,_⟩:=st;exact wpAny_pyIter_enum q1 h
section
variable {X:Cx}
noncomputable def Na (K:W.Frag)(ta:TA):TI:=fun σ H R=>ta σ H fun vs H1=>∃a,vs=[.ref a]/\(∃xs,SqT K H1 a xs)/\R (Ite K a) H1
theorem HU {a:Expr}(hg:Gl X "enumerate")(hm:X.mg "enumerate"=none)(ha:PA X [a] ta)(hs:starEach [a] X.env=[(false,eval a X.env)]) :
  PI X (.Tuple elts kt pt) (.Call (.Name "enumerate" p) [a] [] pos) (Na X.K ta):=by
 intro pins s σ H R I h;refine Call_ (jE I hg hm boot_enumerate (RA (thn (ha pos pins s σ H _ I h) fun us s1 ⟨vs,H1,I1,r1,q1⟩=>?_) (by rw[hs];rfl) rfl));obtain⟨l1,e,⟨xs,hq1⟩,q⟩:=q1;subst e;cases r1 with
 | cons r rr =>
  cases rr;cases r;obtain⟨its1,rv1,p1,hz1⟩:=I1.tuple hq1;have tp:s1.heap.IsTuple l1 its1.toArray:=p1;have lt1:l1<s1.heap.objs.size:=by obtain⟨_,e,_⟩:=tp;exact QF e
  refine zy tp fun h' k1 k2 kk=>?_;refine wpAny_pyIter_enum k1 ?_;refine⟨_,_,_,_,H1,rfl,I1.kept (t':=s1.toks) kk,CO (Nat.succ_ne_self _) (QU (Nat.lt_succ_of_lt lt1)) (QU lt1),⟨⟨_,k1⟩,k2⟩,fun b hb=>?_,q⟩;have hb':s1.heap.objs.size<=b:=by simp only[List.mem_cons,List.not_mem_nil,or_false] at hb;rcases hb with rfl|rfl <;> first|exact P6 _|exact TY _ _
  exact I1.fpOk hb' (I1.hok.fresh hb')
end
theorem oD:∀ {xs:List PV}{i:Int},(jv i xs).length=xs.length
 | [],i=>by simp[jv]
 | x::xs,i=>by simp only[jv,List.length_cons,oD (xs:=xs)]
theorem oH:∀ {xs:List PV}{k:Int}{i:Nat}{v:PV},(jv k xs)[i]?=some v->∃x,xs[i]?=some x/\v=.tup [.int (k+i),x]
 | [],k,i,v,h=>by simp[jv] at h
 | x::xs,k,0,v,h=>by simp[jv] at h;exact⟨x,rfl,by rw[<-h];simp⟩
 | x::xs,k,i+1,v,h=>by
  simp only[jv,List.getElem?_cons_succ] at h |-
  obtain⟨y,e,rfl⟩:=oH h;refine⟨y,e,?_⟩;rw[show k+1+(i:Int)=k+((i+1:Nat):Int) by omega]
theorem CB (h:SqT K H0 a ys)(r0:Rs K m0 H0 xs ys):qK K (Ite K a) (jv 0 xs) (fun _=>True) m0 H0:=by refine⟨fun m H st x r q=>⟨ys,x.tup _ _ h,by rw[oD,r0.len]⟩,fun i v m H st x r q ev=>?_⟩;obtain⟨u,e1,rfl⟩:=oH ev;obtain⟨y1,f1,q1⟩:=r0.get e1;refine⟨⟨ys,y1,x.tup _ _ h,f1⟩,?_⟩;rintro z H' ⟨T,rfl,hT,hh⟩;have:=hh ys y1 (x.tup _ _ h) f1;subst this;refine⟨Ext.newT r hT,r.newT hT,R_tup.mpr ⟨T,[.int i,y1],rfl,SqT.of bY,?_⟩⟩;rw[Rs_cons',Rs_cons',Rs_nil,R_int];exact⟨by simp,(q1.mono x).mono (Ext.newT r hT),rfl⟩
end FW
namespace FW
open L2 HX
structure Zs where
 it:Addr
 c:Bool × Addr
 xs:Array Value
noncomputable abbrev Zs.a (q:Zs):Addr:=q.c.2
def ItB (h:Heap)(it:Addr)(c:Bool × Addr)(i:Nat):Prop:=if c.1=true then h.IsListIter it c.2 i else h.IsTupleIter it c.2 i
def SeqB (h:Heap)(c:Bool × Addr)(xs:Array Value):Prop:=if c.1=true then h.IsList c.2 xs else h.IsTuple c.2 xs
theorem ItB.keep {h':Heap}(z:ItB h it c i)(k:∀o,h.get? it=some o->h'.get? it=some o):ItB h' it c i:=by
 obtain⟨b,a⟩:=c;cases b with
 | true=>exact(show h.IsListIter it a i from z).at k
 | false=>exact r9 k (show h.IsTupleIter it a i from z)
theorem ItB.obj (z:ItB h it c i):∃o vs,h.get? it=some o/\o.data=.fields vs:=by
 obtain⟨b,a⟩:=c;cases b with
 | true=>obtain⟨o,e,_,d⟩:=(show h.IsListIter it a i from z);exact⟨o,_,e,d⟩
 | false=>obtain⟨o,e,_,d⟩:=(show h.IsTupleIter it a i from z);exact⟨o,_,e,d⟩
theorem SeqB.keep {h':Heap}(z:SeqB h c xs)(k:∀o,h.get? c.2=some o->h'.get? c.2=some o):SeqB h' c xs:=by
 obtain⟨b,a⟩:=c;cases b with
 | true=>exact(show h.IsList a xs from z).at k
 | false=>exact qU k (show h.IsTuple a xs from z)
def SrcAt (h:Heap)(q:Zs)(i:Nat):Prop:=ItB h q.it q.c i/\SeqB h q.c q.xs
theorem SrcAt.keep {h':Heap}(z:SrcAt h q i)(k1:∀o,h.get? q.it=some o->h'.get? q.it=some o)(k2:∀o,h.get? q.a=some o->h'.get? q.a=some o):SrcAt h' q i:=⟨z.1.keep k1,z.2.keep k2⟩
theorem SrcAt.obj (z:SrcAt h q i):∃o vs,h.get? q.it=some o/\o.data=.fields vs:=z.1.obj
section
variable {prog:Program}{w:World}{A:Around}{E:Value->Shared->Prop}{s:Shared}{q:Zs}{i:Nat}
theorem wZ {Q:Value->Shared->Prop}(hne:q.a≠q.it)(h:SrcAt s.heap q i)(hx:q.xs[i]?=some x)(hQ:∀h',SrcAt h' q (i+1)->Heap.SameBut q.it s.heap h'->Q x { s with heap:=h' }):wpAny (model prog w) A (Builtin.SmallTypes.nextOf (.ref q.it)) Q E s:=by
 obtain⟨it,⟨b,a⟩,xs⟩:=q;obtain⟨z1,z2⟩:=h;cases b with
 | true=>exact wpAny_nextOf_list_item (show s.heap.IsListIter it a i from z1) (show s.heap.IsList a xs from z2) hx fun h' k1 k2=>hQ h' ⟨k1,z2.keep fun o e=>by rw[k2.2 _ hne];exact e⟩ k2
 | false=>exact nB (show s.heap.IsTupleIter it a i from z1) (show s.heap.IsTuple a xs from z2) hx fun h' k1 k2=>hQ h' ⟨k1,z2.keep fun o e=>by rw[k2.2 _ hne];exact e⟩ k2
theorem Iu (hh:A.handled=none)(h:SrcAt s.heap q i)(hx:q.xs[i]?=none)(hE:∀h' e,Heap.ExtBut q.it s.heap h'->(∃o,h'.get? e=some o/\o.cls=.type "StopIteration")->E (.ref e) { s with heap:=h' }):wpAny (model prog w) A (Builtin.SmallTypes.nextOf (.ref q.it)) Q E s:=by
 obtain⟨it,⟨b,a⟩,xs⟩:=q;obtain⟨z1,z2⟩:=h;cases b with
 | true=>exact wpAny_nextOf_list_end hh (show s.heap.IsListIter it a i from z1) (show s.heap.IsList a xs from z2) hx hE
 | false=>exact oO hh (show s.heap.IsTupleIter it a i from z1) (show s.heap.IsTuple a xs from z2) hx hE
theorem Ia {Q:Value->Shared->Prop}(h:SeqB s.heap c xs)(hQ:∀o,ItB (s.heap.push o) s.heap.objs.size c 0->Q (.ref s.heap.objs.size) { s with heap:=s.heap.push o }):wpAny (model prog w) A (pyIter (.ref c.2)) Q E s:=by
 obtain⟨b,a⟩:=c;cases b with
 | true=>exact wpAny_pyIter_list (show s.heap.IsList a xs from h) (hQ _ ⟨_,QG _ rfl,rfl,rfl⟩)
 | false=>exact wpAny_pyIter_tuple (show s.heap.IsTuple a xs from h) (hQ _ ⟨_,QG _ rfl,rfl,rfl⟩)
end
noncomputable abbrev eR (xs:List Value):Obj:={ cls:=.type "tuple",data:=.seq xs.toArray }
structure ZA (z TI TO:Addr)(ss:List Zs):Prop where
 nd:(z::TI::TO::ss.map Zs.it).Nodup
 ap:∀q∈ss,q.a ∉ z::TI::TO::ss.map Zs.it
section
variable {prog:Program}{w:World}{A:Around}{E:Value->Shared->Prop}{z TI TO:Addr}{i:Nat}
def EM (prog:Program)(w:World)(A:Around)(z TI TO:Addr)(f:Value × Nat->Option Fin × Unit->Sem (ForInStep (Option Fin × Unit))):Prop :=
 ∀(it:Addr) (k:Nat) (s:Shared) (R:ForInStep (Option Fin × Unit)->Shared->Prop) (E:Value->Shared->Prop),
  wpAny (model prog w) A (Builtin.SmallTypes.nextOf (.ref it)) (fun x s1=>∃arr,s1.heap.get? TO=some (eR arr)/\arr.length<=sizeLine/\∀h',h'.get? TO=some (eR (arr.set k x))->Heap.SameBut TO s1.heap h'->R (.yield (none,())) { s1 with heap:=h' })
   (fun e s1=>IsZip s1.heap z TI TO .ellipsis/\∀h',IsZip h' z TI TO .none->Heap.SameBut z s1.heap h'->E e { s1 with heap:=h' }) s ->
  wpAny (model prog w) A (f (.ref it,k) (none,())) R E s
theorem qa {f:Value × Nat->Option Fin × Unit->Sem (ForInStep (Option Fin × Unit))}(hf:EM prog w A z TI TO f):∀ {ss dn:List Zs}{dx xs arr:List Value}{s:Shared}{R:Option Fin × Unit->Shared->Prop},ZA z TI TO (dn++ss)->(dn++ss).length<=sizeLine ->
  Paired (fun (q:Zs) (x:Value)=>q.xs[i]?=some x) ss xs->dx.length=dn.length->arr.length=ss.length->IsZip s.heap z TI TO .ellipsis->s.heap.get? TO=some (eR (dx++arr))->(∀q∈dn,SrcAt s.heap q (i+1))->(∀q∈ss,SrcAt s.heap q i) ->
  (∀h',IsZip h' z TI TO .ellipsis->h'.get? TO=some (eR (dx++xs))->(∀q∈dn++ss,SrcAt h' q (i+1))->h'.objs.size=s.heap.objs.size->(∀c o,c ∉ TO::(dn++ss).map Zs.it->s.heap.get? c=some o->h'.get? c=some o)->R (none,()) { s with heap:=h' }) ->
  wpAny (model prog w) A (forIn ((ss.map fun q=>Value.ref q.it).zipIdx dn.length) (none,()) f) R E s:=by
 intro ss
 induction ss with
 | nil =>intro dn dx xs arr s R ap hsz hp hl ha hz hTO h1 h2 hR;cases hp;have:arr=[]:=RZ.mp ha;subst this;exact QE (hR s.heap hz hTO (by simpa using h1) rfl fun c o _ e=>e)
 | cons q ss ih =>
  intro dn dx xs arr s R ap hsz hp hl ha hz hTO h1 h2 hR;cases hp with
  | @cons _ x _ xs hx hp =>
  cases arr with
  | nil=>simp at ha
  | cons b arr =>
  rw[QN,List.zipIdx_cons,SS];have nd:=ap.nd;have qm:q∈dn++q::ss:=by simp
  have im:q.it∈(dn++q::ss).map Zs.it:=QQ.mpr ⟨q,qm,rfl⟩;have zi:z≠q.it:=fun e=>by have:=(QH.mp nd).1;exact this (by simp[e])
  have ti:TO≠q.it:=fun e=>by have:=(QH.mp (QH.mp (QH.mp nd).2).2).1;exact this (by rw[e];exact im)
  have zt:z≠TO:=fun e=>by have:=(QH.mp nd).1;exact this (by simp[e])
  have ni:=(QH.mp (QH.mp (QH.mp nd).2).2).2;have oth:∀p,p∈dn\/p∈ss->p.it≠q.it:=fun p hp e=>by
   rw[TC,QN] at ni;rcases hp with hp|hp
   ·have:=(SV.mp ni).2.2 p.it (QQ.mpr ⟨p,hp,rfl⟩) q.it (by simp);exact this e
   ·have:=(QH.mp (SV.mp ni).2.1).1;exact this (by rw[<-e];exact QQ.mpr ⟨p,hp,rfl⟩)
  have apa:∀p∈dn++q::ss,p.a≠q.it/\p.a≠TO:=fun p hp=>⟨fun e=>ap.ap p hp (by rw[e];simp),fun e=>ap.ap p hp (by rw[e];simp)⟩;have tot:∀p∈dn++q::ss,p.it≠TO:=fun p hp e=>by have:=(QH.mp (QH.mp (QH.mp nd).2).2).1;exact this (by rw[<-e];exact QQ.mpr ⟨p,hp,rfl⟩)
  refine P4 (hf q.it dn.length s _ _ ?_);refine wZ (apa q qm).1 (h2 q (by simp)) hx fun h' k1 k2=>⟨dx++b::arr,by show h'.get? TO=_;rw[k2.2 TO ti];exact hTO,by rw[QS,hl,ha,<-QS];exact hsz,fun h'' k3 k4=>?_⟩;have both:∀c o,c≠q.it->c≠TO->s.heap.get? c=some o->h''.get? c=some o:=fun c o c1 c2 e=>by rw[k4.2 c c2];show h'.get? c=some o;rw[k2.2 c c1];exact e
  have e3:(dx++b::arr).set dn.length x=(dx++[x])++arr:=by rw[<-hl,SU _ _ (P6 _),UR];simp
  rw[e3] at k3;have ea:dn++q::ss=(dn++[q])++ss:=by simp
  have el:dn.length+1=(dn++[q]).length:=by simp
  show wpAny _ _ (forIn ((ss.map fun q=>Value.ref q.it).zipIdx (dn.length+1)) (none,()) f) R E _;rw[el];refine ih (dn:=dn++[q]) (dx:=dx++[x]) (xs:=xs) (arr:=arr) (by rw[<-ea];exact ap) (by rw[<-ea];exact hsz) hp (by simp[hl]) (by simpa using ha) (both z _ zi zt hz) k3 (fun p hp=>?_) (fun p hp=>?_) fun h3 j1 j2 j3 j4 j5=>?_
  ·rcases Q5.mp hp with hp|hp
   ·exact(h1 p hp).keep (fun o e=>both _ o (oth p (.inl hp)) (tot p (by simp[hp])) e) fun o e=>both _ o (apa p (by simp[hp])).1 (apa p (by simp[hp])).2 e
   ·rw[QI] at hp;subst hp;exact k1.keep (fun o e=>by rw[k4.2 _ (Ne.symm ti)];exact e) fun o e=>by rw[k4.2 _ (apa p qm).2];exact e
  ·exact(h2 p (by simp[hp])).keep (fun o e=>both _ o (oth p (.inr hp)) (tot p (by simp[hp])) e) fun o e=>both _ o (apa p (by simp[hp])).1 (apa p (by simp[hp])).2 e
  ·refine hR h3 j1 (by rw[j2];simp) (by rw[ea];exact j3) (by rw[j4,k4.1];exact k2.1) fun c o hc e=>?_;rw[ea] at hc;refine j5 c o hc (both c o (fun z=>hc ?_) (fun z=>hc ?_) e)
   ·rw[z];simp
   ·rw[z];simp
theorem GA {f:Value × Nat->Option Fin × Unit->Sem (ForInStep (Option Fin × Unit))}(hf:EM prog w A z TI TO f)(hh:A.handled=none):∀ {ss dn:List Zs}{dx arr:List Value}{s:Shared}{R:Option Fin × Unit->Shared->Prop},ZA z TI TO (dn++ss)->(dn++ss).length<=sizeLine ->
  (∃q∈ss,q.xs[i]?=none)->dx.length=dn.length->arr.length=ss.length->IsZip s.heap z TI TO .ellipsis->s.heap.get? TO=some (eR (dx++arr))->(∀q∈ss,SrcAt s.heap q i) ->
  (∀h' e,(∀c o,c ∉ z::TO::(dn++ss).map Zs.it->s.heap.get? c=some o->h'.get? c=some o)->(∃o,h'.get? e=some o/\o.cls=.type "StopIteration")->E (.ref e) { s with heap:=h' }) ->
  wpAny (model prog w) A (forIn ((ss.map fun q=>Value.ref q.it).zipIdx dn.length) (none,()) f) R E s:=by
 intro ss
 induction ss with
 | nil =>intro dn dx arr s R ap hsz hq;obtain⟨q,hq,_⟩:=hq;cases hq
 | cons q ss ih =>
  intro dn dx arr s R ap hsz hq hl ha hz hTO h2 hE;cases arr with
  | nil=>simp at ha
  | cons b arr =>
  rw[QN,List.zipIdx_cons,SS];have nd:=ap.nd;have qm:q∈dn++q::ss:=by simp
  have im:q.it∈(dn++q::ss).map Zs.it:=QQ.mpr ⟨q,qm,rfl⟩;have zi:z≠q.it:=fun e=>(QH.mp nd).1 (by simp[e]);have ti:TO≠q.it:=fun e=>(QH.mp (QH.mp (QH.mp nd).2).2).1 (by rw[e];exact im);have zt:z≠TO:=fun e=>(QH.mp nd).1 (by simp[e]);have ni:=(QH.mp (QH.mp (QH.mp nd).2).2).2;have oth:∀p,p∈ss->p.it≠q.it:=fun p hp e=>by rw[TC,QN] at ni;exact(QH.mp (SV.mp ni).2.1).1 (by rw[<-e];exact QQ.mpr ⟨p,hp,rfl⟩)
  have apa:∀p∈dn++q::ss,p.a≠q.it/\p.a≠TO:=fun p hp=>⟨fun e=>ap.ap p hp (by rw[e];simp),fun e=>ap.ap p hp (by rw[e];simp)⟩;have tot:∀p∈dn++q::ss,p.it≠TO:=fun p hp e=>(QH.mp (QH.mp (QH.mp nd).2).2).1 (by rw[<-e];exact QQ.mpr ⟨p,hp,rfl⟩);refine P4 (hf q.it dn.length s _ _ ?_);cases hx:q.xs[i]? with
  | none =>
   refine Iu hh (h2 q (by simp)) hx fun h' e k1 k2=>?_;have hz2:IsZip h' z TI TO .ellipsis:=k1 _ _ zi hz;obtain⟨oe,he,hc⟩:=k2;have ez:e≠z:=fun z=>by subst z;rw[hz2] at he;cases he;simp at hc
   refine⟨hz2,fun h'' _ k4=>hE h'' e (fun c o hc e=>?_) ⟨oe,by rw[k4.2 e ez];exact he,hc⟩⟩;rw[k4.2 c (fun z=>hc (by rw[z];simp))];exact k1 c o (fun z=>hc (by rw[z];simp)) e
  | some x =>
   refine wZ (apa q qm).1 (h2 q (by simp)) hx fun h' k1 k2=>⟨dx++b::arr,by show h'.get? TO=_;rw[k2.2 TO ti];exact hTO,by rw[QS,hl,ha,<-QS];exact hsz,fun h'' k3 k4=>?_⟩;have both:∀c o,c≠q.it->c≠TO->s.heap.get? c=some o->h''.get? c=some o:=fun c o c1 c2 e=>by rw[k4.2 c c2];show h'.get? c=some o;rw[k2.2 c c1];exact e
   have e3:(dx++b::arr).set dn.length x=(dx++[x])++arr:=by rw[<-hl,SU _ _ (P6 _),UR];simp
   rw[e3] at k3;have ea:dn++q::ss=(dn++[q])++ss:=by simp
   have el:dn.length+1=(dn++[q]).length:=by simp
   show wpAny _ _ (forIn ((ss.map fun q=>Value.ref q.it).zipIdx (dn.length+1)) (none,()) f) R E _;rw[el];obtain⟨p,hp,hn⟩:=hq;have hp':p∈ss:=by
    rcases QZ.mp hp with rfl|h
    ·rw[hx] at hn;cases hn
    ·exact h
   refine ih (dn:=dn++[q]) (dx:=dx++[x]) (arr:=arr) (by rw[<-ea];exact ap) (by rw[<-ea];exact hsz) ⟨p,hp',hn⟩ (by simp[hl]) (by simpa using ha) (both z _ zi zt hz) k3 (fun p hp=>?_) fun h3 e j1 j2=>hE h3 e (fun c o hc e=>?_) j2
   ·exact(h2 p (by simp[hp])).keep (fun o e=>both _ o (oth p hp) (tot p (by simp[hp])) e) fun o e=>both _ o (apa p (by simp[hp])).1 (apa p (by simp[hp])).2 e
   ·rw[ea] at hc;refine j1 c o hc (both c o (fun z=>hc ?_) (fun z=>hc ?_) e)
    ·rw[z];simp
    ·rw[z];simp
theorem Mg {s:Shared}{Q:Unit->Shared->Prop}(hT:s.heap.get? TO=some (eR xs))(hs:xs.length<=sizeLine)(h:∀h',h'.get? TO=some (eR (xs.set k x))->Heap.SameBut TO s.heap h'->Q () { s with heap:=h' }) :
  wpAny (model prog w) A (updateSeq TO fun v=>v.setIfInBounds k x) Q E s:=by
 refine wpAny_updateSeq hT rfl (h _ ?_ (Heap.SameBut.update _ _ _)) (by simpa using hs) (by simp;omega);rw[SB _ hT rfl];simp[Obj.mapSeq]
theorem FP {s:Shared}{T:Addr}{Q:Unit->Shared->Prop}(hz:IsZip s.heap z TI TO .ellipsis)(h:∀h',IsZip h' z TI TO (rawInt T)->Heap.SameBut z s.heap h'->Q () { s with heap:=h' }):wpAny (model prog w) A (Builtin.SmallTypes.ownedTupleHandOut (.ref z) (.ref T)) Q E s:=by refine P4 (wpAny_setField_rec hz (S2 _) fun h1 k1 k2=>?_);have k1:IsZip h1 z TI TO (rawInt T):=k1;refine wpAny_setField_rec k1 (Nat.succ_lt_succ (S2 _)) fun h2 k3 k4=>?_;exact h h2 k3 ⟨k4.1.trans k2.1,fun c hc=>(k4.2 c hc).trans (k2.2 c hc)⟩
theorem yj {s:Shared}{ss:List Zs}{Q:Fin->Shared->Prop}(hz:IsZip s.heap z TI TO .none)(hTI:s.heap.get? TI=some (eR (ss.map fun q=>Value.ref q.it)))(hTO:s.heap.get? TO=some (eR arr))(hne:ss≠[])(h:∀f h',EM prog w A z TI TO f->IsZip h' z TI TO .ellipsis->Heap.SameBut z s.heap h'->wpAny (model prog w) A (forIn ((ss.map fun q=>Value.ref q.it).zipIdx 0) (none,()) f) (fun r s1=>r.1=none/\IsZip s1.heap z TI TO .ellipsis/\∃xs,s1.heap.get? TO=some (eR xs)/\xs.length<=sizeLine /\
   ∀h2,IsZip h2 z TI TO (rawInt s1.heap.objs.size)->h2.get? s1.heap.objs.size=some (eR xs)->h2.objs.size=s1.heap.objs.size+1->(∀c o,c≠z->s1.heap.get? c=some o->h2.get? c=some o)->Q (.done (.ret (.ref s1.heap.objs.size))) { s1 with heap:=h2 }) E { s with heap:=h' }) :
  wpAny (model prog w) A (Builtin.«zip.__next__» ⟨[.ref z],[]⟩) Q E s:=by
 have hemp:(ss.map fun q=>Value.ref q.it).toArray.isEmpty=false:=by
  cases ss with
  | nil=>exact absurd rfl hne
  | cons a b=>rfl
 refine P4 (QE ?_);refine P4 (wpAny_field (i:=2) hz rfl rfl ?_);refine P4 (wpAny_field (i:=3) hz rfl rfl ?_);refine P4 (wpAny_seqItems hTI rfl ?_);dsimp only;rw[hemp];simp only[Bool.false_eq_true,if_false];refine P4 (P4 (wpAny_field (i:=0) hz rfl rfl (QE ?_)));rw[QA rfl];refine P4 (wpAny_rule ?_);refine P4 (wpAny_field (i:=4) hz rfl rfl ?_);refine P4 (wpAny_setField_rec hz (S2 _) fun h1 k1 k2=>?_);refine P4 (wpAny_mono (h _ h1 ?_ k1 k2) (fun r s1 hr=>?_) fun _ _ e=>e)
 ·intro it k s2 R E2 hw;refine P4 (wpAny_onRaise ?_);refine P4 (m:=Builtin.SmallTypes.nextOf (.ref it)) (wpAny_mono hw (fun x s3 hx=>?_) fun e s3 he=>?_)
  ·obtain⟨arr,e1,e0,e2⟩:=hx;refine QE ?_;refine P4 (wpAny_seqItems e1 rfl ?_);refine P4 (Mg e1 e0 fun h' q1 q2=>?_);exact P4 (wpAny_letGo (QE (e2 h' q1 q2)))
  ·exact wpAny_setField_rec he.1 (S2 _) fun h' q1 q2=>he.2 h' q1 q2
 ·obtain⟨hn,z1,xs,t1,lx,q⟩:=hr;rw[hn];refine P4 (wpAny_seqItems t1 rfl ?_);refine P4 (wpAny_newTuple ?_ lx);have z2:IsZip (s1.heap.push (eR xs)) z TI TO .ellipsis:=P2 _ z1;refine P4 (FP (s:={ s1 with heap:=s1.heap.push (eR xs) }) z2 fun h' q1 q2=>QE ?_);have nz:s1.heap.objs.size≠z:=fun e=>absurd (QF z1) (by rw[<-e];exact RX _);refine q h' q1 (by rw[q2.2 _ nz];exact QG _ rfl) (q2.1.trans (SK _ _)) fun c o hc e=>?_;rw[q2.2 c hc];exact P2 _ e
def ZSt (z TI TO:Addr)(its:List Addr)(h:Heap):Prop:=IsZip h z TI TO .none/\h.get? TI=some (eR (its.map Value.ref))/\∃arr,arr.length=its.length/\h.get? TO=some (eR arr)
theorem FG {ss:List Zs}:(ss.map fun q=>Value.ref q.it)=(ss.map Zs.it).map Value.ref:=by rw[SO];rfl
theorem El {s:Shared}{Q:Option Value->Shared->Prop}(ap:ZA z TI TO ss)(hne:ss≠[])(hs:ss.length<=sizeLine)(hz:ZSt z TI TO (ss.map Zs.it) s.heap)(h1:∀q∈ss,SrcAt s.heap q i)(hp:Paired (fun (q:Zs) (x:Value)=>q.xs[i]?=some x) ss xs)(hQ:∀h' T,s.heap.objs.size<=T->IsZip h' z TI TO (rawInt T)->h'.get? TI=some (eR ((ss.map Zs.it).map Value.ref))->h'.get? TO=some (eR xs)->(∀q∈ss,SrcAt h' q (i+1))->h'.get? T=some (eR xs)->T ∉ z::TI::TO::ss.map Zs.it->(∀c o,c ∉ z::TI::TO::ss.map Zs.it->s.heap.get? c=some o->h'.get? c=some o)->Q (some (.ref T)) { s with heap:=h' }) :
  wpAny (model prog w) A (pyNext (.ref z)) Q E s:=by
 obtain⟨z1,t1,arr,la,t2⟩:=hz;have hT:s.TypeIs (.ref z) "zip":=⟨_,z1,rfl⟩;have nd:=ap.nd;have TIz:TI≠z:=fun e=>(QH.mp nd).1 (by simp[e]);have TOz:TO≠z:=fun e=>(QH.mp nd).1 (by simp[e]);have itz:∀q∈ss,q.it≠z:=fun q hq e=>(QH.mp nd).1 (by rw[<-e];simp;exact .inr (.inr ⟨q,hq,rfl⟩));have az:∀q∈ss,q.a≠z:=fun q hq e=>ap.ap q hq (by rw[e];simp);have TIn:=(QH.mp (QH.mp nd).2).1;refine P4 (wpAny_attempt (wpAny_callSpecial?_slot hT T6 (wpAny_call_entry T6 hT F.entry_zip_next ?_ (F.args_zip_next_1 _))));refine yj (arr:=arr) z1 (by rw[FG];exact t1) t2 hne fun f h1' hf k1 k2=>?_;have src:∀q∈ss,SrcAt h1' q i:=fun q hq=>(h1 q hq).keep (fun o e=>by rw[k2.2 _ (itz q hq)];exact e) fun o e=>by rw[k2.2 _ (az q hq)];exact e
 have lp:=hp.length;refine qa (dn:=[]) (dx:=[]) (s:={ s with heap:=h1' }) hf ap hs hp rfl (by rw[la,QO]) k1 (by rw[k2.2 _ TOz];exact t2) (fun q hq=>nomatch hq) src fun h2 j1 j2 j3 j4 j5=>?_;refine⟨rfl,j1,xs,j2,by rw[<-lp];exact hs,fun h3 m1 m2 m3 m4=>⟨_,rfl,QE ?_⟩⟩;have big:∀c o,s.heap.get? c=some o->c≠h2.objs.size:=fun c o e z=>by have:=QF e;rw[z,j4,k2.1] at this;exact absurd this (RX _)
 have all:∀c o,c ∉ z::TI::TO::ss.map Zs.it->s.heap.get? c=some o->h3.get? c=some o:=fun c o hc e=>by
  refine m4 c o (fun z=>hc (by rw[z];simp)) (j5 c o (fun z=>hc ?_) ?_)
  ·rcases QZ.mp z with z|z
   ·rw[z];simp
   ·exact QD _ (QD _ (QD _ z))
  ·show h1'.get? c=some o;rw[k2.2 c (fun z=>hc (by rw[z];simp))];exact e
 refine hQ h3 _ (by rw[j4,k2.1];exact P6 _) m1 ?_ (m4 _ _ TOz j2) (fun q hq=>(j3 q hq).keep (fun o e=>m4 _ o (itz q hq) e) fun o e=>m4 _ o (az q hq) e) m2 (fun hm=>?_) all
 ·refine m4 _ _ TIz (j5 _ _ (fun z=>TIn ?_) ?_)
  ·exact z
  ·show h1'.get? TI=_;rw[k2.2 _ TIz];exact t1
 ·simp only[List.mem_cons] at hm;rcases hm with e|e|e|e
  ·exact big z _ z1 e.symm
  ·exact big TI _ t1 e.symm
  ·exact big TO _ t2 e.symm
  ·obtain⟨q,hq,e⟩:=QQ.mp e;obtain⟨o,_,eo,_⟩:=(h1 q hq).obj;exact big _ _ eo e
theorem FL {s:Shared}{Q:Option Value->Shared->Prop}(hh:A.handled=none)(ap:ZA z TI TO ss)(hs:ss.length<=sizeLine)(hz:ZSt z TI TO (ss.map Zs.it) s.heap)(h1:∀q∈ss,SrcAt s.heap q i)(hn:∃q∈ss,q.xs[i]?=none)(hQ:∀h',(∀c o,c ∉ z::TI::TO::ss.map Zs.it->s.heap.get? c=some o->h'.get? c=some o)->Q none { s with heap:=h' }):wpAny (model prog w) A (pyNext (.ref z)) Q E s:=by
 obtain⟨z1,t1,arr,la,t2⟩:=hz;have hT:s.TypeIs (.ref z) "zip":=⟨_,z1,rfl⟩;have nd:=ap.nd;have TOz:TO≠z:=fun e=>(QH.mp nd).1 (by simp[e]);have itz:∀q∈ss,q.it≠z:=fun q hq e=>(QH.mp nd).1 (by rw[<-e];simp;exact .inr (.inr ⟨q,hq,rfl⟩));have az:∀q∈ss,q.a≠z:=fun q hq e=>ap.ap q hq (by rw[e];simp);have hne:ss≠[]:=fun e=>by obtain⟨q,hq,_⟩:=hn;rw[e] at hq;cases hq
 refine P4 (wpAny_attempt (wpAny_callSpecial?_slot hT T6 (wpAny_call_entry T6 hT F.entry_zip_next ?_ (F.args_zip_next_1 _))));refine yj (arr:=arr) z1 (by rw[FG];exact t1) t2 hne fun f h1' hf k1 k2=>?_;have src:∀q∈ss,SrcAt h1' q i:=fun q hq=>(h1 q hq).keep (fun o e=>by rw[k2.2 _ (itz q hq)];exact e) fun o e=>by rw[k2.2 _ (az q hq)];exact e
 refine GA (A:=A.in1) (dn:=[]) (dx:=[]) (s:={ s with heap:=h1' }) hf hh ap hs hn rfl (by rw[la,QO]) k1 (by rw[k2.2 _ TOz];exact t2) src fun h2 e j1 j2=>?_;refine P4 (wpAny_isInstance (T:="StopIteration") (b:=true) j2 isSubtype_stop (QE (hQ h2 fun c o hc e=>?_)));refine j1 c o (fun z=>hc ?_) ?_
 ·rcases QZ.mp z with z|z
  ·rw[z];simp
  ·rcases QZ.mp z with z|z
   ·rw[z];simp
   ·exact QD _ (QD _ (QD _ z))
 ·show h1'.get? c=some o;rw[k2.2 c (fun z=>hc (by rw[z];simp))];exact e
end
def SqB (K:W.Frag)(H:Hp)(c:Bool × Addr)(xs:List V):Prop:=if c.1=true then SqL K H c.2 xs else SqT K H c.2 xs
noncomputable def Itn (K:W.Frag)(cs:List (Bool × Addr)):L2.It :=
 ⟨fun i H=>∃xss ys,Paired (SqB K H) cs xss/\Paired (fun (xs:List V) (y:V)=>xs[i]?=some y) xss ys,
  fun i H v H'=>∃T,v=.ref T/\H T=none/\∀xss ys,Paired (SqB K H) cs xss->Paired (fun (xs:List V) (y:V)=>xs[i]?=some y) xss ys->H'=upd H T (.tup ys),
  fun i H=>∃xss,Paired (SqB K H) cs xss/\∃xs∈xss,xs.length=i⟩
theorem wb {α β:Type}{F:α->β->Prop}:∀ {l:List α}{r:List β}{a:α},Paired F l r->a∈l->∃b∈r,F a b
 | _,_,_,.nil,h=>nomatch h
 | _,_,_,.cons f t,h=>by
  rcases QZ.mp h with rfl|h
  ·exact⟨_,by simp,f⟩
  ·obtain⟨b,h1,h2⟩:=wb t h;exact⟨b,by simp[h1],h2⟩
theorem An {σ:L2.St}(I:L2.Inv X pins σ H s):∀ {its:List Addr}{cs:List (Bool × Addr)}{xss:List (List V)},Paired (fun it c=>ItB s.heap it c i) its cs->Paired (SqB X.K H) cs xss ->
  ∃ss:List Zs,ss.map Zs.it=its/\ss.map Zs.c=cs/\(∀q∈ss,SrcAt s.heap q i)/\Paired (fun (q:Zs) (xs:List V)=>Vals xs q.xs.toList) ss xss
 | _,_,_,.nil,.nil=>⟨[],rfl,rfl,fun q hq=>(nomatch hq),.nil⟩
 | _,_,_,.cons (a:=it) (b:=c) h1 t1,.cons (b:=xs) h2 t2=>by
  obtain⟨ss,e1,e2,e3,e4⟩:=An I t1 t2;obtain⟨b,a⟩:=c;cases b with
  | true =>
   obtain⟨its1,rv1,p1,hz1⟩:=I.list (show SqL X.K H a xs from h2);refine⟨⟨it,(true,a),its1.toArray⟩::ss,by rw[QN,e1],by rw[QN,e2],fun q hq=>?_,.cons (by simpa using rv1) e4⟩;rcases QZ.mp hq with rfl|hq
   ·exact⟨h1,p1.isList⟩
   ·exact e3 q hq
  | false =>
   obtain⟨its1,rv1,p1,hz1⟩:=I.tuple (show SqT X.K H a xs from h2);refine⟨⟨it,(false,a),its1.toArray⟩::ss,by rw[QN,e1],by rw[QN,e2],fun q hq=>?_,.cons (by simpa using rv1) e4⟩;rcases QZ.mp hq with rfl|hq
   ·exact⟨h1,p1⟩
   ·exact e3 q hq
theorem ya {i:Nat}:∀ {ss:List Zs}{xss:List (List V)}{ys:List V},Paired (fun (q:Zs) (xs:List V)=>Vals xs q.xs.toList) ss xss->Paired (fun (xs:List V) (y:V)=>xs[i]?=some y) xss ys->∃us,Paired (fun (q:Zs) (x:Value)=>q.xs[i]?=some x) ss us/\Vals ys us
 | _,_,_,.nil,.nil=>⟨[],.nil,.nil⟩
 | _,_,_,.cons h1 t1,.cons h2 t2=>by obtain⟨us,e1,e2⟩:=ya t1 t2;obtain⟨u,e3,e4⟩:=h1.get h2;exact⟨u::us,.cons (by simpa using e3) e1,.cons e4 e2⟩
theorem SqB.inj {σ:L2.St}(I:L2.Inv X pins σ H s):∀ {cs:List (Bool × Addr)}{xss yss:List (List V)},Paired (SqB X.K H) cs xss->Paired (SqB X.K H) cs yss->xss=yss
 | _,_,_,.nil,.nil=>rfl
 | _,_,_,.cons (a:=c) h1 t1,.cons h2 t2=>by
  rw[SqB.inj I t1 t2];obtain⟨b,a⟩:=c;cases b with
  | true=>rw[I.list_inj (show SqL X.K H a _ from h1) h2]
  | false=>rw[I.tuple_inj (show SqT X.K H a _ from h1) h2]
theorem E7 {i:Nat}:∀ {xss:List (List V)}{ys zs:List V},Paired (fun (xs:List V) (y:V)=>xs[i]?=some y) xss ys->Paired (fun (xs:List V) (y:V)=>xs[i]?=some y) xss zs->ys=zs
 | _,_,_,.nil,.nil=>rfl
 | _,_,_,.cons h1 t1,.cons h2 t2=>by rw[E7 t1 t2];rw[h1] at h2;cases h2;rfl
theorem CP {P:Program}{w:World}{K:W.Frag}{elts:List Expr}{kt:Nat}{pt:Pos}{z TI TO:Addr}{its:List Addr}{cs:List (Bool × Addr)}(nd:(z::TI::TO::its).Nodup)(ap:∀c∈cs,c.2 ∉ z::TI::TO::its)(hne:its≠[])(hs:its.length<=100) :
  xJ P w K (.Tuple elts kt pt) (Itn K cs) (z::TI::TO::its) z (fun i h=>ZSt z TI TO its h/\Paired (fun it c=>ItB h it c i) its cs) where
 mem:=by simp
 obj:=fun i h st c hc=>by
  obtain⟨⟨h1,h2,arr,la,h3⟩,h4⟩:=st;simp only[List.mem_cons] at hc;rcases hc with rfl|rfl|rfl|hc
  ·exact⟨_,h1,fun v z=>nomatch z⟩
  ·exact⟨_,h2,fun v z=>nomatch z⟩
  ·exact⟨_,h3,fun v z=>nomatch z⟩
  ·obtain⟨d,_,e⟩:=wb h4 hc;obtain⟨o,vs,e1,e2⟩:=e.obj;exact⟨o,e1,fun v z=>by rw[e2] at z;cases z⟩
 keep:=fun i h h' st k=>by
  obtain⟨⟨h1,h2,arr,la,h3⟩,h4⟩:=st;refine⟨⟨k z (by simp) _ h1,k TI (by simp) _ h2,arr,la,k TO (by simp) _ h3⟩,?_⟩;have:∀ {l:List Addr}{r:List (Bool × Addr)},(∀x∈l,x∈its)->Paired (fun it c=>ItB h it c i) l r->Paired (fun it c=>ItB h' it c i) l r:=by
   intro l r hl hp
   induction hp with
   | nil=>exact .nil
   | cons f t ih=>exact .cons (f.keep fun o e=>k _ (by simp[hl _ List.mem_cons_self]) o e) (ih fun x hx=>hl x (QD _ hx))
  exact this (fun x hx=>hx) h4
 item:=by
  intro X hP hw hK hc i pins s σ H E I hf st hg;subst hP hw hK;obtain⟨xss,ys,g1,g2⟩:=hg;obtain⟨hz,h4⟩:=st;obtain⟨ss,e1,e2,e3,e4⟩:=An I h4 g1;obtain⟨us,f1,f2⟩:=ya e4 g2;have za:ZA z TI TO ss:=⟨by rw[e1];exact nd,fun q hq=>by rw[e1];exact ap q.c (by rw[<-e2];exact QQ.mpr ⟨q,hq,rfl⟩)⟩
  have ssl:ss.length=its.length:=by rw[<-e1,QO]
  have line:(100:Nat)<=sizeLine:=by decide
  refine El (i:=i) (ss:=ss) (xs:=us) za (fun e=>hne (by rw[<-e1,e];rfl)) (by rw[ssl];exact QP hs line) (by rw[e1];exact hz) e3 f1 fun h' T lT z1 t1 t2 s1 tT nT kk=>?_;rw[e1] at t1 nT kk;refine⟨_,rfl,wpAny_letOwnedTupleGo_zip (s:={ s with heap:=h' }) z1 fun h'' z2 sb=>?_⟩;have nz:∀ {c:Addr},c∈TI::TO::its->c≠z:=fun hc e=>(QH.mp nd).1 (by rw[<-e];exact hc);have Tz:T≠z:=fun e=>nT (by rw[e];simp);have yl:ys.length<=100:=by rw[<-g2.length,<-g1.length,<-h4.length];exact hs
  have I2:L2.Inv X pins σ (upd H T (.tup ys)) { s with heap:=h'' }:=Bt (t':=s.toks) (its:=us) (wr:=z::TI::TO::its) I (fun b o hb e=>by rw[sb.2 b (fun q=>hb (by rw[q];simp))];exact kk b o hb e) (fun b hb=>hf b hb) lT f2 (QP yl line) ⟨_,by rw[sb.2 T Tz];exact tT,rfl,0,rfl⟩
  refine⟨.ref T,_,I2,rfl,⟨T,rfl,I.hok.fresh lT,fun xss' ys' k1 k2=>?_⟩,⟨⟨z2,by rw[sb.2 TI (nz (by simp))];exact t1,us,?_,by rw[sb.2 TO (nz (by simp))];exact t2⟩,?_⟩,fun b hb=>?_⟩
  ·have:=SqB.inj I k1 g1;subst this;rw[E7 k2 g2]
  ·rw[<-f1.length];exact ssl
  ·have go:∀ {l:List Zs},(∀q∈l,SrcAt h' q (i+1))->(∀q∈l,q.it≠z)->Paired (fun it c=>ItB h'' it c (i+1)) (l.map Zs.it) (l.map Zs.c):=by
    intro l
    induction l with
    | nil=>intro _ _;exact .nil
    | cons q l ih =>intro k1 k2;exact .cons ((k1 q QL).1.keep fun o e=>by rw[sb.2 _ (k2 q QL)];exact e) (ih (fun p hp=>k1 p (QD _ hp)) fun p hp=>k2 p (QD _ hp))
   have:=go s1 fun q hq=>nz (QD _ (QD _ (by rw[<-e1];exact QQ.mpr ⟨q,hq,rfl⟩)));rw[e1,e2] at this;exact this
  ·have hlt:b<s.heap.objs.size:=by
    obtain⟨h1,h2,arr,la,h3⟩:=hz;simp only[List.mem_cons] at hb;rcases hb with rfl|rfl|rfl|hb
    ·exact QF h1
    ·exact QF h2
    ·exact QF h3
    ·obtain⟨d,_,e⟩:=wb h4 hb;obtain⟨o,_,e,_⟩:=e.obj;exact QF e
   rw[ak (QU (P7 hlt lT))];exact(hf b hb).1
 done:=by
  intro X hP hw hK hc i pins s σ H E I hf st hg;subst hP hw hK;obtain⟨xss,g1,xs,gx,gl⟩:=hg;obtain⟨hz,h4⟩:=st;obtain⟨ss,e1,e2,e3,e4⟩:=An I h4 g1;have za:ZA z TI TO ss:=⟨by rw[e1];exact nd,fun q hq=>by rw[e1];exact ap q.c (by rw[<-e2];exact QQ.mpr ⟨q,hq,rfl⟩)⟩
  have ssl:ss.length=its.length:=by rw[<-e1,QO]
  have line:(100:Nat)<=sizeLine:=by decide
  have hn:∃q∈ss,q.xs[i]?=none:=by
   have:∀ {l:List Zs}{r:List (List V)},Paired (fun (q:Zs) (xs:List V)=>Vals xs q.xs.toList) l r->xs∈r->∃q∈l,q.xs[i]?=none:=by
    intro l r hp hx
    induction hp with
    | nil=>cases hx
    | @cons q ys l r f t ih =>
     rcases QZ.mp hx with rfl|hx
     ·refine⟨q,QL,?_⟩;have:=f.length;exact Array.getElem?_eq_none (by rw[<-gl,this];simp)
     ·obtain⟨p,h1,h2⟩:=ih hx;exact⟨p,QD _ h1,h2⟩
   exact this e4 gx
  refine FL (i:=i) (ss:=ss) (I.ok.hd hc) za (by rw[ssl];exact QP hs line) (by rw[e1];exact hz) e3 hn fun h' kk=>?_;rw[e1] at kk;exact⟨rfl,BM (t':=s.toks) I kk fun b hb=>hf b hb⟩
 self:=fun _ _ _ _ _ st h=>wpAny_pyIter_zip st.1.1 h
section
variable {prog:Program}{w:World}{A:Around}{E:Value->Shared->Prop}
theorem On {R:Array Value->Shared->Prop}:∀ {cs:List (Bool × Addr)}{acc:Array Value}{s:Shared},(∀c∈cs,∃xs,SeqB s.heap c xs) ->
  (∀h',h'.objs.size=s.heap.objs.size+cs.length->(∀b o,s.heap.get? b=some o->h'.get? b=some o)->Paired (fun it c=>ItB h' it c 0) (List.range' s.heap.objs.size cs.length) cs->R (acc++((List.range' s.heap.objs.size cs.length).map Value.ref).toArray) { s with heap:=h' }) ->
  wpAny (model prog w) A (forIn (cs.map fun c=>Value.ref c.2) acc fun x r=>do
   let v <-holding r.toList (pyIter x)
   pure (ForInStep.yield (r.push v))) R E s:=by
 intro cs
 induction cs with
 | nil =>intro acc s _ hR;exact QE (by simpa using hR s.heap rfl (fun _ _ e=>e) .nil)
 | cons c cs ih =>
  intro acc s hs hR;rw[QN,SS];obtain⟨xs,hx⟩:=hs c QL;refine P4 (P4 (S4 (Ia hx fun o ho=>QE ?_)));refine ih (acc:=acc.push (.ref s.heap.objs.size)) (s:={ s with heap:=s.heap.push o }) (fun d hd=>?_) fun h' k1 k2 k3=>?_
  ·obtain⟨ys,hy⟩:=hs d (QD _ hd);exact⟨ys,hy.keep fun o e=>P2 _ e⟩
  ·have sz:(s.heap.push o).objs.size=s.heap.objs.size+1:=SK _ _;have k1:h'.objs.size=(s.heap.push o).objs.size+cs.length:=k1;have k3:Paired (fun it c=>ItB h' it c 0) (List.range' (s.heap.push o).objs.size cs.length) cs:=k3;rw[sz] at k1 k3;have:=hR h' (by rw[k1,R6];omega) (fun b u e=>k2 b u (P2 _ e)) (by rw[R6,List.range'_succ];exact .cons (ho.keep fun u e=>k2 _ u e) k3)
   rw[R6,List.range'_succ] at this;show R (acc.push (Value.ref s.heap.objs.size)++((List.range' (s.heap.push o).objs.size cs.length).map Value.ref).toArray) _;rw[sz];simpa using this
theorem zR (cs:List (Bool × Addr))(hl:cs.length<=100):Meets (Builtin.«zip.__new__» ⟨.type "zip"::cs.map (fun c=>Value.ref c.2),[]⟩) fun _ R s=>(∀c∈cs,∃xs,SeqB s.heap c xs) /\
  ∀h',ZSt (s.heap.objs.size+cs.length+2) (s.heap.objs.size+cs.length) (s.heap.objs.size+cs.length+1) (List.range' s.heap.objs.size cs.length) h'->Paired (fun it c=>ItB h' it c 0) (List.range' s.heap.objs.size cs.length) cs->(∀b o,s.heap.get? b=some o->h'.get? b=some o)->R (.ok (.ret (.ref (s.heap.objs.size+cs.length+2)))) { s with heap:=h' }:=by
 intro prog w A R s ⟨h1,h⟩;have line:(100:Nat)<=sizeLine:=by decide
 refine P4 ?_;refine P4 (QE ?_);rw[sub_zip];refine P4 (QE ?_);refine QE ?_;refine P4 (m:=Builtin.SmallTypes.iterAll (cs.map fun c=>Value.ref c.2)) ?_;refine P4 (On h1 fun h' k1 k2 k3=>QE ?_);have e0:(#[]++((List.range' s.heap.objs.size cs.length).map Value.ref).toArray:Array Value).toList=(List.range' s.heap.objs.size cs.length).map Value.ref:=by simp
 rw[e0];have ln:((List.range' s.heap.objs.size cs.length).map Value.ref).length=cs.length:=by simp
 refine P4 (wpAny_newTuple ?_ (by rw[ln];exact QP hl line));refine P4 (wpAny_newTuple ?_ (by rw[QO,ln];exact QP hl line));refine P4 (wpAny_newObj_type (T:="zip") (data:=.fields #[.none,.bool false,.bool false,.ref h'.objs.size,.ref (h'.push (eR ((List.range' s.heap.objs.size cs.length).map Value.ref))).objs.size]) ?_);have s1:(h'.push (eR ((List.range' s.heap.objs.size cs.length).map Value.ref))).objs.size=s.heap.objs.size+cs.length+1:=(SK _ _).trans (by rw[k1]);have s2:((h'.push (eR ((List.range' s.heap.objs.size cs.length).map Value.ref))).push (eR (((List.range' s.heap.objs.size cs.length).map Value.ref).map fun _=>Value.none))).objs.size=s.heap.objs.size+cs.length+2:=(SK _ _).trans (by rw[s1]);refine QE ?_;show R (.ok (.ret (.ref ((h'.push (eR ((List.range' s.heap.objs.size cs.length).map Value.ref))).push (eR (((List.range' s.heap.objs.size cs.length).map Value.ref).map fun _=>Value.none))).objs.size))) _;rw[s2];refine h _ ⟨?_,?_,((List.range' s.heap.objs.size cs.length).map Value.ref).map fun _=>Value.none,by simp,?_⟩ ?_ fun b o e=>P2 _ (P2 _ (P2 _ (k2 b o e)))
 ·rw[<-s2];have g:=QG ((h'.push (eR ((List.range' s.heap.objs.size cs.length).map Value.ref))).push (eR (((List.range' s.heap.objs.size cs.length).map Value.ref).map fun _=>Value.none))) (o:={ cls:=.type "zip",data:=.fields #[.none,.bool false,.bool false,.ref h'.objs.size,.ref (h'.push (eR ((List.range' s.heap.objs.size cs.length).map Value.ref))).objs.size] }) rfl;rw[k1,s1] at g;rw[k1,s1];exact g
 ·rw[<-k1];exact P2 _ (P2 _ (QG _ rfl))
 ·rw[<-s1];exact P2 _ (QG _ rfl)
 ·have:∀ {l:List Addr}{r:List (Bool × Addr)},Paired (fun it c=>ItB h' it c 0) l r->∀ {g:Heap},(∀b o,h'.get? b=some o->g.get? b=some o)->Paired (fun it c=>ItB g it c 0) l r:=by
   intro l r hp g hg
   induction hp with
   | nil=>exact .nil
   | cons f t ih=>exact .cons (f.keep fun o e=>hg _ o e) ih
  exact this k3 fun b o e=>P2 _ (P2 _ (P2 _ e))
end
section
variable {prog:Program}{w:World}{A:Around}{E:Value->Shared->Prop}{s:Shared}
def OA (cs:List (Bool × Addr))(Q:Value->Shared->Prop)(s:Shared):Prop:=∀h',ZSt (s.heap.objs.size+cs.length+2) (s.heap.objs.size+cs.length) (s.heap.objs.size+cs.length+1) (List.range' s.heap.objs.size cs.length) h'->Paired (fun it c=>ItB h' it c 0) (List.range' s.heap.objs.size cs.length) cs->(∀b o,s.heap.get? b=some o->h'.get? b=some o) ->
 Q (.ref (s.heap.objs.size+cs.length+2)) { s with heap:=h' }
theorem C_ {c1:Bool × Addr}(h1:∀c∈[c1,c2],∃xs,SeqB s.heap c xs)(h:OA [c1,c2] Q s):wpAny (model prog w) A (call (.type "zip") [.ref c1.2,.ref c2.2]) Q E s:=by refine callType_new F.called_zip rfl (F.typeCall_zip_2 _ _) (F.newCall_zip_2 _ _) (fun obj=>?_) F.entry_zip_new (zR [c1,c2] (Nat.le_of_ble_eq_true rfl)) ⟨h1,fun h' k1 k2 k3=>⟨⟨_,k1.1,rfl⟩,h h' k1 k2 k3⟩⟩;exact F.args_object_init_3 _ _ _
end
section
variable {X:Cx}{pins:List (Addr × Obj)}{σ:L2.St}{H:Hp}{s:Shared}
theorem SqB.seq (I:L2.Inv X pins σ H s)(h:SqB X.K H c xs):∃ys,SeqB s.heap c ys:=by
 obtain⟨b,a⟩:=c;cases b with
 | true=>obtain⟨its,_,p,_⟩:=I.list (show SqL X.K H a xs from h);exact⟨_,p.isList⟩
 | false=>obtain⟨its,_,p,_⟩:=I.tuple (show SqT X.K H a xs from h);exact⟨_,p⟩
theorem SeqB.lt (z:SeqB h c ys):c.2<h.objs.size:=by
 obtain⟨b,a⟩:=c;cases b with
 | true=>obtain⟨_,e,_⟩:=(show h.IsList a ys from z);exact QF e
 | false=>obtain⟨_,e,_⟩:=(show h.IsTuple a ys from z);exact QF e
theorem Hz {N n b:Nat}(h:b∈(N+n+2)::(N+n)::(N+n+1)::List.range' N n):N<=b:=by simp only[List.mem_cons,List.mem_range'_1] at h;omega
theorem L7 (N n:Nat):((N+n+2)::(N+n)::(N+n+1)::List.range' N n).Nodup:=by refine QH.mpr ⟨fun h=>?_,QH.mpr ⟨fun h=>?_,QH.mpr ⟨fun h=>?_,List.nodup_range'⟩⟩⟩ <;> (simp only[List.mem_cons,List.mem_range'_1] at h;omega)
theorem II {cs:List (Bool × Addr)}{R:L2.It->Hp->Prop}(I:L2.Inv X pins σ H s)(hs:∀c∈cs,∃xs,SqB X.K H c xs)(hn:cs≠[])(hl:cs.length<=100)(q:R (Itn X.K cs) H) :
  OA cs (fun v s1=>wpAny (model X.prog X.w) X.A (pyIter v) (PIE X pins σ (.Tuple elts kt pt) R) X.xe s1) s:=by
 intro h' k1 k2 kk;refine wpAny_pyIter_zip k1.1 ?_;have nd:=L7 s.heap.objs.size cs.length;have big:∀b,b∈(s.heap.objs.size+cs.length+2)::(s.heap.objs.size+cs.length)::(s.heap.objs.size+cs.length+1)::List.range' s.heap.objs.size cs.length->s.heap.objs.size<=b:=fun b hb=>Hz hb;refine⟨_,_,_,_,H,rfl,I.kept (t':=s.toks) kk,CP nd (fun c hc hm=>?_) (fun e=>hn ?_) (by simpa using hl),⟨k1,k2⟩,fun b hb=>I.fpOk (big b hb) (I.hok.fresh (big b hb)),q⟩
 ·obtain⟨xs,hx⟩:=hs c hc;obtain⟨ys,hy⟩:=hx.seq I;exact absurd (P7 hy.lt (big _ hm)) (RX _)
 ·have:=Q0 List.length e;simp at this;exact this
end
section
variable {X:Cx}
noncomputable def Nf (K:W.Frag)(ta:TA):TI:=fun σ H R=>ta σ H fun vs H1=>∃c d,vs=[.ref c.2,.ref d.2]/\(∀e∈[c,d],∃xs,SqB K H1 e xs)/\R (Itn K [c,d]) H1
theorem Mm {a:Expr}(hg:Gl X "zip")(hm:X.mg "zip"=none)(ha:PA X [a,b] ta)(hs:starEach [a,b] X.env=[(false,eval a X.env),(false,eval b X.env)])(hs2:starEach [b] X.env=[(false,eval b X.env)]) :
  PI X (.Tuple elts kt pt) (.Call (.Name "zip" p) [a,b] [] pos) (Nf X.K ta):=by
 intro pins s σ H R I h;refine Call_ (jE I hg hm boot_zip (RA (thn (ha pos pins s σ H _ I h) fun us s1 ⟨vs,H1,I1,r1,q1⟩=>?_) (by rw[hs,hs2]) (by rw[hs2];rfl)));obtain⟨c,d,e,hq,q⟩:=q1;subst e;obtain⟨u,v,rfl,ru,rv⟩:=wD r1;cases ru;cases rv;exact C_ (fun f hf=>let ⟨xs,hx⟩:=hq f hf;hx.seq I1) (II I1 hq (by simp) (by simp) q)
end
def LB (K:W.Frag)(c:Bool × Addr)(xs:List PV)(chk:AH->Prop)(m0:List Addr)(H0:Hp):Prop:=∀m H st,Ext K m0 H0 m H->RH K m H st->chk st->∃ys,SqB K H c ys/\Rs K m H xs ys
theorem KW (rh:RH K m H st)(r:R K m H v x)(e:bN st v=some xs):∃c:Bool × Addr,x=.ref c.2/\LB K c xs (iF st v) m H/\∃ys,SqB K H c ys:=by
 cases v with
 | tup ys =>cases e;rw[R_tup] at r;obtain⟨a,zs,rfl,g,r3⟩:=r;exact⟨(false,a),rfl,fun m' H' st' x r q=>⟨zs,x.tup _ _ g,r3.mono x⟩,zs,g⟩
 | rdl ys =>cases e;rw[gX] at r;obtain⟨a,zs,rfl,g,r3⟩:=r;exact⟨(true,a),rfl,fun m' H' st' x r q=>⟨zs,(x.rdf _ _ g).sq,r3.mono x⟩,zs,g.sq⟩
 | ref n =>
  unfold bN bG at e;simp only at e;split at e
  ·cases e;rename_i q;obtain⟨a,zs,rfl,ea,g,r3⟩:=rh.lst q r;refine⟨(true,a),rfl,fun m' H' st' x r' q'=>?_,zs,SqL.of g⟩;have q':st'[n]?=st[n]?:=q';rw[q] at q';obtain⟨ys,h1,h2⟩:=r'.at_ n _ a q' (l9 x.pre ea);exact⟨ys,SqL.of h1,h2⟩
  ·cases e
 | _=>cases e
theorem DB (h1:LB K a xs c1 m0 H0)(h2:LB K b ys c2 m0 H0):qK K (Itn K [a,b]) (ig xs ys) (fun st=>c1 st/\c2 st) m0 H0:=by
 refine⟨fun m H st x r q=>?_,fun i v m H st x r q ev=>?_⟩
 ·obtain⟨as,g1,r1⟩:=h1 m H st x r q.1;obtain⟨bs,g2,r2⟩:=h2 m H st x r q.2;refine⟨[as,bs],.cons g1 (.cons g2 .nil),?_⟩;rw[nk,r1.len,r2.len];rcases Nat.le_total as.length bs.length with h|h
  ·exact⟨as,by simp,(Nat.min_eq_left h).symm⟩
  ·exact⟨bs,by simp,(Nat.min_eq_right h).symm⟩
 ·obtain⟨as,g1,r1⟩:=h1 m H st x r q.1;obtain⟨bs,g2,r2⟩:=h2 m H st x r q.2;obtain⟨u,v',e1,e2,rfl⟩:=qY ev;obtain⟨y1,f1,q1⟩:=r1.get e1;obtain⟨y2,f2,q2⟩:=r2.get e2;refine⟨⟨[as,bs],[y1,y2],.cons g1 (.cons g2 .nil),.cons f1 (.cons f2 .nil)⟩,?_⟩;rintro z H' ⟨T,rfl,hT,hh⟩;have:=hh _ _ (.cons g1 (.cons g2 .nil)) (.cons f1 (.cons f2 .nil));subst this;refine⟨Ext.newT r hT,r.newT hT,R_tup.mpr ⟨T,[y1,y2],rfl,SqT.of bY,?_⟩⟩;rw[Rs_cons',Rs_cons',Rs_nil];exact⟨q1.mono (Ext.newT r hT),q2.mono (Ext.newT r hT),rfl⟩
end FW
namespace FW
open L2 HX
noncomputable def Itc (z:Str):L2.It:=⟨fun i _=>i<z.cps.size,fun i H x H'=>H'=H/\∃c,z.cps[i]?=some c/\x=.str ⟨#[c]⟩,fun i _=>i=z.cps.size⟩
theorem qP {P:Program}{w:World}{K:W.Frag}{tg:Expr}{it:Addr}{z:Str}{t:Tok}{nm:String}(hW:∀A:Around,A.handled=none->Walks P w A it [it] [it] z.cps.size (SignAt z) (fun i h=>h.IsStrIter it nm z t i))
  (hn:["enumerate","zip","dict_itemiterator","dict_reverseitemiterator","odict_iterator","itertools.zip_longest","itertools.pairwise"].contains nm=false) (hS:∀(A:Around) (i:Nat) (s:Shared) (Q:Value->Shared->Prop) (E:Value->Shared->Prop),s.heap.IsStrIter it nm z t i->Q (.ref it) s->wpAny (model P w) A (pyIter (.ref it)) Q E s):xJ P w K tg (Itc z) [it] it (fun i h=>h.IsStrIter it nm z t i) where
 mem:=by simp
 obj:=fun i h st b hb=>by
  have e:b=it:=by simpa using hb
  subst e;obtain⟨o,e,c,d⟩:=st;exact⟨o,e,fun v z=>by rw[d] at z;cases z⟩
 keep:=fun i h h' st k=>by obtain⟨o,e,r⟩:=st;exact⟨o,k it (by simp) o e,r⟩
 item:=by intro X hP hw hK hc i pins s σ H E I hf st hg;subst hP hw hK;obtain⟨f0,f1,f2,f3,f4,f5⟩:=hf it (by simp);refine(hW X.A (I.ok.hd hc)).item i s _ _ hg st fun v h' tk hv st' kk=>?_;obtain⟨c,u,ec,rfl⟩:=hv;have I1:L2.Inv X pins σ H { s with heap:=h',toks:=tk }:=I.turned (fun b o hb e=>kk b o (by simpa using hb) e) f0 f1 f3 f4 f5;obtain⟨o,e,cc,d⟩:=id st';exact⟨_,rfl,wQ (s:={ s with heap:=h',toks:=tk }) e cc d hn ⟨.str ⟨#[c]⟩,H,I1,⟨u,rfl⟩,⟨rfl,c,ec,rfl⟩,st',fun b hb=>(hf b hb).1⟩⟩
 done:=by intro X hP hw hK hc i pins s σ H E I hf st hg;subst hP hw hK;have hg:i=z.cps.size:=hg;subst hg;obtain⟨f0,f1,f2,f3,f4,f5⟩:=hf it (by simp);exact(hW X.A (I.ok.hd hc)).done s _ _ st fun h' tk kk=>⟨rfl,I.turned (fun b o hb e=>kk b o (by simpa using hb) e) f0 f1 f3 f4 f5⟩
 self:=hS
theorem yY:qK K (Itc z) (je z) (fun _=>True) m0 H0:=by
 refine⟨fun m H st x r q=>by show (je z).length=z.cps.size;simp[je],fun i v m H st x r q ev=>?_⟩;unfold je at ev;rw[QK] at ev;cases e:z.cps.toList[i]? with
 | none=>rw[e] at ev;cases ev
 | some c =>
  rw[e] at ev;cases ev;have e':z.cps[i]?=some c:=by simpa using e
  refine⟨(RP.mp e').1,?_⟩;rintro y H' ⟨rfl,c',e2,rfl⟩;rw[e'] at e2;cases e2;exact⟨Ext.refl _ _ _,r,R_str.mpr rfl⟩
section
variable {X:Cx}{tg:Expr}
noncomputable def LW (te:TE):TI:=fun σ H R=>te σ H fun x H1=>∃z,x=.str z/\R (Itc z) H1
theorem DN (he:PE X e te):PI X tg e (LW te):=by
 intro pins s σ H R I h;refine thn (he pins s σ H _ I h) fun v s1 ⟨x,H1,I1,r1,q1⟩=>?_;obtain⟨z,e,q⟩:=q1;subst e;obtain⟨t,rfl⟩:=r1;have fin:∀b,b∈[s1.heap.objs.size]->jX X pins H1 b:=fun b hb=>by
  have e:b=s1.heap.objs.size:=by simpa using hb
  subst e;exact I1.fpOk (P6 _) (I1.hok.fresh (P6 _))
 cases ha:z.cps.all (·< 128)
 ·exact wpAny_pyIter_wide ha ⟨_,_,_,_,H1,rfl,I1.kept (t':=s1.toks) fun b o e=>P2 _ e,qP (nm:="str_iterator") (fun A hA=>Walks.strWide hA _ z t) (by decide) (fun _ _ _ _ _ st h=>wpAny_pyIter_striter_wide st h),⟨_,QG _ rfl,rfl,rfl⟩,fin,q⟩
 ·exact wpAny_pyIter_ascii ha ⟨_,_,_,_,H1,rfl,I1.kept (t':=s1.toks) fun b o e=>P2 _ e,qP (nm:="str_ascii_iterator") (fun A hA=>Walks.strAscii hA _ z t) (by decide) (fun _ _ _ _ _ st h=>wpAny_pyIter_striter_ascii st h),⟨_,QG _ rfl,rfl,rfl⟩,fin,q⟩
noncomputable def L4 (lo k:Int)(n:Nat):L2.It:=⟨fun i _=>i<n,fun i H x H'=>H'=H/\x=.int (lo+i*k),fun i _=>n<=i⟩
theorem Hv {P:Program}{w:World}{K:W.Frag}{it:Addr}{lo k:Int}{n:Nat}:xJ P w K tg (L4 lo k n) [it] it (fun i h=>IsRangeIter h it (lo+(i:Nat)*k) ((n:Int)-(i:Nat)) k) where
 mem:=by simp
 obj:=fun i h st b hb=>by
  have e:b=it:=by simpa using hb
  subst e;exact⟨_,st,fun v z=>by have z':Data.fields _=Data.cell v:=z;cases z'⟩
 keep:=fun i h h' st k=>k it (by simp) _ st
 item:=by intro X hP hw hK hc i pins s σ H E I hf st hg;subst hP hw hK;obtain⟨f0,f1,f2,f3,f4,f5⟩:=hf it (by simp);have W:=Walks.range (prog:=X.prog) (w:=X.w) (I.ok.hd hc) it lo k n;refine W.item i s _ _ hg st fun v h' tk hv st' kk=>?_;obtain⟨t,rfl⟩:=hv;have I1:L2.Inv X pins σ H { s with heap:=h',toks:=tk }:=I.turned (fun b o hb e=>kk b o (by simpa using hb) e) f0 f1 f3 f4 f5;exact ⟨_,rfl,wQ (s:={ s with heap:=h',toks:=tk }) (n:="range_iterator") st' rfl rfl (by decide) ⟨.int (lo+i*k),H,I1,⟨t,rfl⟩,⟨rfl,rfl⟩,st',fun b hb=>(hf b hb).1⟩⟩
 done:=by intro X hP hw hK hc i pins s σ H E I hf st hg;subst hP hw hK;obtain⟨f0,f1,f2,f3,f4,f5⟩:=hf it (by simp);exact wpAny_pyNext_range_end (I.ok.hd hc) st (by have:n<=i:=hg;omega) fun h' eb=>⟨rfl,I.turned (t':=s.toks) (fun b o hb e=>eb b o hb e) f0 f1 f3 f4 f5⟩
 self:=fun _ _ _ _ _ st h=>wpAny_pyIter_rangeiter st h
theorem GN:qK K (L4 lo k n) (jl lo k n) (fun _=>True) m0 H0:=by
 refine⟨fun m H st x r q=>by show n<=_;simp[jl],fun i v m H st x r q ev=>?_⟩;unfold jl at ev;rw[QK] at ev;have hi:i<n:=by
  by_cases hi:i<n
  ·exact hi
  ·rw[RW (by simp;omega)] at ev;cases ev
 rw[SI hi] at ev;cases ev;refine⟨hi,fun z H' ⟨e2,e3⟩=>?_⟩;subst e2 e3;exact⟨Ext.refl _ _ _,r,R_int.mpr rfl⟩
noncomputable def Nl (ta:TA):TI:=fun σ H R=>ta σ H fun vs H1=>∃i j k:Int,vs=[.int i,.int j,.int k]/\(-(2 ^ 62)<=i/\i<2 ^ 62/\-(2 ^ 62)<=j/\j<2 ^ 62/\0<k/\k<2 ^ 62)/\R (L4 i k (rSz i j k)) H1
theorem DL {i j k:Int}(h:-(2 ^ 62)<=i/\i<2 ^ 62/\-(2 ^ 62)<=j/\j<2 ^ 62/\0<k/\k<2 ^ 62):Builtin.Range.rangeSize i j k=(rSz i j k:Nat)/\Builtin.Range.small i j k=true:=by
 have e:Builtin.Range.rangeSize i j k=(rSz i j k:Nat):=by
  unfold Builtin.Range.rangeSize rSz;rw[QA h.2.2.2.2.1];split
  ·have:0<=(j-i-1)/k:=UX (by omega) (by omega);omega
  ·rfl
 have b:(rSz i j k:Int)<2 ^ 63:=by
  unfold rSz;split
  ·have h0:0<=(j-i-1)/k:=UX (by omega) (by omega);have h1:(j-i-1)/k<=j-i-1:=Int.ediv_le_self _ (by omega);omega
  ·decide
 refine⟨e,?_⟩;unfold Builtin.Range.small;rw[e];simp[Builtin.Range.rangeFitsLong];rw[QA h.2.2.2.2.1];omega
theorem log2_lt {d:Nat}(h:d<2 ^ 63):d.log2<63:=by
 by_cases h0:d=0
 ·subst h0;decide
 ·exact(UK h0).mpr h
theorem CU {a:Expr}(hg:Gl X "range")(hm:X.mg "range"=none)(ha:PA X [a,b,c] ta)(hs:starEach [a,b,c] X.env=[(false,eval a X.env),(false,eval b X.env),(false,eval c X.env)])(hs2:starEach [b,c] X.env=[(false,eval b X.env),(false,eval c X.env)]) :
  PI X tg (.Call (.Name "range" p) [a,b,c] [] pos) (Nl ta):=by
 intro pins s σ H R I h;refine Call_ (jE I hg hm boot_range (RA (thn (ha pos pins s σ H _ I h) fun us s1 ⟨vs,H1,I1,r1,q1⟩=>?_) (by rw[hs,hs2]) (by rw[hs2];rfl)));obtain⟨i,j,k,e,h1,q⟩:=q1;subst e;cases r1 with
 | cons r rr =>
  cases rr with
  | cons r' rr =>
   cases rr with
   | cons r'' rr =>
   cases rr;obtain⟨t,rfl⟩:=r;obtain⟨t',rfl⟩:=r';obtain⟨t'',rfl⟩:=r'';obtain⟨e0,e1⟩:=DL h1;refine call_range_3 (by omega) ?_ (.inl (S6 (RQ (log2_lt (d:=k.natAbs) (by omega)) (by decide))));refine wpAny_pyIter_range (IsRange.new ..) e1 ?_;have I2:L2.Inv X pins σ H1 { s1 with heap:=s1.heap.push { cls:=.type "range",data:=.fields #[.int i t,.int j t',.int k t''] } }:=I1.kept (t':=s1.toks) fun b o e=>P2 _ e;refine⟨_,[_],_,_,H1,rfl,I2.kept (t':=s1.toks) fun b o e=>P2 _ e,Hv (lo:=i) (k:=k) (n:=rSz i j k),?_,fun b hb=>?_,q⟩
   ·have:=QG (s1.heap.push { cls:=.type "range",data:=.fields #[.int i t,.int j t',.int k t''] }) (o:={ cls:=.type "range_iterator",data:=.fields #[rawInt i,rawInt (Builtin.Range.rangeSize i j k),rawInt k] }) rfl;show IsRangeIter _ _ (i+((0:Nat):Int)*k) ((rSz i j k:Int)-((0:Nat):Int)) k;rw[show i+((0:Nat):Int)*k=i by simp,show (rSz i j k:Int)-((0:Nat):Int)=Builtin.Range.rangeSize i j k by rw[e0];simp];exact this
   ·rw[QI] at hb;subst hb;exact I2.fpOk (P6 _) (I2.hok.fresh (P6 _))
end
section
variable {X:Cx}
noncomputable def Bh (z y:Str):List V :=
 match Builtin.Str.occurrences z y 0 z.length 1 with
 | i::_=>[.str (Builtin.Str.strSub z 0 i),.str y,.str (Builtin.Str.strSub z (i+y.length) z.length)]
 | []=>[.str z,.str Str.empty,.str Str.empty]
theorem Ms:Rs K m H (oP z y) (Bh z y):=by
 unfold oP Bh;cases Builtin.Str.occurrences z y 0 z.length 1 with
 | nil=>show Rs K m H [_,_,_] [_,_,_];simp only[Rs_cons',Rs_nil,R_str,and_self]
 | cons i r=>show Rs K m H [_,_,_] [_,_,_];simp only[Rs_cons',Rs_nil,R_str,and_self]
theorem IT:MtR X "str.partition" (fun x vs H Q=>∃z y,x=.str z/\vs=[.str y]/\(y.length == 0)=false/\z.length<=100000/\∀p,H p=none->Q (.ref p) (upd H p (.tup (Bh z y)))):=by
 intro pins s σ H x vs v us Q I rx rv h;obtain⟨z,y,rfl,rfl,h1,h2,q⟩:=h;obtain⟨t,rfl⟩:=rx;obtain⟨u,rfl,t',rfl⟩:=fQ rv;refine call_meets F.slot_str_partition (typeIs_str _ _ _) F.entry_str_partition (F.args_str_partition_2 _ _) (meets_str_partition z y t t' h1 (fI h2)) ?_;have hf:H s.heap.objs.size=none:=I.hok.fresh (P6 _);have q:=q _ hf;unfold Bh at q;revert q;cases Builtin.Str.occurrences z y 0 z.length 1 with
 | nil=>exact fun q=>⟨.ref s.heap.objs.size,_,I.laid (t':=s.toks+1) (o:=.tup [.str z,.str Str.empty,.str Str.empty]) (fun b u e=>P2 _ e) (P6 _) ⟨by show 3<=sizeLine;decide,[_,_,_],.cons ⟨_,rfl⟩ (.cons ⟨_,rfl⟩ (.cons ⟨_,rfl⟩ .nil)),⟨_,QG _ rfl,rfl,_,rfl⟩⟩,rfl,q⟩
 | cons i r=>exact fun q=>⟨.ref s.heap.objs.size,_,I.laid (t':=s.toks+1+1) (o:=.tup [.str (Builtin.Str.strSub z 0 i),.str y,.str (Builtin.Str.strSub z (i+y.length) z.length)]) (fun b u e=>P2 _ e) (P6 _) ⟨by show 3<=sizeLine;decide,[_,_,_],.cons ⟨_,rfl⟩ (.cons ⟨_,rfl⟩ (.cons ⟨_,rfl⟩ .nil)),⟨_,QG _ rfl,rfl,_,rfl⟩⟩,rfl,q⟩
theorem t9:∀ {ss:List Str}{us:List Value},Vals (ss.map V.str) us->∃l:List (Str × Tok),us=strValues l/\l.map (·.1)=ss
 | [],us,r=>by cases r;exact⟨[],rfl,rfl⟩
 | z::ss,us,r=>by
  cases r with
  | cons a b =>obtain⟨t,rfl⟩:=a;obtain⟨l,rfl,e⟩:=t9 b;exact⟨(z,t)::l,rfl,by rw[QN,e]⟩
theorem GQ:MtR X "str.join" (fun x vs H Q=>∃y l ss,x=.str y/\vs=[.ref l]/\SqL X.K H l (ss.map V.str)/\JoinOk y ss=true/\Q (.str (Txt.join y ss)) H):=by intro pins s σ H x vs v us Q I rx rv h;obtain⟨y,l,ss,rfl,rfl,h1,h2,q⟩:=h;obtain⟨t,rfl⟩:=rx;obtain⟨u,rfl,ru⟩:=fQ rv;cases ru;obtain⟨its,ri,pl,_⟩:=I.list h1;obtain⟨ts,rfl,e⟩:=t9 ri;exact SC.join pl.isList e h2 fun t' k=>⟨.str _,H,I.tok k,⟨t',rfl⟩,q⟩
theorem uC:∀(l:List (Str × Tok)),Vals ((l.map (·.1)).map V.str) (strValues l)
 | []=>.nil
 | (z,t)::l=>.cons ⟨t,rfl⟩ (uC l)
theorem EY:MtR X "str.split" (fun x vs H Q=>∃z y,x=.str z/\vs=[.str y]/\(y.length == 0)=false/\z.length<=sizeLine/\(Txt.split z y).length<=sizeLine/\∀p,H p=none->Q (.ref p) (upd H p (.lst ((Txt.split z y).map V.str)))):=by
 intro pins s σ H x vs v us Q I rx rv h;obtain⟨z,y,rfl,rfl,hy,h1,h2,q⟩:=h;obtain⟨t,rfl⟩:=rx;obtain⟨u,rfl,t',rfl⟩:=fQ rv;have hf:H s.heap.objs.size=none:=I.hok.fresh (P6 _);have q:=q _ hf;unfold Txt.split at q h2;cases e1:(decide (z.length<y.length) || decide (Builtin.Str.strKind z<Builtin.Str.strKind y))
 ·rw[e1,QC P5] at q h2;cases e2:(Builtin.Str.occurrences z y 0 z.length (z.length+1)).isEmpty
  ·rw[e2,QC P5] at q h2;refine call_meets UO (typeIs_str _ _ _) UL (UD _ _) (meets_str_split_sep z y t t' e1 hy e2 h1 h2) ?_;rw[strsFrom_eq];have r:=uC (numbered s.toks (Builtin.Str.partsBetween z (Builtin.Str.occurrences z y 0 z.length (z.length+1)) y.length));rw[numbered_texts] at r;exact⟨.ref s.heap.objs.size,_,I.laid (o:=.lst ((Builtin.Str.partsBetween z (Builtin.Str.occurrences z y 0 z.length (z.length+1)) y.length).map V.str)) (fun b u e=>P2 _ e) (P6 _) ⟨by rw[QO];exact h2,_,_,r,QG _ rfl⟩,rfl,q⟩
  ·rw[e2,QA rfl] at q;refine call_meets UO (typeIs_str _ _ _) UL (UD _ _) (meets_str_split_not_found z y t t' e1 hy e2) ?_;exact⟨.ref s.heap.objs.size,_,I.laid (t':=s.toks) (o:=.lst [V.str z]) (fun b u e=>P2 _ e) (P6 _) ⟨by show 1<=sizeLine;decide,[_],_,.cons ⟨t,rfl⟩ .nil,QG _ rfl⟩,rfl,q⟩
 ·rw[e1,QA rfl] at q;refine call_meets UO (typeIs_str _ _ _) UL (UD _ _) (meets_str_split_cannot_occur z y t t' e1) ?_;exact⟨.ref s.heap.objs.size,_,I.laid (t':=s.toks) (o:=.lst [V.str z]) (fun b u e=>P2 _ e) (P6 _) ⟨by show 1<=sizeLine;decide,[_],_,.cons ⟨t,rfl⟩ .nil,QG _ rfl⟩,rfl,q⟩
theorem EO:MtR X "str.join" (fun x vs H Q=>∃y l z,x=.str y/\vs=[.ref l]/\H l=some (.lst [.str z])/\z.length<=100000/\y.length=0/\Q (.str z) H):=by intro pins s σ H x vs v us Q I rx rv h;obtain⟨y,l,z,rfl,rfl,h1,h2,h3,q⟩:=h;obtain⟨t,rfl⟩:=rx;obtain⟨u,rfl,ru⟩:=fQ rv;cases ru;obtain⟨zz,its,n,r,hl,e⟩:=I.lstM h1;obtain⟨u1,rfl,t1,rfl⟩:=fQ r;refine call_meets F.slot_str_join (typeIs_str _ _ _) F.entry_str_join (F.args_str_join_2 _ _) (meets_str_join_list y t l [(z,t1)] ?_) ⟨⟨_,e,rfl,_,rfl⟩,⟨.str z,H,I,⟨t1,rfl⟩,q⟩⟩;show Builtin.Str.tooLong (0+z.length+y.length)=false;rw[h3];unfold Builtin.Str.tooLong;exact QJ (by rw[sizeLine_eq];omega)
theorem EE {v:Value}:slicePick #[v] none none (some (-1))=#[v]:=by
 have e:sliceRange (sliceBounds none none (some (-1)) (#[v]:Array Value).size).1 (sliceBounds none none (some (-1)) (#[v]:Array Value).size).2.1 (sliceBounds none none (some (-1)) (#[v]:Array Value).size).2.2=[0]:=by show sliceRange (sliceBounds none none (some (-1)) 1).1 (sliceBounds none none (some (-1)) 1).2.1 (sliceBounds none none (some (-1)) 1).2.2=[0];decide
 unfold slicePick;rw[e];rfl
theorem HM (he:PE X e te)(hs:PE X st ts)(h1:∀ {σ H Q},Q (.int (-1)) H->ts σ H Q) :
  PE X (.Subscript e (.Slice none none (some st) p2) pos) (fun σ H Q=>te σ H fun x H1=>∃a v,x=.ref a/\H1 a=some (.lst [v])/\∀p,H1 p=none->Q (.ref p) (upd H1 p (.lst [v]))):=by
 intro pins s σ H Q I h;refine Subscript_ (thn (he pins s σ H _ I h) fun v s1 ⟨x,H1,I1,r1,q1⟩=>?_);refine wpAny_Slice ?_;rw[evalPart_none];refine QE ?_;rw[evalPart_some];refine QE ?_;refine thn (hs pins s1 σ H1 (fun y H2=>H2=H1/\y=.int (-1)) I1 (h1 ⟨rfl,rfl⟩)) fun u s3 ⟨y,H3,I3,r3,e1,e2⟩=>?_;subst e1 e2;obtain⟨t3,rfl⟩:=r3;obtain⟨a,v0,rfl,ha,q⟩:=q1;cases r1;obtain⟨zz,its,n,r,hl,eo⟩:=I3.lstM ha;obtain⟨u1,rfl,ru⟩:=fQ r;have I4:L2.Inv X pins σ H3 { s3 with heap:=s3.heap.push { cls:=.type "slice",data:=.fields #[.none,.none,.int (-1) t3] } }:=I3.kept (t':=s3.toks) fun b ob q=>P2 _ q;obtain⟨_,its4,n4,r4,hl4,eo4⟩:=I4.lstM ha;obtain⟨u4,rfl,ru4⟩:=fQ r4;have hL:({ s3 with heap:=s3.heap.push { cls:=.type "slice",data:=.fields #[.none,.none,.int (-1) t3] } }:Shared).heap.IsList a [u4].toArray:=⟨_,eo4,rfl,_,rfl⟩;show wpAny (model X.prog X.w) X.A (subscriptTail e (.Slice none none (some st) p2) (.ref a) (.ref s3.heap.objs.size)) (EP X pins σ Q) X.xe { s3 with heap:=s3.heap.push { cls:=.type "slice",data:=.fields #[.none,.none,.int (-1) t3] } };refine tail_any (ops:=[.ref a,.ref s3.heap.objs.size]) hL.typeIs slot_list_getitem.lookup ?_ (by with_unfolding_all rfl);refine wpAny_getItem_list_slice hL (Heap.IsSliceOf.new ..) .none .none (.int (-1) t3) (by simp) ?_ (by show 1<=sizeLine;decide);rw[EE];refine⟨.ref _,_,I4.laid (t':=s3.toks) (o:=.lst [v0]) (fun b ob q=>P2 _ q) (P6 _) ?_,rfl,q _ (I4.hok.fresh (P6 _))⟩;exact⟨by show 1<=sizeLine;decide,[u4],0,.cons ru4 .nil,QG _ rfl⟩
end
end FW
namespace FW
open L2 HX
noncomputable def iC (env:Env):List (Str × NameKind)->List (Str × Addr)->List (Str × Addr)
 | [],cs=>cs
 | (x,k)::r,cs=>iC env r (if k == .free then (x,(env.cells.lookup x).getD 0)::cs else cs)
theorem lG {scope:Scope}{env:Env}(h:∀y∈scope.names,y.2=.free->∃c,env.cells.lookup y.1=some c):closureFor scope env=pure (iC env scope.names []):=by
 have key:∀(names:List (Str × NameKind)) (cs:List (Str × Addr)),(∀y∈names,y.2=.free->∃c,env.cells.lookup y.1=some c) ->
   (forIn names cs fun (x:Str × NameKind) (r:List (Str × Addr))=>(match x with
    | (name,kind)=>if (kind == NameKind.free)=true then (do let a <-cellOf env name;pure (ForInStep.yield ((name,a)::r)):Sem _) else pure (ForInStep.yield r)))=(pure (iC env names cs):Sem _):=by
  intro names
  induction names with
  | nil=>intro cs _;rfl
  | cons y r ih =>
   intro cs hy;obtain⟨x,k⟩:=y;rw[SS];by_cases hk:k=.free
   ·subst hk;obtain⟨c,e⟩:=hy _ QL rfl;have ec:cellOf env x=pure c:=by unfold cellOf;rw[e]
    simp only[beq_self_eq_true,if_true,ec];show (forIn r ((x,c)::cs) _:Sem _)=_;rw[ih _ fun y h=>hy y (QD _ h)];simp[iC,e]
   ·have hb:(k == NameKind.free)=false:=by simpa using hk
    simp only[hb,Bool.false_eq_true,if_false];show (forIn r cs _:Sem _)=_;rw[ih _ fun y h=>hy y (QD _ h)];simp[iC,hb]
 unfold closureFor;have:=key scope.names [] h;exact Q0 (fun z=>z >>= fun r=>pure r) this
theorem iT {env:Env}:∀ {names:List (Str × NameKind)}{cs:List (Str × Addr)}{x:Str}{c:Addr},(∀y∈names,y.2=.free->∃c,env.cells.lookup y.1=some c)->(∀x c,cs.lookup x=some c->env.cells.lookup x=some c) ->
  (iC env names cs).lookup x=some c->env.cells.lookup x=some c
 | [],cs,x,c,_,h,e=>h x c e
 | (y,k)::r,cs,x,c,hn,h,e=>by
  unfold iC at e;refine iT (fun z hz=>hn z (QD _ hz)) ?_ e;intro z d ez;by_cases hk:k=.free
  ·subst hk;obtain⟨c',ec⟩:=hn _ QL rfl;simp only[beq_self_eq_true,if_true,List.lookup_cons] at ez;by_cases q:z=y
   ·subst q;simp[ec] at ez;rw[ec,ez]
   ·have:(z == y)=false:=by simpa using q
    rw[this] at ez;exact h z d ez
  ·have hb:(k == NameKind.free)=false:=by simpa using hk
   rw[hb] at ez;exact h z d ez
theorem tW:∀ {names:List (Str × NameKind)}{cs:List (Str × Addr)}{x:Str},(∃c,cs.lookup x=some c)->∃c,(iC env names cs).lookup x=some c
 | [],cs,x,h=>h
 | (y,k)::r,cs,x,h=>by
  unfold iC;refine tW ?_;by_cases hk:k=.free
  ·subst hk;simp only[beq_self_eq_true,if_true,List.lookup_cons];by_cases q:x=y
   ·subst q;simp
   ·have:(x == y)=false:=by simpa using q
    rw[this];exact h
  ·have hb:(k == NameKind.free)=false:=by simpa using hk
   rw[hb];exact h
theorem nv:∀ {names:List (Str × NameKind)}{cs:List (Str × Addr)}{x:Str},(x,NameKind.free)∈names->∃c,(iC env names cs).lookup x=some c
 | [],cs,x,h=>nomatch h
 | (y,k)::r,cs,x,h=>by
  unfold iC;rcases QZ.mp h with e|h
  ·cases e;exact tW (by simp)
  ·exact nv h
def PTs (X:Cx)(xs:List Expr)(t:TT):Prop :=
 ∀(pins:List (Addr × Obj)) (s:Shared) (σ:L2.St) (H:Hp) (Q:Bool->Hp->Prop),L2.Inv X pins σ H s->t σ H Q ->
  wpAny (model X.prog X.w) X.A (forIn xs true fun c r=>if r=true then do let ok <-isTrue c X.env (eval c X.env);pure (ForInStep.yield ok) else pure (ForInStep.yield r)) (TP X pins σ Q) X.xe s
theorem oZ:∀xs:List Expr,(forIn xs false fun c r=>if r=true then do let ok <-isTrue c env (eval c env);pure (ForInStep.yield ok) else pure (ForInStep.yield r):Sem Bool)=pure false
 | []=>rfl
 | x::xs=>by rw[SS];simp only[Bool.false_eq_true,if_false];exact oZ xs
theorem BC:PTs X [] (fun σ H Q=>Q true H):=fun pins s σ H Q I h=>QE ⟨H,I,h⟩
theorem yu (h1:PT X x t)(h2:PTs X xs u):PTs X (x::xs) (OW t u):=by
 intro pins s σ H Q I h;rw[SS];simp only[if_true];refine P4 (P4 (thn (h1 pins s σ H _ I h) fun b s1 ⟨H1,I1,q1⟩=>?_));refine QE ?_;cases b with
 | true =>rw[QA rfl] at q1;exact h2 pins s1 σ H1 Q I1 q1
 | false =>rw[QC P5] at q1;show wpAny _ _ (forIn xs false _) _ _ _;rw[oZ];exact QE ⟨H1,I1,q1⟩
theorem vL {R:Result->Shared->Prop}{s:Shared}{acc:Value}(I:Nat->Shared->Prop)(turn:∀n s,I n s->wpAny (model prog w) A (pyNext it) (fun r s₁=>match r with
   | none=>R (.ok .next) s₁
   | some v=>wpAny (model prog w) A (letOwnedTupleGo target it v) (fun _ s0=>wpAny (model prog w) A (assign target env v) (fun _ s₂ =>
     wpAny (model prog w) A (forIn ifs true fun c r=>if r=true then do let ok <-isTrue c env (eval c env);pure (ForInStep.yield ok) else pure (ForInStep.yield r)) (fun ok s₃ =>
      if ok=true then wpAny (model prog w) A (eval elt env) (fun x s₄ =>
       wpAny (model prog w) A (call (.builtin "list.append") [acc,x]) (fun _ s₅=>∃m,m<n/\I m s₅) (fun _ _=>False) s₄) (fun _ _=>False) s₃
      else ∃m,m<n/\I m s₃) (fun _ _=>False) s₂) (fun _ _=>False) s0) (fun _ _=>False) s₁) (fun _ _=>False) s)(n:Nat)(h:I n s):codeAny (model prog w) A (.compLoop (.ListComp elt [⟨target,iter,ifs,0⟩] scope pos) 0 it acc env) R s:=by
 refine codeAny_loop rfl I (fun n s hI=>?_) n h;show wpAny _ A ((compTurn (.ListComp elt [⟨target,iter,ifs,0⟩] scope pos) 0 it acc env).onRaise (fun x=>do noteFrame x env;theTreesLotGoes x)) _ _ s;refine wpAny_noted ?_;rw[compTurn_list];refine P4 (wpAny_standAt (P4 (wpAny_mono (turn n s hI) (fun r s₁ h₁=>?_) fun _ _ h'=>h'.elim)));cases r with
 | none=>exact QE h₁
 | some v =>
  refine P4 (wpAny_mono h₁ (fun _ s0 h₁=>?_) fun _ _ h'=>h'.elim);refine P4 (wpAny_mono h₁ (fun _ s₂ h₂=>P4 (wpAny_mono h₂ (fun ok s₃ h₃=>?_) fun _ _ h'=>h'.elim)) fun _ _ h'=>h'.elim);cases ok with
  | false=>exact QE ⟨rfl,h₃⟩
  | true =>exact P4 (P4 (wpAny_mono h₃ (fun x s₄ h₄=>P4 (wpAny_mono h₄ (fun _ s₅ h₅=>QE (QE ⟨rfl,h₅⟩)) fun _ _ h'=>h'.elim)) fun _ _ h'=>h'.elim))
noncomputable def cxC (X:Cx)(N:List Str)(s2:Shared)(H2:Hp)(fp:List Addr)(scope:Scope)(C:Addr):Cx :=
 { X with N:=N,s₀:=s2,H₀:=H2,env:=compEnvC scope (iC X.env scope.names []) C X.env,outer:=X.stack,stack:=X.stack,ex:=fp,fn:=fun _=>false,pn:=[],xe:=fun _ _=>False }
structure CScope (X:Cx)(scope:Scope):Prop where
 kind:scope.kind=.function
 nocell:∀y∈scope.names,y.2≠.cell
 nms:∀y∈scope.names,y.2=.local->scope.names.lookup y.1=some .local
 free:∀y∈scope.names,y.2=.free->X.env.kindOf y.1=some .cell\/X.env.kindOf y.1=some .free
theorem o8 (h:(relabel scope env).names.lookup x=some k)(hk:k=.cell\/k=.free)(nc:∀y∈scope.names,y.2≠.cell):(x,NameKind.free)∈scope.names:=by
 have hm:=Q4 h;unfold relabel at hm;obtain⟨⟨n,k0⟩,hy,e⟩:=QQ.mp hm;simp only at e;split at e
 ·rename_i hc;cases e;simp only[Bool.and_eq_true,beq_iff_eq] at hc;have:k0=.free:=hc.1.1;subst this;exact hy
 ·cases e;rcases hk with rfl|rfl
  ·exact absurd rfl (nc _ hy)
  ·exact hy
theorem mi {env:Env}:∀ {names:List (Str × NameKind)}{x:Str},names.lookup x=some .globalImplicit ->
  (names.map fun (n,k)=>if (k == NameKind.free && env.scope.kind == .function && env.kindOf n == some .cell) then (n,NameKind.cell) else (n,k)).lookup x=some .globalImplicit
 | [],_,h=>by simp at h
 | (n,k)::r,x,h=>by
  have ih:=@mi env r x;show List.lookup x ((if (k == NameKind.free && env.scope.kind == .function && env.kindOf n == some .cell)=true then (n,NameKind.cell) else (n,k))::_)=_;cases hx:x == n with
  | true =>simp only[List.lookup_cons,hx] at h;cases h;simp[List.lookup_cons,hx]
  | false =>
   simp only[List.lookup_cons,hx] at h;by_cases hc:(k == NameKind.free && env.scope.kind == .function && env.kindOf n == some .cell)=true
   ·rw[QA hc];simp only[List.lookup_cons,hx];exact ih h
   ·rw[QC hc];simp only[List.lookup_cons,hx];exact ih h
theorem gh {env:Env}:∀ {names:List (Str × NameKind)}{x:Str},names.lookup x=some .free ->
  (names.map fun (n,k)=>if (k == NameKind.free && env.scope.kind == .function && env.kindOf n == some .cell) then (n,NameKind.cell) else (n,k)).lookup x=some .cell \/
  (names.map fun (n,k)=>if (k == NameKind.free && env.scope.kind == .function && env.kindOf n == some .cell) then (n,NameKind.cell) else (n,k)).lookup x=some .free
 | [],_,h=>by simp at h
 | (n,k)::r,x,h=>by
  have ih:=@gh env r x;show List.lookup x ((if (k == NameKind.free && env.scope.kind == .function && env.kindOf n == some .cell)=true then (n,NameKind.cell) else (n,k))::_)=_\/List.lookup x ((if (k == NameKind.free && env.scope.kind == .function && env.kindOf n == some .cell)=true then (n,NameKind.cell) else (n,k))::_)=_;cases hx:x == n with
  | true =>
   simp only[List.lookup_cons,hx] at h;cases h;by_cases hc:(NameKind.free == NameKind.free && env.scope.kind == .function && env.kindOf n == some .cell)=true
   ·rw[QA hc];simp[List.lookup_cons,hx]
   ·rw[QC hc];simp[List.lookup_cons,hx]
  | false =>
   simp only[List.lookup_cons,hx] at h;by_cases hc:(k == NameKind.free && env.scope.kind == .function && env.kindOf n == some .cell)=true
   ·rw[QA hc];simp only[List.lookup_cons,hx];exact ih h
   ·rw[QC hc];simp only[List.lookup_cons,hx];exact ih h
section
variable {X:Cx}{pins:List (Addr × Obj)}{σ:L2.St}{H2:Hp}{s2:Shared}{fp:List Addr}{scope:Scope}{C:Addr}{N:List Str}
theorem CScope.cells (S:CScope X scope)(I:L2.Inv X pins σ H2 s2):∀y∈scope.names,y.2=.free->∃c,X.env.cells.lookup y.1=some c:=fun y hy hf=>I.ok.has y.1 (S.free y hy hf)
theorem Lb (S:CScope X scope)(I:L2.Inv X pins σ H2 s2)(f2:∀b∈fp,jX X pins H2 b)(fl:∀b∈fp,b<s2.heap.objs.size)(hC:s2.heap.objs.size<=C):(cxC X N s2 H2 fp scope C).Ok where
 mod:=I.ok.mod
 kind:=S.kind
 glob:=I.ok.glob
 blt:=I.ok.blt
 above:=hC
 inj:=fun x y c h1 h2=>I.ok.inj x y c (iT (S.cells I) (fun _ _ z=>by simp at z) h1) (iT (S.cells I) (fun _ _ z=>by simp at z) h2)
 has:=fun x hx=>by
  refine nv (x:=x) ?_;rcases hx with h|h
  ·exact o8 h (.inl rfl) S.nocell
  ·exact o8 h (.inr rfl) S.nocell
 cab:=fun x c h=>by cases h
 hd:=I.ok.hd
 frames:=I.ok.frames
 stk:=.inl rfl
 exf:=fun b hb=>⟨QU (P7 (fl b hb) hC),fun x c h=>(f2 b hb).2.2.2.2.1 x c (iT (S.cells I) (fun _ _ z=>by simp at z) h)⟩
 bs:=I.bs
 bsz:=QP I.ok.bsz I.sz
 noex:=fun b o e hb=>by
  rcases (f2 b hb).2.2.2.1 with z|z
  ·exact I.ok.noex b o e z
  ·have:=QF e;exact absurd (P7 (P7 this I.ok.bsz) z) (RX _)
 exfs:=fun b hb hf=>by
  rcases QZ.mp (I.stkSub b hf) with z|z
  ·exact(f2 b hb).2.1 z
  ·exact(f2 b hb).2.2.1 z
 funs:=I.stack
 frf:=I.stkFree
theorem yw {tk:Nat}{nt:List Str}{cn:List Str}{caps:List Nat}(S:CScope X scope)(I:L2.Inv X pins σ H2 s2)(f2:∀b∈fp,jX X pins H2 b)(fl:∀b∈fp,b<s2.heap.objs.size)(hC:s2.heap.objs.size<=C)(un:Un (frs X.stack) fp H2 H3 s2.heap h1)(hok:HOk X.prog X.w H3 h1)(ns:h1.Ns C (fun _=>none))(hn:H3 C=none)(keep:∀b o,s2.heap.get? b=some o->h1.get? b=some o)(free:∀b o,s2.heap.get? b=some o->H2 b=none->H3 b=none)(hcn:cn=caps.filterMap (X.N[·]?))(hcl:∀i∈caps,i<X.N.length)(hcf:∀x∈cn,scope.names.lookup x=some .free)(hce:∀x∈cn,X.env.kindOf x=some .cell\/X.env.kindOf x=some .free) :
  L2.Inv (cxC X (nt++cn) s2 H2 fp scope C) [] (nt.map (fun _=>none)++caps.map fun i=>(σ[i]?).join) H3 { s2 with heap:=h1,toks:=tk }:=by
 have cel:∀x c,(iC X.env scope.names []).lookup x=some c->X.env.cells.lookup x=some c:=fun x c h=>iT (S.cells I) (fun _ _ z=>by simp at z) h;have lenc:cn.length=caps.length:=by
  rw[hcn];clear hcf hce hcn
  induction caps with
  | nil=>rfl
  | cons i r ih =>have:X.N[i]?=some (X.N[i]'(hcl i QL)):=P9 (hcl i QL);rw[Q1,this];simp only[List.length_cons];rw[ih fun j hj=>hcl j (QD _ hj)]
 have getc:∀(j i:Nat),caps[j]?=some i->∃x,cn[j]?=some x/\X.N[i]?=some x:=by
  rw[hcn];clear hcf hce hcn lenc
  induction caps with
  | nil=>intro j i h;simp at h
  | cons k r ih =>
   intro j i h;have hk:X.N[k]?=some (X.N[k]'(hcl k QL)):=P9 (hcl k QL);rw[Q1,hk];cases j with
   | zero=>simp at h;subst h;exact⟨_,rfl,hk⟩
   | succ j=>exact ih (fun j hj=>hcl j (QD _ hj)) j i (by simpa using h)
 refine⟨Lb S I f2 fl hC,rfl,I.bare,un,⟨_,ns,fun i x v e1 e2 e3=>?_⟩,fun x c e=>?_,hn,fun x c e=>?_,fun p hp=>absurd (show p∈([]:List (Addr × Obj)) from hp) (by simp),hok,?_⟩
 ·by_cases hi:i<nt.length
  ·rw[QT (by simpa using hi),QK] at e2;cases q:nt[i]? with
   | none=>rw[q] at e2;cases e2
   | some z=>rw[q] at e2;cases e2
  ·rw[QV (by simpa using hi),QO,QK] at e2;have e1':(nt++cn)[i]?=some x:=e1;rw[QV (by omega)] at e1';cases q:caps[i-nt.length]? with
   | none=>rw[q] at e2;cases e2
   | some j =>
    rw[q] at e2;have e2':(σ[j]?).join=some v:=Q2 e2;obtain⟨y,g1,g2⟩:=getc _ _ q;rw[e1'] at g1;cases g1;have e4:σ[j]?=some (some v):=by
     cases z:σ[j]? with
     | none=>rw[z] at e2';cases e2'
     | some w=>rw[z] at e2';rw[show w=some v from e2']
    obtain⟨m,hm,hl⟩:=I.loc;have kx:=hce x (P_ e1');obtain⟨u,ru,lk⟩:=hl j x v g2 e4 (.inr (by rcases kx with k|k;exact .inl k;exact .inr k));refine⟨u,ru,.inr ⟨gh (hcf x (P_ e1')),?_⟩⟩;rcases lk with⟨k,_⟩|⟨_,c,ec,hc⟩
    ·rcases kx with k' | k' <;> rw[k] at k' <;> cases k'
    ·obtain⟨c',ec'⟩:=nv (env:=X.env) (names:=scope.names) (cs:=[]) (x:=x) (Q4 (hcf x (P_ e1')));have:=cel x c' ec';rw[ec] at this;cases this;obtain⟨o,ho,hd⟩:=hc;exact⟨c,ec',o,keep _ _ ho,hd⟩
 ·obtain⟨v,o,ho,hd⟩:=I.cell x c (cel x c e);exact⟨v,o,keep _ _ ho,hd⟩
 ·obtain⟨v,o,ho,hd⟩:=I.cell x c (cel x c e);exact free c o ho (I.freeC x c (cel x c e))
 ·show (nt.map (fun _=>(none:Option V))++caps.map fun i=>(σ[i]?).join).length=(nt++cn).length;simp[lenc]
end
end FW
namespace FW
open L2 HX
section
variable {Γ:Nat->FSp}
mutual
theorem uE (G:aW Γ):∀(t:Tg) {v:PV}{ρ:Fr}{st:AH}{Q:Fr->AH->Prop},t.low n=true->eN Γ t v ρ st Q->eN Γ t v ρ st fun ρ' st'=>Q ρ' st'/\∀i,n<=i->ρ'[i]?=ρ[i]?
 | .name i,v,ρ,st,Q,h,q=>by
  skip
  rw[Tg.low] at h;have:=RB h;exact⟨q,fun j hj=>Q7 (by omega)⟩
 | .tup ts,v,ρ,st,Q,h,q=>by
  skip
  rw[Tg.low] at h;obtain⟨xs,e,hl,q⟩:=q;exact⟨xs,e,hl,rG G ts h q⟩
 | .ltup ts,v,ρ,st,Q,h,q=>False.elim q
 | .sub _ _,v,ρ,st,Q,h,q=>by rw[Tg.low] at h;cases h
theorem rG (G:aW Γ):∀(t:Tgs) {v:List PV}{ρ:Fr}{st:AH}{Q:Fr->AH->Prop},t.low n=true->jT Γ t v ρ st Q->jT Γ t v ρ st fun ρ' st'=>Q ρ' st'/\∀i,n<=i->ρ'[i]?=ρ[i]?
 | .nil,v,ρ,st,Q,h,q=>by exact⟨q.1,q.2,fun _ _=>rfl⟩
 | .cons t ts,v,ρ,st,Q,h,q=>by
  skip
  rw[Tgs.low,QB] at h;obtain⟨x,r,e,q⟩:=q;refine⟨x,r,e,bu G t (fun ρ1 st1 k=>?_) (uE G t h.1 q)⟩;refine i8 G ts (fun ρ2 st2 k2=>⟨k2.1,fun i hi=>(k2.2 i hi).trans (k.2 i hi)⟩) (rG G ts h.2 k.1)
end
end
mutual
theorem R.mono0 (ht:∀a ys,SqT K H a ys->SqT K H' a ys)(hr:∀a ys,RdF K H a ys->RdF K H' a ys):∀ {p:PV}{v:V},R K m H p v->R K m H' p v
 | .non,v,h=>by rw[R_non] at h |-;exact h
 | .bl b,v,h=>by rw[R_bl] at h |-;exact h
 | .int b,v,h=>by rw[R_int] at h |-;exact h
 | .str b,v,h=>by rw[R_str] at h |-;exact h
 | .ref n,v,h=>by rw[jR] at h |-;exact h
 | .tup xs,v,h=>by rw[R_tup] at h |-;obtain⟨a,ys,e,q,r⟩:=h;exact⟨a,ys,e,ht _ _ q,Rs.mono0 ht hr r⟩
 | .rdl xs,v,h=>by rw[gX] at h |-;obtain⟨a,ys,e,q,r⟩:=h;exact⟨a,ys,e,hr _ _ q,Rs.mono0 ht hr r⟩
 | .fn a,v,h=>by rw[R_fn] at h |-;exact h
theorem Rs.mono0 (ht:∀a ys,SqT K H a ys->SqT K H' a ys)(hr:∀a ys,RdF K H a ys->RdF K H' a ys):∀ {ps:List PV}{vs:List V},Rs K m H ps vs->Rs K m H' ps vs
 | [],vs,h=>by rw[Rs_nil] at h |-;exact h
 | p::ps,vs,h=>by
  rw[bh] at h |-
  obtain⟨y,r,e,h1,h2⟩:=h;exact⟨y,r,e,R.mono0 ht hr h1,Rs.mono0 ht hr h2⟩
end
theorem iZ {H:Hp}{D:Addr}(hD:H D=some (.lst ys)):∀a us,SqT K H a us->SqT K (upd H D (.lst zs)) a us:=fun a us q=>by
 rcases q with (q|⟨w,q⟩)|q
 ·exact .inl (.inl (by rw[ak (fun z=>by subst z;rw[hD] at q;cases q)];exact q))
 ·exact .inl (.inr ⟨w,by rw[ak (fun z=>by subst z;rw[hD] at q;cases q)];exact q⟩)
 ·exact .inr q
theorem iX {H:Hp}{D:Addr}(hD:H D=some (.lst ys)):∀a us,RdF K H a us->RdF K (upd H D (.lst zs)) a us:=fun a us q=>by
 rcases q with⟨w,q⟩|q
 ·exact .inl ⟨w,by rw[ak (fun z=>by subst z;rw[hD] at q;cases q)];exact q⟩
 ·exact .inr q
theorem TB.away {D:Addr}(t:TB K H)(hD:H D=some (.lst ys)):TB K (upd H D (.lst zs)) :=
 t.keep (fun a ps q=>by rw[ak (fun z=>by subst z;rw[hD] at q;cases q)];exact q) fun a o q=>by rw[ak (fun z=>by subst z;rw[hD] at q;cases q)];exact q
theorem Ext.away {D:Addr}(x:Ext K m H m' H')(h0:H D=none)(hD:H' D=some (.lst ys)):Ext K m H m' (upd H' D (.lst zs)) :=
 ⟨x.pre,x.new,fun a o ha e n=>by rw[ak (aI e h0)];exact x.fr a o ha e n,fun a us q=>iZ hD a us (x.tup a us q),fun a us q=>iX hD a us (x.rdf a us q),fun a ps ha e=>let ⟨p1,e1⟩:=x.tbs a ps ha e;⟨p1,by rw[ak (aI e h0)];exact e1⟩,fun t=>(x.tb t).away hD,fun a o u e=>by rw[ak (aI e h0)];exact x.frz a o u e⟩
theorem RH.away {D:Addr}(h:RH K m H st)(hm:D ∉ m)(hD:H D=some (.lst ys)):RH K m (upd H D (.lst zs)) st:=by
 refine⟨h.len,h.nd,fun n c a h1 h2=>?_,h.tb.away hD⟩;have ha:a≠D:=fun z=>hm (z ▸ P_ h2);have hc:=h.at_ n c a h1 h2;cases c with
 | lst xs=>obtain⟨us,g1,g2⟩:=hc;exact⟨us,by rw[ak ha];exact g1,g2.mono0 (iZ hD) (iX hD)⟩
 | dk kvs=>obtain⟨us,g1,g2,g3⟩:=hc;exact⟨us,by rw[ak ha];exact g1,g2,g3.mono0 (iZ hD) (iX hD)⟩
 | fz kvs=>obtain⟨o,us,g1,g2,g3⟩:=hc;exact⟨o,us,by rw[ak ha];exact g1,g2,g3.mono0 (iZ hD) (iX hD)⟩
theorem RF.away {D:Addr}(h:RF K m H ρ σ)(hD:H D=some (.lst ys)):RF K m (upd H D (.lst zs)) ρ σ :=
 ⟨h.len,fun i v e=>let ⟨y,e1,r⟩:=h.at_ i v e;⟨y,e1,r.mono0 (iZ hD) (iX hD)⟩⟩
theorem RF.less {ρ:Fr}{n:Nat}(h:RF K m H ρ' σ)(hl:ρ.length=ρ'.length)(hn:∀i v,ρ[i]?=some (some v)->n<=i)(hp:∀i,n<=i->ρ'[i]?=ρ[i]?):RF K m H ρ σ :=
 ⟨hl.trans h.len,fun i v e=>h.at_ i v (by rw[hp i (hn i v e)];exact e)⟩
theorem t7 {nt:List Str}{f:Nat->Option PV}{caps:List Nat}:∀(i:Nat) (v:PV),(nt.map (fun _=>(none:Option PV))++caps.map f)[i]?=some (some v)->nt.length<=i:=fun i v e=>by
 by_cases hi:i<nt.length
 ·rw[QT (by simpa using hi),QK] at e;cases q:nt[i]? with
  | none=>rw[q] at e;cases e
  | some z=>rw[q] at e;cases e
 ·omega
theorem Hl {nt:List Str}{caps:List Nat}(h:RF K m H ρ σ) :
  RF K m H (nt.map (fun _=>none)++caps.map fun i=>(ρ[i]?).join) (nt.map (fun _=>none)++caps.map fun i=>(σ[i]?).join):=by
 refine⟨by simp,fun i v e=>?_⟩;have hi:=t7 i v e;rw[QV (by simpa using hi),QO,QK] at e;rw[QV (by simpa using hi),QO,QK];cases q:caps[i-nt.length]? with
 | none=>rw[q] at e;cases e
 | some j =>
  rw[q] at e;have e':(ρ[j]?).join=some v:=Q2 e;have e4:ρ[j]?=some (some v):=by
   cases z:ρ[j]? with
   | none=>rw[z] at e';cases e'
   | some w=>rw[z] at e';rw[show w=some v from e']
  obtain⟨y,e5,r⟩:=h.at_ j v e4;exact⟨y,by show some ((σ[j]?).join)=_;rw[e5];rfl,r⟩
section
variable {X:Cx}{Γ:Nat->FSp}{pins:List (Addr × Obj)}{σ:L2.St}{H:Hp}{s:Shared}
noncomputable def cf (K:W.Frag)(m1:List Addr)(H1:Hp)(Fin:Addr->Hp->Prop):LK:=fun vs st2=>∀m2 H2 D ys,Ext K m1 H1 m2 H2->RH K m2 H2 st2->D ∉ m2->H1 D=none->H2 D=some (.lst ys)->Rs K m2 H2 vs ys->Fin D H2
noncomputable def hV (Γ:Nat->FSp)(elt:E)(tg:Tg)(ifs:Es)(ρ:Fr):PV->AH->(Option PV->AH->Prop)->Prop:=fun x st2 k=>eN Γ tg x ρ st2 fun ρ' st3=>jU Γ ifs ρ' st3 fun c st4=>if c=true then wpE Γ elt ρ' st4 fun v st5=>k (some v) st5 else k none st4
theorem tZ (G:aW Γ)(hcalm:X.calm=true){tg:Tg}{nt:List Str}{caps:List Nat}{cn:List Str}{Fin:Addr->Hp->Prop}(S:CScope X scope)(hcn:cn=caps.filterMap (X.N[·]?))(hcl:∀i∈caps,i<X.N.length)(hcf:∀x∈cn,scope.names.lookup x=some .free)(hce:∀x∈cn,X.env.kindOf x=some .cell\/X.env.kindOf x=some .free)(hset:gQ iterx=true)(hlow:tg.low nt.length=true)(hI:PI X tgx iterx wi)(hG:∀s2 H2 fp C,PG (cxC X (nt++cn) s2 H2 fp scope C) tgx (TGx X.K (eN Γ tg)))(hT:∀s2 H2 fp C,PTs (cxC X (nt++cn) s2 H2 fp scope C) ifsx (TTx X.K (jU Γ ifs)))(hE:∀s2 H2 fp C,PE (cxC X (nt++cn) s2 H2 fp scope C) eltx (TEx X.K (wpE Γ elt)))(I:L2.Inv X pins σ H s)(h:wi σ H fun J H1=>∃m ρ st1 xs chk,RF X.K m H1 ρ σ/\RH X.K m H1 st1/\qK X.K J xs chk m H1/\xs.length<100000/\gL chk (hV Γ elt tg ifs (nt.map (fun _=>none)++caps.map fun i=>(ρ[i]?).join)) xs [] st1 (cf X.K m H1 Fin))(fin:∀C D H' s' m',L2.Inv X pins σ H' s'->s'.heap.Ns C m'->jX X pins H' C->Fin D H'->compPost (model X.prog X.w) X.A X.xe use Qf (.ref D) C (.ok .next) s') :
  wpAny (model X.prog X.w) X.A (comprehension (.ListComp eltx [⟨tgx,iterx,ifsx,0⟩] scope pos) scope X.env p0 (newList []) false (eval iterx X.env) use) Qf X.xe s:=by
 refine wpAny_comprehension_free (use:=use) rfl (qh hset) (lG (S.cells I)) S.kind S.nms ?_;refine thn (hI pins s σ H _ I h) fun v s1 h1=>thn h1 fun itv s2 h2=>?_;obtain⟨it,fp,tn,J,H2,e,I2,T,st2,f2,m,ρ,st1,xs,chk,rf,rh,W,hxs,w⟩:=h2;subst e;have fl:∀b∈fp,b<s2.heap.objs.size:=fun b hb=>by obtain⟨o,e,_⟩:=T.obj 0 _ st2 b hb;exact QF e
 refine wpAny_newObj_type (wpAny_newFunctionEnv S.nocell (by intro y hy;simp at hy) (fun h₁ hns₁ hsb₁=>?_) S.kind);dsimp only at hns₁ hsb₁ |-
 generalize hD:s2.heap.objs.size=D at *;generalize hH3:s2.heap.push { cls:=.type "list",dict:=none,data:=.seq ([]:List Value).toArray }=P3 at hns₁ hsb₁ |-
 generalize hCC:P3.objs.size=C at *;have hC1:C=D+1:=by rw[<-hCC,<-hH3,SK,hD]
 have ltDC:D<C:=by rw[hC1];exact S1 D
 have neC:∀b,b<D->b≠C:=fun b hb=>QU (RQ hb ltDC);have hDn:H2 D=none:=by rw[<-hD];exact I2.hok.fresh (P6 _)
 have hCn:H2 C=none:=I2.hok.fresh (by rw[hD];exact Q_ ltDC);have old3:∀b o,s2.heap.get? b=some o->P3.get? b=some o:=fun b o e=>hH3 ▸ P2 _ e;have old:∀b o,s2.heap.get? b=some o->h₁.get? b=some o:=fun b o e=>hsb₁.extBut b o (neC b (hD ▸ QF e)) (P2 _ (old3 b o e));have newD:h₁.get? D=some { cls:=.type "list",data:=.seq #[] }:=hsb₁.extBut _ _ (QU ltDC) (P2 _ (by rw [<-hH3,<-hD];exact QG _ rfl));have un:Un (frs X.stack) fp H2 (upd H2 D (.lst [])) s2.heap h₁:=Un.laid old (by rw[hD];exact P6 _) hDn;have hok:HOk X.prog X.w (upd H2 D (.lst [])) h₁:=I2.hok.laid old (by rw[hD];exact P6 _) ⟨Q8 _,[],0,.nil,newD⟩;have I4:=yw (nt:=nt) (tk:=s2.toks+([]:List (Str × Value)).length) S I2 f2 (by rw[hD];exact fl) (C:=C) (by rw[hD];exact Q_ ltDC) un hok (by simpa using hns₁) (by rw[ak (TN ltDC)];exact hCn) old
  (fun b o e n=>by rw[ak (QU (hD ▸ QF e))];exact n) hcn hcl hcf hce
 generalize hρ0:(nt.map (fun _=>none)++caps.map fun i=>(ρ[i]?).join:Fr)=ρ0 at w;have hρn:∀i v,ρ0[i]?=some (some v)->nt.length<=i:=by rw[<-hρ0];exact t7
 have rf0:RF X.K m H2 ρ0 (nt.map (fun _=>none)++caps.map fun i=>(σ[i]?).join):=by rw[<-hρ0];exact Hl rf
 generalize (nt.map (fun _=>none)++caps.map fun i=>(σ[i]?).join:L2.St)=σ0 at I4 rf0;have loop:codeAny (model X.prog X.w) X.A (.compLoop (.ListComp eltx [⟨tgx,iterx,ifsx,0⟩] scope pos) 0 (.ref it) (.ref D) (compEnvC scope (iC X.env scope.names []) C X.env)) (compPost (model X.prog X.w) X.A X.xe use Qf (.ref D) C)
   { s2 with heap:=h₁,toks:=s2.toks+([]:List (Str × Value)).length }:=by
  refine vL (fun n s'=>∃(i:Nat),∃σ' H' m' st' acc ys,n+i=xs.length/\L2.Inv (cxC X (nt++cn) s2 H2 fp scope C) [] σ' H' s'/\tn i s'.heap/\(∀b∈fp,H' b=none)/\Ext X.K m H2 m' H'/\RH X.K m' H' st'/\RF X.K m' H' ρ0 σ'/\D ∉ m'/\H' D=some (.lst ys)/\Rs X.K m' H' acc ys/\ys.length<=i /\
   gL chk (hV Γ elt tg ifs ρ0) (xs.drop i) acc st' (cf X.K m H2 Fin)) ?_ xs.length
   ⟨0,σ0,_,m,st1,[],[],rfl,I4,T.keep 0 _ _ st2 (fun b _ o e=>old b o e),fun b hb=>by rw[ak (QU (fl b hb))];exact(f2 b hb).1,Ext.newT rh hDn,rh.newT hDn,rf0.mono (Ext.newT rh hDn),rh.fresh hDn,bY,Rs_nil.mpr rfl,P6 _,by simpa using w⟩
  rintro n s' ⟨i,σ',H',m',st',acc,ys,hn,I',tni,fpn,x',rh',rf',Dm,hDl,rys,hly,k⟩;have stat:∀ {H'':Hp},(∀b∈fp,H'' b=none)->∀b∈fp,jX (cxC X (nt++cn) s2 H2 fp scope C) [] H'' b:=fun hz b hb=>⟨hz b hb,(I'.ok.exf b hb).1,I'.ok.exfs b hb,.inl hb,(I'.ok.exf b hb).2,fun p hp=>absurd (show p∈([]:List (Addr × Obj)) from hp) (by simp)⟩;cases q:xs.drop i with
  | nil =>
   rw[q] at k;have hi:i=xs.length:=by have:=Q0 List.length q;simp at this;omega
   subst hi;refine thn (T.done (cxC X (nt++cn) s2 H2 fp scope C) rfl rfl rfl hcalm _ [] s' σ' H' (fun _ _=>False) I' (stat fpn) tni (W.stop m' H' st' x' rh' k.1)) fun r s1 ⟨hr,I1⟩=>?_;subst hr;have IX:L2.Inv X pins σ H' s1:=I2.call' I1.os I1.base I1.hok I1.bare fun b hb=>⟨(f2 b hb).2.2.2.1,(f2 b hb).2.1,(f2 b hb).2.2.2.2.1,(f2 b hb).2.2.2.2.2⟩;obtain⟨mm,hns,_⟩:=I1.loc;exact fin C D H' s1 mm IX hns (I2.fpOk (by rw[hD];exact Q_ ltDC) I1.free) (k.2 m' H' D ys x' rh' Dm hDn hDl rys)
  | cons v rest =>
   rw[q] at k;have hi:i<xs.length:=by have:=Q0 List.length q;simp at this;omega
   have ev:xs[i]?=some v:=by have:=Q0 List.head? q;rw[UY] at this;exact this
   have er:rest=xs.drop (i+1):=by have:=Q0 List.tail q;rw[U2] at this;exact this.symm
   subst er;obtain⟨kc,k⟩:=k;obtain⟨go,yl⟩:=W.item i v m' H' st' x' rh' kc ev;refine thn (T.item (cxC X (nt++cn) s2 H2 fp scope C) rfl rfl rfl hcalm i [] s' σ' H' (fun _ _=>False) I' (stat fpn) tni go) fun r s4 ⟨u,hr,h4⟩=>?_;subst hr;refine thn h4 fun _ s5 ⟨x,H5,I5,r5,y5,tn5,fr5⟩=>?_;obtain⟨x5,rh5,rv5⟩:=yl x H5 y5;have I5':=I5.pinned (stat fr5) (T.obj _ _ tn5);have again:∀ {σ7:L2.St}{H7:Hp}{s7:Shared}{m7:List Addr}{st7:AH}{acc7:List PV}{ys7:List V},L2.Inv (cxC X (nt++cn) s2 H2 fp scope C) ([]++n6 fp s5.heap) σ7 H7 s7->Ext X.K m H2 m7 H7->RH X.K m7 H7 st7->RF X.K m7 H7 ρ0 σ7->D ∉ m7->H7 D=some (.lst ys7) ->
     Rs X.K m7 H7 acc7 ys7->ys7.length<=i+1->gL chk (hV Γ elt tg ifs ρ0) (xs.drop (i+1)) acc7 st7 (cf X.K m H2 Fin) ->
     ∃n',n'<n/\∃(i:Nat),∃σ' H' m' st' acc ys,n'+i=xs.length/\L2.Inv (cxC X (nt++cn) s2 H2 fp scope C) [] σ' H' s7/\tn i s7.heap/\(∀b∈fp,H' b=none)/\Ext X.K m H2 m' H'/\RH X.K m' H' st'/\RF X.K m' H' ρ0 σ'/\D ∉ m'/\H' D=some (.lst ys)/\Rs X.K m' H' acc ys/\ys.length<=i /\
      gL chk (hV Γ elt tg ifs ρ0) (xs.drop i) acc st' (cf X.K m H2 Fin):=fun {σ7 H7 s7 m7 st7 acc7 ys7} I7 g1 g2 g3 g4 g5 g6 g7 g8=>by
    refine⟨n-1,by omega,i+1,σ7,H7,m7,st7,acc7,ys7,by omega,I7.unpinned,T.keep _ _ _ tn5 fun b hb o e=>(I7.pin (b,o) (QX _ (QX _ (eY hb e)))).1,fun b hb=>?_,g1,g2,g3,g4,g5,g6,g7,g8⟩;obtain⟨o,e,d⟩:=T.obj _ _ tn5 b hb;exact(I7.pin (b,o) (QX _ (QX _ (eY hb e)))).2.1
   have k2:=uE (n:=nt.length) G tg hlow k;refine thn (hG s2 H2 fp C _ s5 σ' H5 x u (fun σ6 H6=>∃m6 ρ1 st6,Ext X.K m' H5 m6 H6/\RH X.K m6 H6 st6/\RF X.K m6 H6 ρ1 σ6/\(∀j,nt.length<=j->ρ1[j]?=ρ0[j]?) /\
    jU Γ ifs ρ1 st6 fun c st4=>if c=true then wpE Γ elt ρ1 st4 fun vv st5=>gL chk (hV Γ elt tg ifs ρ0) (xs.drop (i+1)) (acc++[vv]) st5 (cf X.K m H2 Fin) else gL chk (hV Γ elt tg ifs ρ0) (xs.drop (i+1)) acc st4 (cf X.K m H2 Fin)) I5' r5
    ⟨m',ρ0,st',v,rf'.mono x5,rh5,rv5,bu G tg (fun ρ1 st6 z m6 H6 σ6 x6 rh6 rf6=>⟨m6,ρ1,st6,x6,rh6,rf6,z.2,cU G ifs (fun c st4 zz=>by
     cases c with
     | true=>rw[QA rfl] at zz |-;exact zz
     | false=>rw[QC P5] at zz |-;simpa using zz) z.1⟩) k2⟩) fun _ s6 ⟨σ6,H6,I6,m6,ρ1,st6,x6,rh6,rf6,pr,w6⟩=>?_
   have hlen:ρ0.length=ρ1.length:=by rw[rf6.len,I6.len,rf'.len,I'.len]
   refine thn (hT s2 H2 fp C _ s6 σ6 H6 (fun b H7=>∃m7 st7,Ext X.K m6 H6 m7 H7/\RH X.K m7 H7 st7/\if b=true then wpE Γ elt ρ1 st7 fun vv st5=>gL chk (hV Γ elt tg ifs ρ0) (xs.drop (i+1)) (acc++[vv]) st5 (cf X.K m H2 Fin) else gL chk (hV Γ elt tg ifs ρ0) (xs.drop (i+1)) acc st7 (cf X.K m H2 Fin)) I6
    ⟨m6,ρ1,st6,rf6,rh6,cU G ifs (fun b st7 z m7 H7 x7 rh7=>⟨m7,st7,x7,rh7,z⟩) w6⟩) fun b s7 ⟨H7,I7,m7,st7,x7,rh7,w7⟩=>?_
   have xx7:Ext X.K m' H' m7 H7:=(x5.trans x6).trans x7;cases b with
   | false =>
    rw[QC P5] at w7 |-
    refine again I7 (x'.trans xx7) rh7 ((rf6.mono x7).less hlen hρn pr) (fun z=>?_) (xx7.fr D _ Dm hDl fun _ z=>nomatch z) (rys.mono xx7) (by omega) w7;rcases xx7.new D z with z|z
    ·exact Dm z
    ·rw[hDl] at z;cases z
   | true =>
    rw[QA rfl] at w7 |-
    refine thn (hE s2 H2 fp C _ s7 σ6 H7 (fun y H8=>∃m8 st8 vv,Ext X.K m7 H7 m8 H8/\RH X.K m8 H8 st8/\R X.K m8 H8 vv y/\gL chk (hV Γ elt tg ifs ρ0) (xs.drop (i+1)) (acc++[vv]) st8 (cf X.K m H2 Fin)) I7
     ⟨m7,ρ1,st7,rf6.mono x7,rh7,ae G elt (fun vv st8 z m8 H8 y x8 rh8 r8=>⟨m8,st8,vv,x8,rh8,r8,z⟩) w7⟩) fun uy s8 ⟨y,H8,I8,ry,m8,st8,vv,x8,rh8,r8,w8⟩=>?_
    have xx8:Ext X.K m' H' m8 H8:=xx7.trans x8;have hD8:H8 D=some (.lst ys):=xx8.fr D _ Dm hDl fun _ z=>nomatch z;have Dm8:D ∉ m8:=fun z=>by
     rcases xx8.new D z with z|z
     ·exact Dm z
     ·rw[hDl] at z;cases z
    refine thn (n_ (X:=cxC X (nt++cn) s2 H2 fp scope C) _ s8 σ6 H8 (.ref D) [y] (.ref D) [uy] (fun _ H9=>H9=upd H8 D (.lst (ys++[y]))) I8 rfl (.cons ry .nil) ⟨D,ys,y,rfl,rfl,hD8,vj (by omega),rfl⟩) fun _ s9 ⟨_,H9,I9,_,e9⟩=>?_;subst e9;exact again I9 ((x'.trans xx8).away hDn hD8) (rh8.away Dm8 hD8) ((((rf6.mono x7).mono x8).less hlen hρn pr).away hD8) Dm8 bY (((rys.mono xx8).app (.one r8)).mono0 (iZ hD8) (iX hD8)) (by simp;omega) w8
 exact codeAny_compStart_list loop (T.self X.A 0 _ _ _ (T.keep 0 _ _ st2 fun b _ o e=>old b o e) loop)
end
end FW
namespace FW
open L2 HX
mutual
theorem R.pre {m:List Addr}(hp:m <+: m'):∀ {p:PV}{v:V},R K m H p v->R K m' H p v
 | .non,v,h=>by rw[R_non] at h |-;exact h
 | .bl b,v,h=>by rw[R_bl] at h |-;exact h
 | .int b,v,h=>by rw[R_int] at h |-;exact h
 | .str b,v,h=>by rw[R_str] at h |-;exact h
 | .fn b,v,h=>by rw[R_fn] at h |-;exact h
 | .ref n,v,h=>by rw[jR] at h |-;obtain⟨a,e,q⟩:=h;exact⟨a,l9 hp e,q⟩
 | .tup xs,v,h=>by rw[R_tup] at h |-;obtain⟨a,ys,e,q,r⟩:=h;exact⟨a,ys,e,q,Rs.pre hp r⟩
 | .rdl xs,v,h=>by rw[gX] at h |-;obtain⟨a,ys,e,q,r⟩:=h;exact⟨a,ys,e,q,Rs.pre hp r⟩
theorem Rs.pre {m:List Addr}(hp:m <+: m'):∀ {ps:List PV}{vs:List V},Rs K m H ps vs->Rs K m' H ps vs
 | [],vs,h=>by rw[Rs_nil] at h |-;exact h
 | p::ps,vs,h=>by
  rw[bh] at h |-
  obtain⟨y,r,e,h1,h2⟩:=h;exact⟨y,r,e,R.pre hp h1,Rs.pre hp h2⟩
end
theorem CV (h:Do x f=true):∃a:Arg,x=⟨[],[a],none,[],[],none,[]⟩/\f a.arg=true:=by obtain⟨p,as,va,ko,kd,kw,ds⟩:=x;unfold Do at h;simp only[Bool.and_eq_true,List.isEmpty_iff,Option.isNone_iff_eq_none] at h;obtain⟨⟨⟨⟨⟨⟨rfl,rfl⟩,rfl⟩,rfl⟩,rfl⟩,rfl⟩,h⟩:=h;obtain⟨a,rfl,h⟩:=bj h;exact⟨a,rfl,h⟩
theorem F1 {a:Arg}(pm:Value)(c':Addr)(ctv:Value)(u:Value) :
  bindArgs (W.kla_fn "<lambda>" qual ⟨[],[a],none,[],[],none,[]⟩ body scope cl pm (.ref c') ctv) ⟨[u],[]⟩=pure [(a.arg,u)]:=by
 unfold bindArgs;simp[seqItems?,List.lookup];rfl
section
variable {Γ:Nat->FSp}{X:Cx}{c:Cfg}
theorem xu (C:COk X c Γ)(hpc:c.pc=true){i:Nat}(hN:c.N[i]?=some y)(hv:c.vis y=true)(hs:aj l=true)(he:PE X l (TEx X.K (wpE Γ e))) :
  PE X (.Call (.Name y p) [l] [] pos) (TEx X.K (wpE Γ (.pcall i e))):=by
 rintro pins s σ H Q I ⟨m,ρ,st,rf,rh,a,ea,w⟩;obtain⟨x,ex,rx⟩:=rf.at_ i _ ea;rw[R_fn] at rx;subst rx;obtain⟨v1,v2,v3⟩:=C.visx hv;have hvar:=yP (X:=X) (i:=i) (x:=y) (pos:=p) (by rw[C.N];exact hN) v1 v2 v3 pins s σ H (fun v H'=>v=V.ref a/\H'=H) I ⟨_,ex,rfl,rfl⟩;refine wpAny_Call_Name_kw (thn hvar ?_);rintro u s1 ⟨v,H1,I1,rv,rfl,rfl⟩;obtain rfl:u=.ref a:=rv;have st1:starEach [l] X.env=[(false,eval l X.env)]:=av hs;show wpAny _ _ (callWith pos (.ref a) [] (backTo pos (starEach [l] X.env)) []) _ _ _;rw[st1];refine W.callWith_of (P:=W.FnAt a) rfl W.keeps_F (Calls.evalArgs_plain ?_);show wpAny _ _ (spliced ((false,eval l X.env)::backTo pos (starEach [] X.env))) _ _ _;refine Calls.spliced_cons (thn (he pins s1 σ H1 (fun x H2=>bZ X.K (Γ 1000) [.ref a,x] H2 Q E0) I1 ⟨m,ρ,st,rf,rh,ae C.mono e (fun v st1 k m1 H2 x1 e1 r1 r2=>?_) w⟩) fun u s2 ⟨x,H2,I2,r1,q⟩=>?_)
 ·exact⟨m1,st1,[.fn a,v],by rw[Rs_cons',Rs_cons',Rs_nil];exact⟨R_fn.mpr rfl,r2,rfl⟩,r1,C.mono _ _ _ _ _ (fun _ _ q=>q.ext e1) k⟩
 ·exact Calls.spliced_nil (C.lam hpc I2 r1 q)
theorem Iq (C:COk X c Γ)(h:c.lamOk k z caps sc=true){A:Around}{s:Shared}{E:XK}(hr:Room k (A.deeper (W.envX qual sc s.heap.objs.size f cd cl))) :
  COk (cxL CX0 X.prog X.w X.K X.mg X.base (z::caps.filterMap (c.N[·]?)) qual sc f cd cl A outer s H E).nox (c.lam k z caps sc) Γ:=by
 unfold Cfg.lamOk at h;simp only[Bool.and_eq_true,beq_iff_eq,decide_eq_true_eq,List.all_eq_true,Bool.not_eq_true'] at h;obtain⟨⟨⟨⟨⟨⟨⟨⟨⟨⟨h1,h2⟩,h3⟩,h4⟩,h5⟩,h6⟩,h7⟩,h8⟩,h9⟩,h10⟩,h11⟩:=h;have nocell:∀x,sc.names.lookup x≠some .cell:=fun x e=>by have:=h4 _ (Q4 e);simp at this
 refine⟨rfl,PassesOwn.never,rfl,h11,fun x h=>h,fun x h=>⟨h,.inr ?_⟩,fun x h=>h,fun x h=>h,?_,fun x h=>h,hr,fun f x hf e=>C.fn f x (RQ (show f<k from hf) (by omega)) e,C.blt,C.gl,C.mono,fun h=>Bool.noConfusion (show false=true from h),fun k h=>by cases h⟩
 ·rcases h with h|h
  ·exact h
  ·exact absurd h (nocell x)
 ·show Env.blockKind (W.envX qual sc s.heap.objs.size f cd cl)=_;unfold Env.blockKind;show (if sc.kind.isAnnotationScope=true then _ else sc.kind)=_;rw[h1];rfl
theorem sM {pos pos':Pos}{c cv:Value}(l:List Value)(h:TriplesOk l)(e:codeAmong pos (l++[rawInt pos'.line,rawInt pos'.col,c])=some cv):codeAmong pos l=some cv\/cv=c:=by
 fun_induction TriplesOk l with
 | case1 =>
  simp only[List.nil_append,codeAmong,rawInt] at e;split at e
  ·cases e;exact .inr rfl
  ·cases e
 | case2 a t b u x rest ih =>
  simp only[List.cons_append,codeAmong] at e |-
  split at e
  ·rename_i hc;rw[QA hc];exact .inl e
  ·rename_i hc;rw[QC hc];exact ih h e
 | case3 l h1 h2=>exact h.elim
theorem Ext.lam {H:Hp}{c0:Addr}{x:Str}(hx:x∈aV)(ht:W.tabIn K x=some (c0,T))(hT:H T=some (.tbl ps))(hn:H c'=none)(ho:q9 oc (x++".<locals>."++"<lambda>")):Ext K m H m (pw H T ps pos c' oc):=by
 have cT:c'≠T:=fun z=>by rw[z,hT] at hn;cases hn
 have same:∀b,b≠T->b≠c'->pw H T ps pos c' oc b=H b:=fun b h1 h2=>(ak h2).trans (ak h1);have nT:∀ {b:Addr}{o:HO},H b=some o->(∀qs,o≠.tbl qs)->b≠T:=fun {b o} e n z=>by rw[z,hT] at e;cases e;exact n _ rfl
 have nc:∀ {b:Addr}{o:HO},H b=some o->b≠c':=fun {b o} e z=>by rw[z,hn] at e;cases e
 have atT:pw H T ps pos c' oc T=some (.tbl (GZ ps pos c')):=(ak cT.symm).trans (QA rfl);have atc:pw H T ps pos c' oc c'=some (.frz oc (.own 0)):=QA rfl;refine⟨S0 _,fun _ z=>.inl z,fun a o _ e n=>?_,fun a ys q=>?_,fun a ys q=>?_,fun a qs _ e=>?_,fun t y hy d T' hd=>?_,fun a o u e=>by rw[same a (nT e fun _ z=>nomatch z) (nc e)];exact e⟩
 ·rw[same a (nT e n) (nc e)];exact e
 ·rcases q with (q|⟨w,q⟩)|q
  ·exact .inl (.inl (by rw[same a (nT q fun _ z=>nomatch z) (nc q)];exact q))
  ·exact .inl (.inr ⟨w,by rw[same a (nT q fun _ z=>nomatch z) (nc q)];exact q⟩)
  ·exact .inr q
 ·rcases q with⟨w,q⟩|q
  ·exact .inl ⟨w,by rw[same a (nT q fun _ z=>nomatch z) (nc q)];exact q⟩
  ·exact .inr q
 ·by_cases ha:a=T
  ·subst ha;exact⟨_,atT⟩
  ·exact⟨qs,by rw[same a ha (nc e)];exact e⟩
 ·obtain⟨u,qs,e1,e2,e3⟩:=t y hy d T' hd;have keepF:∀ {b:Addr}{o:Obj},H b=some (.frz o (.own 0))->pw H T ps pos c' oc b=some (.frz o (.own 0)):=fun {b o} e=>by rw[same b (nT e fun _ z=>nomatch z) (nc e)];exact e
  by_cases hz:T'=T
  ·subst hz;obtain rfl:x=y:=u x hx c0 ht;rw[hT] at e1;cases e1;refine⟨u,_,atT,?_,fun p cv q=>?_⟩
   ·rw[T9];exact TriplesOk_snoc _ _ _ _ e2
   ·rw[T9] at q;rcases sM _ e2 q with q|q
    ·obtain⟨c2,o2,g1,g2,g3⟩:=e3 p cv q;exact⟨c2,o2,g1,keepF g2,g3⟩
    ·exact⟨c',oc,q,atc,ho⟩
  ·refine⟨u,qs,by rw[same T' hz (nc e1)];exact e1,e2,fun p cv q=>?_⟩;obtain⟨c2,o2,g1,g2,g3⟩:=e3 p cv q;exact⟨c2,o2,g1,keepF g2,g3⟩
theorem Lv (u:Un fs ex H H' h h'):(∀a ys,SqT K H a ys->SqT K H' a ys)/\∀a ys,RdF K H a ys->RdF K H' a ys:=by
 refine⟨fun a ys q=>?_,fun a ys q=>?_⟩
 ·rcases q with (q|⟨w,q⟩)|q
  ·exact .inl (.inl (u.tups _ _ q))
  ·exact .inl (.inr ⟨w,u.frzs _ _ _ q⟩)
  ·exact .inr q
 ·rcases q with⟨w,q⟩|q
  ·exact .inl ⟨w,u.frzs _ _ _ q⟩
  ·exact .inr q
theorem mr (h:C8 k=true):k=some .cell\/k=some .free:=by unfold C8 at h;simpa using h
theorem DA {N:List Str}:∀ {caps:List Nat},(∀i∈caps,i<N.length)->(caps.filterMap (N[·]?)).length=caps.length
 | [],_=>rfl
 | i::r,h=>by have hi:=h i QL;rw[Q1,P9 hi];simp only[List.length_cons,DA fun j hj=>h j (List.mem_cons_of_mem _ hj)]
theorem F_ {N:List Str}:∀ {caps:List Nat}{j:Nat}{x:Str},(∀i∈caps,i<N.length)->(caps.filterMap (N[·]?))[j]?=some x->∃i,caps[j]?=some i/\N[i]?=some x
 | [],j,x,_,e=>by simp at e
 | i::r,j,x,h,e=>by
  have hi:=h i QL;rw[Q1,P9 hi] at e;cases j with
  | zero=>simp only[List.getElem?_cons_zero] at e;cases e;exact⟨i,rfl,P9 hi⟩
  | succ j=>simp only[List.getElem?_cons_succ] at e |-;exact F_ (fun j hj=>h j (QD _ hj)) e
theorem Nh (C:COk X c Γ)(hk:c.hm=some k){y:Str}{a:Arg}(hy:y="how_many")(hg:c.glb y=true)(hs:aj l=true)(hl:c.lamOk k a.arg caps sc=true)(he:PE X l (TEx X.K (wpE Γ e)))(hb:∀ {X':Cx},COk X' (c.lam k a.arg caps sc) Γ->PE X' b (TEx X'.K (wpE Γ be))) :
  PE X (.Call (.Name y p) [l,.Lambda ⟨[],[a],none,[],[],none,[]⟩ b sc pl] [] pos) (TEx X.K (wpE Γ (.hm e be caps))):=by
 rintro pins s σ H Q I ⟨m,ρ,st,rf,rh,w⟩;subst hy;have hx:=C.hmo k hk;obtain⟨f,fd,hmg,hkp,hbd,run⟩:=hx.ok.ex;obtain⟨x,c0,T,hxl,htab,hcode,hqual,hhd⟩:=hx.cd;obtain⟨bm,ob,b1,b2,b3,b4,b5,b6⟩:=hx.bm;obtain⟨g1,g2,g3⟩:=C.glbx hg;have hlo:=hl;unfold Cfg.lamOk at hlo;simp only[Bool.and_eq_true,beq_iff_eq,decide_eq_true_eq,List.all_eq_true,Bool.not_eq_true',Bool.or_eq_true] at hlo;obtain⟨⟨⟨⟨⟨⟨⟨⟨⟨⟨h1,h2⟩,h3⟩,h4⟩,h5⟩,h6⟩,h7⟩,h8⟩,h9⟩,h10⟩,h11⟩:=hlo;have hfree:∀y∈sc.names,y.2=.free->∃c,X.env.cells.lookup y.1=some c:=fun y hy hf=>I.ok.has _ (C.cel _ (mr ((h7 y hy).resolve_left fun z=>by rw[hf] at z;cases z)));have hcl:closureFor sc X.env=pure (iC X.env sc.names []):=lG hfree;have clg:∀ {y c},(iC X.env sc.names []).lookup y=some c->X.env.cells.lookup y=some c:=fun {y c} q=>iT hfree (fun _ _ z=>by simp at z) q;have S:sj a.arg sc (iC X.env sc.names []):=⟨h1,h2,h3,fun y hy z=>(by have:=h4 y hy;rw[z] at this;simp at this),h5,fun y hy=>nv (Q4 hy),fun y z c e1 e2=>I.ok.inj y z c (clg e1) (clg e2)⟩;refine wpAny_Call_Name_kw (i7 I g1 hmg ?_ g2);refine U4 (h₀:=X.base) I.ok.mod.kin hkp ?_ (av hs) (by rw[av rfl];rfl);rw[av hs];show wpAny _ _ (spliced ((false,eval l X.env)::backTo pos (starEach [.Lambda ⟨[],[a],none,[],[],none,[]⟩ b sc pl] X.env))) _ _ s;refine Calls.spliced_cons (thn (he pins s σ H (fun x1 H1=>∃m1 v st1,Ext X.K m H m1 H1/\RH X.K m1 H1 st1/\R X.K m1 H1 v x1/\∃xs,v=.tup xs/\xs.length<=100000/\(∀i∈caps,∃c,ρ[i]?=some (some c)/\c.bel 0=true) /\
   ∃g:PV->Bool,(∀y∈xs,∀Q':EK,Q' (.bl (g y)) st1->wpE Γ be (some y::caps.map fun i=>(ρ[i]?).join) st1 Q')/\post X.K m H Q (.int (bsr g xs)) st1) I ⟨m,ρ,st,rf,rh,ae C.mono e (fun v st1 kk m1 H1 x1 e1 r1 r2=>⟨m1,v,st1,e1,r1,r2,kk⟩) w⟩) ?_)
 rintro u s1 ⟨x1,H1,I1,ru,m1,v,st1,e1,r1,r2,xs,rfl,hlen,hcaps,g,hgg,hq⟩;rw[av (rfl:aj (.Lambda ⟨[],[a],none,[],[],none,[]⟩ b sc pl)=true)];show wpAny _ _ (spliced ((false,eval (.Lambda ⟨[],[a],none,[],[],none,[]⟩ b sc pl) X.env)::backTo pos (starEach [] X.env))) _ _ s1;obtain⟨uq,ps,hT,htr,hcodes⟩:=r1.tb x hxl c0 T htab;have nb:∀ {z:Addr}{o:Obj},X.base.get? z=some o->z≠T:=fun {z o} ez q=>by have:=(I1.bs z o ez).2;rw[q,hT] at this;cases this
 have nmg:bm≠mainGlobals:=fun z=>by obtain⟨o,es,ep,q,d,_⟩:=I.mod.glob;rw[z,q] at b3;cases b3;rw[d] at b6;cases b6
 have hbm:s1.heap.BuiltinsAt X.mg T:=⟨bm,ob,b1,b2,nmg,nb b3,I1.bk _ _ b3,b4,b5,b6⟩;refine Calls.spliced_cons (EH I1 hcode (hhd.keeps I1.bk) hT htr (fun cv q=>?_) hbm hcl rfl (fun f' H2 s2 pm c' ctv oc I2 hobj hoc hob hf hge hH=>?_))
 ·obtain⟨c',oc,q1,q2,q3⟩:=hcodes pl cv q;exact⟨c',oc,q1,q2,by rw[hqual];exact q3⟩
 have hob':q9 oc (x++".<locals>."++"<lambda>"):=by rw [<-hqual];exact hob
 have e2:Ext X.K m1 H1 m1 H2:=by
  rcases hH with z|⟨hn,_,_,z⟩
  ·rw[z];exact Ext.refl _ _ _
  ·rw[z];exact Ext.lam hxl htab hT hn hob'
 have r3:RH X.K m1 H2 st1:=r1.keep e2 fun z hz=>by
  rcases hH with q|⟨hn,_,_,q⟩
  ·rw[q]
  ·rw[q];exact(ak (show z≠c' from fun q=>r1.fresh hn (by rw[<-q];exact hz))).trans (ak (show z≠T from fun q=>r1.mem_tbl (by rw[<-q];exact hz) hT))
 have hL:wg fun as st Q=>∃y,as=[y]/\wpE Γ be (some y::caps.map fun i=>(ρ[i]?).join) st Q:=fun as st Q Q' h ⟨y,e,q⟩=>⟨y,e,ae C.mono be h q⟩;have sp:bZ X.K (Hd f' fun as st Q=>∃y,as=[y]/\wpE Γ be (some y::caps.map fun i=>(ρ[i]?).join) st Q) [x1,.ref f'] H2 Q E0 :=
  ⟨m1,st1,[.tup xs,.fn f'],by rw[Rs_cons',Rs_cons',Rs_nil];exact⟨r2.mono e2,R_fn.mpr rfl,rfl⟩,r3,xs,g,rfl,hlen,fun y hy Q' q=>⟨y,rfl,hgg y hy Q' q⟩,(hq.ext e1).ext e2⟩
 refine Calls.spliced_nil ⟨I2.kIn,wpAny_call (codeAny_mono (run f' _ hL X.A X.stack s2 H2 ⟨[u,.ref f'],[]⟩ [u,.ref f'] [x1,.ref f'] Q (C.room.mono (by omega)) I2.env0 (hbd s2 [u,.ref f'] I2.kIn rfl) (.cons ru (.cons rfl .nil)) ?_ sp) fun r s' hq=>?_)⟩
 ·intro A' outer' s' H' u' v' Q' hr' e0' un rv' ⟨m',st',as,ra,rh',y,eas,wy⟩;subst eas;have hfr:f' ∉ frs X.stack:=fun z=>by
   have lt:f'<s1.heap.objs.size:=by
    rcases QZ.mp (I1.stkSub f' z) with q|q
    ·rw[q];exact I1.lt
    ·obtain⟨_,o,ho,_⟩:=I1.ok.funs.mem q;exact P7 (QF ho) I1.sz
   exact absurd hge (Nat.not_le.mpr lt)
  have hobj':=un.keep f' _ hobj hf hfr (by simp);have hoc':H' c'=some (.frz oc (.own 0)):=un.frzs _ _ _ hoc;have hrec:s'.heap.CodeRec (.ref c') (X.env.qual++"<lambda>"):=by obtain⟨vs,t,d1,d2⟩:=hob;exact⟨c',oc,vs,t,rfl,(e0'.hok _ _ hoc').1,d1,d2⟩
  have cellK:∀ {d:Addr}{z:Option Value},H2 d=none->s2.heap.IsCell d z->s'.heap.IsCell d z:=fun {d z} hn ⟨o,ho,hd⟩=>by obtain⟨sl,q⟩:=un.any ho hn (by simp);exact⟨_,q,hd⟩
  refine⟨⟨_,_,_,_,hobj'⟩,?_⟩;refine GO (k:=k) (N:=a.arg::caps.filterMap (c.N[·]?)) (σ:=some v'::caps.map fun i=>(σ[i]?).join) ⟨pm,c',ctv,hobj',hrec⟩ S hr' e0' rv' F1 (fun y d q=>?_) (fun i y z q1 q2=>?_) ?_ (fun cd hroom=>⟨_,hb (Iq C hl hroom),m',some y::caps.map (fun i=>(ρ[i]?).join),st',?_,rh',wy⟩)
  ·have q':=clg q;obtain⟨z,hz⟩:=I2.cell y d q';obtain⟨o,ho,_⟩:=id hz;exact⟨⟨z,cellK (I2.freeC y d q') hz⟩,un.free d o ho (I2.freeC y d q') (by simp)⟩
  ·cases i with
   | zero =>simp only[List.getElem?_cons_zero] at q1 q2;cases q1;cases q2;exact .inl ⟨rfl,rfl⟩
   | succ i =>
    simp only[List.getElem?_cons_succ] at q1 q2;obtain⟨j,e3,e4⟩:=F_ h9 q1;rw[QK,e3] at q2;have q2':(σ[j]?).join=some z:=by simpa using q2
    have q3:σ[j]?=some (some z):=by
     cases q:σ[j]? with
     | none=>rw[q] at q2';cases q2'
     | some o=>rw[q] at q2';exact Q0 some q2'
    have hy:=h10 y (P_ q1);obtain⟨mm,hn,hlook⟩:=I2.loc;have vis:Vis X.env.scope y:=by
     rcases mr hy.2 with q|q
     ·exact C.vis y (.inr (.inl q))
     ·exact C.vis y (.inr (.inr q))
    obtain⟨uu,rr,lk⟩:=hlook j y z (by rw[C.N];exact e4) q3 vis;refine .inr ⟨hy.1,?_⟩;rcases lk with⟨kd,_⟩|⟨_,d,e5,e6⟩
    ·rcases C.cel y (mr hy.2) with q|q <;> rw[kd] at q <;> cases q
    ·obtain⟨d2,e7⟩:=S.free y hy.1;have e8:=clg e7;rw[e5] at e8;cases e8;exact⟨d,uu,e7,cellK (I2.freeC y d e5) e6,rr⟩
  ·simp[DA h9]
  ·rw[Rs_cons',Rs_nil] at ra;have ut:=Lv (K:=X.K) un;refine⟨by simp,fun i z q=>?_⟩;cases i with
   | zero =>
    simp only[List.getElem?_cons_zero] at q |-
    cases q;exact⟨v',rfl,ra.1⟩
   | succ i =>
    simp only[List.getElem?_cons_succ] at q |-
    rw[QK] at q;cases e3:caps[i]? with
    | none=>rw[e3] at q;cases q
    | some j =>
     rw[e3] at q;obtain⟨cc,e4,e5⟩:=hcaps j (P_ e3);have q':(ρ[j]?).join=some z:=by simpa using q
     rw[e4] at q';obtain rfl:cc=z:=by simpa using q'
     obtain⟨xv,e6,e7⟩:=rf.at_ j _ e4;refine⟨xv,by rw[QK,e3,TF,e6];rfl,?_⟩;have r0:R X.K [] H cc xv:=by have:=R.cut e7 (PV.bel_bec (P6 _) e5);rwa [List.take_zero] at this
     have r1:R X.K [] H1 cc xv:=R.mono0 e1.tup e1.rdf r0;have r2:R X.K [] H2 cc xv:=R.mono0 e2.tup e2.rdf r1;exact R.pre (List.nil_prefix) (R.mono0 ut.1 ut.2 r2)
 ·cases r with
  | error e=>exact False.elim hq
  | ok fl =>
   cases fl with
   | ret u=>exact I2.after hq
   | next=>exact False.elim hq
   | brk=>exact False.elim hq
   | cont=>exact False.elim hq
end
end FW
namespace FW
open L2 HX
end FW
namespace FW
open L2 HX
section
variable {X:Cx}{pins:List (Addr × Obj)}{σ:L2.St}{H:Hp}{s:Shared}{a:Addr}{ys:List (Key × V)}{o:Obj}
end
section
variable {K:W.Frag}{m m2:List Addr}{H H2:Hp}{st:AH}{n:Nat}{a:Addr}{o:Obj}{ys:List (Key × V)}{kvs:List (Key × PV)}
end
section
variable {X:Cx}{c:Cfg}{Γ:Nat->FSp}
end
end FW
namespace FW
open L2 HX
section
variable {X:Cx}{pins:List (Addr × Obj)}{σ:L2.St}{H:Hp}{s:Shared}{a:Addr}{A:Around}{E:Value->Shared->Prop}
end
section
variable {K:W.Frag}{m m':List Addr}{H H':Hp}{st:AH}{D:Addr}{ys zs:List (Key × V)}
end
section
variable {X:Cx}{Γ:Nat->FSp}{pins:List (Addr × Obj)}{σ:L2.St}{H:Hp}{s:Shared}
def DRel (K:W.Frag)(m:List Addr)(H:Hp)(ps:List (Str × PV))(ds:List (Key × V)):Prop:=ds.map (·.1)=(KP ps).map (·.1)/\Rs K m H ((KP ps).map (·.2)) (ds.map (·.2))
theorem DRel.mono (h:DRel K m H ps ds)(x:Ext K m H m' H'):DRel K m' H' ps ds:=⟨h.1,h.2.mono x⟩
end
end FW
namespace FW
open L2 HX
section
variable {prog:Program}{w:World}{A:Around}{E:Value->Shared->Prop}{s:Shared}
variable {R:Result->Shared->Prop}
end
end FW
namespace FW
open L2 HX
section
variable {prog:Program}{w:World}{A:Around}{E:Value->Shared->Prop}{s:Shared}
end
section
variable {X:Cx}{c:Cfg}{Γ:Nat->FSp}
end
end FW
namespace FW
open L2 HX
section
variable {prog:Program}{w:World}
variable {A:Around}{E:Value->Shared->Prop}{s:Shared}
end
section
variable {X:Cx}{pins:List (Addr × Obj)}{σ:L2.St}{H:Hp}{s:Shared}{m:List Addr}{st:AH}
end
end FW
namespace FW
open L2 HX
theorem Ext.addD {D:Addr}(x:Ext K m H m2 H2)(h0:H D=none):Ext K m H (m2++[D]) H2:=by
 refine⟨x.pre.trans (UC _ _),fun a ha=>?_,x.fr,x.tup,x.rdf,x.tbs,x.tb,x.frz⟩;rcases Q5.mp ha with z|z
 ·exact x.new a z
 ·rw[QI] at z;subst z;exact .inr h0
section
variable {X:Cx}{c:Cfg}{Γ:Nat->FSp}
end
end FW
namespace FW
open L2 HX
section
variable {Γ:Nat->FSp}
theorem qg (G:aW Γ){st:AH}{k k':Option PV->AH->Prop}(hk:∀o st,k o st->k' o st)(q:hV Γ elt tg ifs ρ x st k):hV Γ elt tg ifs ρ x st k' :=
 bu G tg (fun ρ' st3 w=>cU G ifs (fun c st4 w=>by
  cases c with
  | true=>rw[QA rfl] at w |-;exact ae G elt (fun v st5 w=>hk _ _ w) w
  | false=>rw[QC P5] at w |-;exact hk _ _ w) w) q
theorem RH.addD {D:Addr}(h:RH K m H st)(Dm:D ∉ m)(hD:H D=some (.lst ys))(r:Rs K m H vs ys):RH K (m++[D]) H (st++[.lst vs]):=by
 have hp:m <+: m++[D]:=UC _ _;refine⟨by simp[h.len],SV.mpr ⟨h.nd,QH.mpr ⟨by simp,UZ⟩,fun a ha b hb z=>?_⟩,fun n c' a h1 h2=>?_,h.tb⟩
 ·rw[QI] at hb;subst hb;exact Dm (z ▸ ha)
 ·by_cases hn:n<st.length
  ·rw[QT hn] at h1;rw[QT (by rw[h.len];exact hn)] at h2;have hc:=h.at_ n c' a h1 h2;cases c' with
   | lst xs=>obtain⟨us,g1,g2⟩:=hc;exact⟨us,g1,g2.pre hp⟩
   | dk kvs=>obtain⟨us,g1,g2,g3⟩:=hc;exact⟨us,g1,g2,g3.pre hp⟩
   | fz kvs=>obtain⟨o,us,g1,g2,g3⟩:=hc;exact⟨o,us,g1,g2,g3.pre hp⟩
  ·rw[QV (by omega)] at h1;rw[QV (by rw[h.len];omega)] at h2;have hl:=h.len;by_cases hz:n-st.length=0
   ·rw[hz] at h1;rw[show n-m.length=0 by omega] at h2;simp at h1 h2;subst h1 h2;exact⟨ys,hD,r.pre hp⟩
   ·rw[RW (by simp;omega)] at h1;cases h1
theorem mV (C:COk X c Γ){nt:List Str}(h:c.block nt caps sc=true) :
  CScope X sc/\(∀i∈caps,i<X.N.length)/\(∀x∈caps.filterMap (X.N[·]?),sc.names.lookup x=some .free)/\(∀x∈caps.filterMap (X.N[·]?),X.env.kindOf x=some .cell\/X.env.kindOf x=some .free)/\(nt++caps.filterMap (X.N[·]?)).Nodup:=by
 unfold Cfg.block at h;simp only[Bool.and_eq_true,List.all_eq_true,beq_iff_eq,decide_eq_true_eq,Bool.or_eq_true,Bool.not_eq_true',beq_eq_false_iff_ne] at h;obtain⟨⟨⟨⟨⟨⟨h1,h2⟩,h3⟩,h4⟩,h5⟩,h6⟩,h7⟩:=h;rw[C.N];refine⟨⟨h1,fun y hy=>h2 y hy,fun y hy e=>?_,fun y hy e=>?_⟩,h5,fun x hx=>(h6 x hx).1,fun x hx=>C.cel x (mr (h6 x hx).2),h7⟩
 ·rcases h3 y hy with z|z
  ·exact absurd e z
  ·exact z
 ·rcases h4 y hy with z|z
  ·exact absurd e z
  ·exact C.cel _ (mr z)
theorem Ai (C:COk X c Γ){nt:List Str}(h:c.block nt caps sc=true) :
  COk (cxC X (nt++caps.filterMap (X.N[·]?)) s2 H2 fp sc A) (c.inner nt caps sc) Γ:=by
 obtain⟨S,k1,k2,k3,k4⟩:=mV C h;have nocell:∀x,sc.names.lookup x≠some .cell:=fun x e=>S.nocell _ (Q4 e) rfl;refine⟨C.calm,PassesOwn.never,?_,?_,fun x hx=>?_,fun x hx=>?_,fun x hx=>lookup_relabel_local hx,fun x hx=>mi hx,?_,fun x hx=>?_,C.room,C.fn,C.blt,C.gl,C.mono,fun h=>Bool.noConfusion (show false=true from h),fun k h=>by cases h⟩
 ·show nt++caps.filterMap (X.N[·]?)=nt++caps.filterMap (c.N[·]?);rw[C.N]
 ·show (nt++caps.filterMap (c.N[·]?)).Nodup;rw[<-C.N];exact k4
 ·rcases hx with hx|hx|hx
  ·exact .inl (lookup_relabel_local hx)
  ·exact absurd hx (nocell x)
  ·rcases gh (env:=X.env) hx with z|z
   ·exact .inr (.inl z)
   ·exact .inr (.inr z)
 ·rcases hx with hx|hx
  ·exact⟨.inl (lookup_relabel_local hx),.inr (lookup_relabel_local hx)⟩
  ·exact absurd hx (nocell x)
 ·show Env.blockKind (compEnvC sc (iC X.env sc.names []) A X.env)=_;unfold Env.blockKind;show (if sc.kind.isAnnotationScope=true then _ else sc.kind)=_;rw[S.kind];rfl
 ·rcases hx with hx|hx
  ·exact absurd hx (nocell x)
  ·exact gh hx
theorem HZ (C:COk X c Γ){ap cp:Pos}(hl:(ap.endLine == cp.line)=true)(ha:PE X u (TEx X.K (wpE Γ a))) :
  PE X (.Call (.Attribute (.Constant (.str "") k3 p3) "join" ap) [.Subscript u (.Slice none none (some (.UnaryOp .USub (.Constant (.int 1) k7 p7) p6)) p5) p4] [] cp) (TEx X.K (wpE Γ (.jrev a))):=by
 intro pins s σ H Q I h;obtain⟨m,ρ,st,rf,rh,w⟩:=h;have hr:=HM (X:=X) (p2:=p5) (pos:=p4) ha (K8 (pos:=p6) Gv (Fh (X:=X) (i:=1) (j:=k7) (pos:=p7))) (fun {σ H Q} q=>⟨1,rfl,q⟩);refine t4 SQ PySem.F.slot_str_join PySem.F.type_str_join EO v8 (pac hr eg rfl) rfl rfl hl rfl rfl pins s σ H Q I ?_;refine⟨rfl,m,ρ,st,rf,rh,ae C.mono a (fun v st1 k m1 H1 x1 e1 r1 r2=>?_) w⟩;obtain⟨n,z,rfl,h1,h2,k⟩:=k;obtain⟨b,ys,rfl,eb,g,ry⟩:=r1.lst h1 r2;obtain⟨y,rfl,hy⟩:=ry.one';rw[R_str] at hy;subst hy;refine ⟨b,_,rfl,g,fun p hp=>⟨"",p,z,rfl,rfl,bY,h2,rfl,?_⟩⟩;exact k m1 _ _ (e1.trans (Ext.newT r1 hp)) (r1.newT hp) (R_str.mpr rfl)
theorem rX (h:(fF y || zw y)=true):attributeBase y n env w=w:=by cases y <;> first|rfl|cases h
theorem MF (C:COk X c Γ){ap cp:Pos}(hl:(ap.endLine == cp.line)=true)(hy:(fF u || zw u)=true)(hs:aj l=true)(ha:PE X u (TEx X.K (wpE Γ a)))(hb:PE X l (TEx X.K (wpE Γ b))) :
  PE X (.Call (.Attribute u (Ea k) ap) [l] [] cp) (TEx X.K (wpE Γ (.smx k a b))):=by
 intro pins s σ H Q I h;obtain⟨m,ρ,st,rf,rh,w⟩:=h;have hB:PA X [l] (fj (TEx X.K (wpE Γ b)) om):=pac hb eg hs;cases k with
 | split =>
  refine t4 SQ PySem.F.slot_str_split PySem.F.type_str_split EY ha hB (rX hy) (by rw[av hs];rfl) hl (av hs) rfl pins s σ H Q I ?_;refine⟨m,ρ,st,rf,rh,ae C.mono a (fun v st1 k m1 H1 x1 e1 r1 r2=>?_) w⟩;obtain⟨⟨z,rfl⟩,k⟩:=k;rw[R_str] at r2;subst r2;refine⟨rfl,m1,ρ,st1,rf.mono e1,r1,ae C.mono b (fun v st2 k m2 H2 x2 e2 r3 r4=>?_) k⟩;cases v with
  | str w =>obtain⟨h1,h2,h3,k⟩:=k;rw[R_str] at r4;subst r4;exact⟨z,w,rfl,rfl,by rw[T8];omega,fI h2,fI h3,fun p hp=>((k.ext e1).ext e2).newL r3 F2 hp⟩
  | _=>exact False.elim k
 | join =>refine t4 SQ PySem.F.slot_str_join PySem.F.type_str_join GQ ha hB (rX hy) (by rw[av hs];rfl) hl (av hs) rfl pins s σ H Q I ?_;refine⟨m,ρ,st,rf,rh,ae C.mono a (fun v st1 k m1 H1 x1 e1 r1 r2=>?_) w⟩;obtain⟨⟨z,rfl⟩,k⟩:=k;rw[R_str] at r2;subst r2;refine⟨rfl,m1,ρ,st1,rf.mono e1,r1,ae C.mono b (fun v st2 k m2 H2 x2 e2 r3 r4=>?_) k⟩;obtain⟨ss,h2,h3,k⟩:=k;obtain⟨a,zs,rfl,g,rz⟩:=gr r3 r4 h2;obtain rfl:=p9 rz;exact⟨z,a,ss,rfl,rfl,g,h3,k m2 H2 _ (e1.trans e2) r3 (R_str.mpr rfl)⟩
theorem IE (C:COk X c Γ){y:Str}{ap cp:Pos}(hl:(ap.endLine == cp.line)=true)(h0:(y.length == 0)=false)(hy:fF u=true)(ha:PE X u (TEx X.K (wpE Γ a))) :
  PE X (.Call (.Attribute u "partition" ap) [.Constant (.str y) k3 p3] [] cp) (TEx X.K (wpE Γ (.part a y))):=by
 intro pins s σ H Q I h;obtain⟨m,ρ,st,rf,rh,w⟩:=h;refine t4 SQ PySem.F.slot_str_partition PySem.F.type_str_partition IT ha (pac v8 eg rfl) (ku hy) rfl hl rfl rfl pins s σ H Q I ?_;refine⟨m,ρ,st,rf,rh,ae C.mono a (fun v st1 k m1 H1 x1 e1 r1 r2=>?_) w⟩;obtain⟨z,rfl,h1,k⟩:=k;rw[R_str] at r2;subst r2;exact⟨rfl,z,y,rfl,rfl,h0,h1,fun p hp=>(k.ext e1).newT r1 Ms hp⟩
mutual
theorem aT:∀(e:E) {X:Cx}{c:Cfg} (C:COk X c Γ) (x:Expr),aB c e x=true->PE X x (TEx X.K (wpE Γ e))
 | .var i,X,c,C,x,h=>by
  replace h:=ai h;obtain⟨y,p,rfl,h⟩:=h
  ·exact Dr C h
 | .int i,X,c,C,x,h=>by
  replace h:=tL h;obtain⟨j,k,p,rfl,h⟩:=h
  ·rw[TZ] at h;subst h;rintro pins s σ H Q I ⟨m,ρ,st,rf,rh,w⟩
   skip
   exact Fh pins s σ H Q I (w.here rh (R_int.mpr rfl))
 | .bl i,X,c,C,x,h=>by
  replace h:=wB h;obtain⟨j,k,p,rfl,h⟩:=h
  ·rw[TZ] at h;subst h;rintro pins s σ H Q I ⟨m,ρ,st,rf,rh,w⟩
   skip
   exact Kw pins s σ H Q I (w.here rh (R_bl.mpr rfl))
 | .non,X,c,C,x,h=>by
  replace h:=CA h;obtain⟨k,p,rfl⟩:=h
  ·rintro pins s σ H Q I ⟨m,ρ,st,rf,rh,w⟩
   skip
   exact LI pins s σ H Q I (w.here rh (R_non.mpr rfl))
 | .str i,X,c,C,x,h=>by
  replace h:=kG h;obtain⟨j,k,p,rfl,h⟩:=h
  ·rw[TZ] at h;subst h;rintro pins s σ H Q I ⟨m,ρ,st,rf,rh,w⟩
   skip
   exact v8 pins s σ H Q I (w.here rh (R_str.mpr rfl))
 | .gv y v,X,c,C,x,h=>by
  replace h:=ai h;obtain⟨z,p,rfl,h⟩:=h
  ·simp only[Bool.and_eq_true,beq_iff_eq] at h;obtain⟨⟨h1,h2⟩,h3⟩:=h;subst h1;obtain⟨g1,g2,_⟩:=C.glbx h2;replace h3:=gJ h3;obtain⟨w,hw,h3⟩:=h3
   ·have:=PV.same_eq h3;subst this;obtain⟨u,z,e1,e2,e3⟩:=C.gl _ _ hw;rintro pins s σ H Q I ⟨m,ρ,st,rf,rh,w⟩
    skip
    exact Hi g1 e1 e2 g2 pins s σ H Q I (w.here rh (e3 m H))
 | .tup es,X,c,C,x,h=>by
  replace h:=b8 h;obtain⟨xs,k,p,rfl,h⟩:=h
  ·rintro pins s σ H Q I ⟨m,ρ,st,rf,rh,w⟩
   skip
   refine K' (kZ es C _ h) pins s σ H Q I ⟨m,ρ,st,rf,rh,aA C.mono es (fun vs st1 k m1 H1 xs1 e1 r1 r2=>⟨by rw[<-r2.len];exact fI k.1,fun p hp=>?_⟩) w⟩;exact(k.2.ext e1).newT r1 r2 hp
 | .lst es,X,c,C,x,h=>by
  replace h:=yM h;obtain⟨xs,p,rfl,h⟩:=h
  ·rintro pins s σ H Q I ⟨m,ρ,st,rf,rh,w⟩
   skip
   refine LF (kZ es C _ h) pins s σ H Q I ⟨m,ρ,st,rf,rh,aA C.mono es (fun vs st1 k m1 H1 xs1 e1 r1 r2=>⟨by rw[<-r2.len];exact fI k.1,fun p hp=>?_⟩) w⟩;exact(k.2.ext e1).newL r1 r2 hp
 | .bad,X,c,C,x,h=>by rintro pins s σ H Q I ⟨m,ρ,st,rf,rh,w⟩;exact False.elim w
 | .dct0,X,c,C,x,h=>by rintro pins s σ H Q I ⟨m,ρ,st,rf,rh,w⟩;exact False.elim w
 | .dct1 _ _,X,c,C,x,h=>by rintro pins s σ H Q I ⟨m,ρ,st,rf,rh,w⟩;exact False.elim w
 | .bin op a b,X,c,C,x,h=>by
  replace h:=CH h;obtain⟨l,o,r,p,rfl,h⟩:=h
  ·simp only[Bool.and_eq_true,beq_iff_eq] at h;obtain⟨⟨h1,h2⟩,h3⟩:=h;subst h1;rintro pins s σ H Q I ⟨m,ρ,st,rf,rh,w⟩
   skip
   exact O3 (Lj _) (aT a C _ h2) (aT b C _ h3) pins s σ H Q I ⟨m,ρ,st,rf,rh,ae C.mono a (fun v st1 k m1 H1 x1 e1 r1 r2=>⟨m1,ρ,st1,rf.mono e1,r1,
    ae C.mono b (fun u st2 k2 m2 H2 y2 e2 r3 r4=>⟨m2,st2,v,u,r3,r2.mono e2,r4,uA (fun _ _ q=>q.ext (e1.trans e2)) k2⟩) k⟩) w⟩
 | .neg a,X,c,C,x,h=>by
  replace h:=uB h;obtain⟨y,p,rfl,h⟩:=h
  ·rintro pins s σ H Q I ⟨m,ρ,st,rf,rh,w⟩
   skip
   refine K8 Gv (aT a C _ h) pins s σ H Q I ⟨m,ρ,st,rf,rh,ae C.mono a (fun v st1 k m1 H1 x1 e1 r1 r2=>?_) w⟩;obtain⟨i,rfl,k⟩:=k;rw[R_int] at r2;subst r2;exact⟨i,rfl,(k.ext e1).here r1 (R_int.mpr rfl)⟩
 | .not a,X,c,C,x,h=>by
  replace h:=tO h;obtain⟨y,p,rfl,h⟩:=h
  ·rintro pins s σ H Q I ⟨m,ρ,st,rf,rh,w⟩
   skip
   refine K_ (aT a C _ h) pins s σ H Q I ⟨m,ρ,st,rf,rh,ae C.mono a (fun v st1 k m1 H1 x1 e1 r1 r2=>?_) w⟩;obtain⟨i,rfl,k⟩:=k;rw[R_bl] at r2;subst r2;exact⟨i,rfl,(k.ext e1).here r1 (R_bl.mpr rfl)⟩
 | .cmp op a b,X,c,C,x,h=>by
  replace h:=tU h;obtain⟨l,o,r,p,rfl,h⟩:=h
  ·simp only[Bool.and_eq_true,beq_iff_eq,Bool.not_eq_true',beq_eq_false_iff_ne] at h;obtain⟨⟨⟨h1,n1⟩,h2⟩,h3⟩:=h;subst h1;rintro pins s σ H Q I ⟨m,ρ,st,rf,rh,w⟩
   skip
   exact Hc (E1 C.room.units _) (aT a C _ h2) (aT b C _ h3) n1 pins s σ H Q I ⟨m,ρ,st,rf,rh,ae C.mono a (fun v st1 k m1 H1 x1 e1 r1 r2=>⟨m1,ρ,st1,rf.mono e1,r1,
    ae C.mono b (fun u st2 k2 m2 H2 y2 e2 r3 r4=>⟨m2,st2,v,u,r3,r2.mono e2,r4,ki (fun _ _ q=>q.ext (e1.trans e2)) k2⟩) k⟩) w⟩
 | .bop true es,X,c,C,x,h=>by
  replace h:=kj h;obtain⟨o,xs,p,rfl,h⟩:=h
  ·simp only[Bool.and_eq_true,beq_iff_eq,Bool.not_eq_true'] at h;obtain⟨⟨h1,h2⟩,h3⟩:=h;subst h1;rintro pins s σ H Q I ⟨m,ρ,st,rf,rh,w⟩
   skip
   exact Jc es C _ _ h2 h3 pins s σ H Q I ⟨m,ρ,st,rf,rh,w⟩
 | .bop false es,X,c,C,x,h=>by
  replace h:=kj h;obtain⟨o,xs,p,rfl,h⟩:=h
  ·simp only[Bool.and_eq_true,beq_iff_eq,Bool.not_eq_true'] at h;obtain⟨⟨h1,h2⟩,h3⟩:=h;subst h1;rintro pins s σ H Q I ⟨m,ρ,st,rf,rh,w⟩
   skip
   exact Kb es C _ _ h2 h3 pins s σ H Q I ⟨m,ρ,st,rf,rh,w⟩
 | .ite t a b,X,c,C,x,h=>by
  replace h:=Ck h;obtain⟨y,l,r,p,rfl,h⟩:=h
  ·simp only[Bool.and_eq_true] at h;obtain⟨⟨h1,h2⟩,h3⟩:=h;rintro pins s σ H Q I ⟨m,ρ,st,rf,rh,w⟩
   skip
   refine DD (qF t C _ h1) (aT a C _ h2) (aT b C _ h3) pins s σ H Q I ⟨m,ρ,st,rf,rh,aP C.mono t (fun k st1 z m1 H1 e1 r1=>?_) w⟩;cases k with
   | true=>rw[QA rfl] at z |-;exact⟨m1,ρ,st1,rf.mono e1,r1,ae C.mono a (fun _ _ q=>q.ext e1) z⟩
   | false=>rw[QC P5] at z |-;exact⟨m1,ρ,st1,rf.mono e1,r1,ae C.mono b (fun _ _ q=>q.ext e1) z⟩
 | .ix a b,X,c,C,x,h=>by
  replace h:=gu h;obtain⟨l,r,p,rfl,h⟩:=h
  ·simp only[Bool.and_eq_true] at h;obtain⟨⟨h1,h2⟩,h3⟩:=h;rintro pins s σ H Q I ⟨m,ρ,st,rf,rh,w⟩
   skip
   exact GI (JW C.room.units) (aT a C _ h2) (aT b C _ h3) h1 pins s σ H Q I ⟨m,ρ,st,rf,rh,ae C.mono a (fun v st1 k m1 H1 x1 e1 r1 r2=>⟨m1,ρ,st1,rf.mono e1,r1,
    ae C.mono b (fun u st2 k2 m2 H2 y2 e2 r3 r4=>⟨m2,st2,v,u,r3,r2.mono e2,r4,mL (fun _ _ q=>q.ext (e1.trans e2)) k2⟩) k⟩) w⟩
 | .sl a lo hi,X,c,C,x,h=>by
  replace h:=gu h;obtain⟨l,r,p,rfl,h⟩:=h;replace h:=wG h;obtain⟨u,v,p2,rfl,h⟩:=h
  ·simp only[Bool.and_eq_true] at h;obtain⟨⟨h1,h2⟩,h3⟩:=h;rintro pins s σ H Q I ⟨m,ρ,st,rf,rh,w⟩
   skip
   exact Ef Nk (aT a C _ h1) (O6 lo C _ h2) (O6 hi C _ h3) pins s σ H Q I ⟨m,ρ,st,rf,rh,ae C.mono a (fun v st1 k m1 H1 x1 e1 r1 r2=>⟨m1,ρ,st1,rf.mono e1,r1,
    mW C.mono lo (fun l st2 k2 m2 H2 e2 r3=>⟨m2,ρ,st2,(rf.mono e1).mono e2,r3,mW C.mono hi (fun u st3 k3 m3 H3 e3 r4=>⟨m3,st3,v,r4,(r2.mono e2).mono e3,xO (fun _ _ q=>q.ext ((e1.trans e2).trans e3)) k3⟩) k2⟩) k⟩) w⟩
 | .call f es,X,c,C,x,h=>by
  replace h:=aD h;obtain⟨g,xs,p,rfl,h⟩:=h;replace h:=ai h;obtain⟨y,p2,rfl,h⟩:=h
  ·simp only[Bool.and_eq_true] at h;obtain⟨⟨h1,h2⟩,h3⟩:=h;rintro pins s σ H Q I ⟨m,ρ,st,rf,rh,w⟩
   skip
   exact yJ C h1 h2 h3 (kZ es C _ h3) pins s σ H Q I ⟨m,ρ,st,rf,rh,w⟩
 | .blt b es,X,c,C,x,h=>by
  replace h:=aD h;obtain⟨g,xs,p,rfl,h⟩:=h;replace h:=ai h;obtain⟨y,p2,rfl,h⟩:=h
  ·simp only[Bool.and_eq_true,beq_iff_eq,Bool.not_eq_true'] at h;obtain⟨⟨⟨⟨h1,h2⟩,h3⟩,h4⟩,h5⟩:=h;rintro pins s σ H Q I ⟨m,ρ,st,rf,rh,w⟩
   skip
   exact xk C h1 h2 h3 h4 (kZ es C _ h5) pins s σ H Q I ⟨m,ρ,st,rf,rh,w⟩
 | .inst a t,X,c,C,x,h=>by
  replace h:=aD h;obtain⟨g,xs,p,rfl,h⟩:=h;replace h:=ai h;obtain⟨y,p2,rfl,h⟩:=h;replace h:=g_ h;obtain⟨l,r,rfl,h⟩:=h;replace h:=ai h;obtain⟨z,p3,rfl,h⟩:=h
  ·rw[QB] at h;exact AC C h.1 (aT a C _ h.2)
 | .met mm o es,X,c,C,x,h=>by
  replace h:=aD h;obtain⟨g,xs,p,rfl,h⟩:=h;replace h:=iY h;obtain⟨y,n,p2,rfl,h⟩:=h
  ·simp only[Bool.and_eq_true,beq_iff_eq,decide_eq_true_eq] at h;obtain⟨⟨⟨⟨⟨⟨h1,h2⟩,h3⟩,h4⟩,h0⟩,h5⟩,h6⟩:=h;exact FJ C h1 (by rw[h2];simp) h3 h4 h0 (aT o C _ h5) (kZ es C _ h6) h6
 | .comp elt tg it ifs nt caps,X,c,C,x,h=>by
  replace h:=jI h;obtain⟨ex,gs,sc,pos,rfl,h⟩:=h;replace h:=bj h;obtain⟨g,rfl,h⟩:=h;obtain⟨tx,ix,fx,ia⟩:=g;dsimp only at h
  ·simp only[Bool.and_eq_true,beq_iff_eq] at h;obtain⟨⟨⟨⟨⟨⟨⟨⟨h1,h0⟩,h2⟩,h3⟩,h4⟩,h5⟩,h6⟩,h7⟩,h8⟩:=h;subst h1;obtain⟨S,k1,k2,k3,k4⟩:=mV C h4;have hC:∀s2 H2 fp A,COk (cxC X (nt++caps.filterMap (X.N[·]?)) s2 H2 fp sc A) (c.inner nt caps sc) Γ:=fun s2 H2 fp A=>Ai C h4;rintro pins s σ H Q I ⟨m,ρ,st,rf,rh,w⟩
   skip
   rw[eval_ListComp];refine tZ (elt:=elt) (tg:=tg) (ifs:=ifs) (nt:=nt) (caps:=caps) (use:=none) (Fin:=fun D H'=>Q (.ref D) H') (wi:=TIx X.K (fS Γ it)) C.mono C.calm S rfl k1 k2 k3 h2 h3 (BI it C ix h0 h5) (fun s2 H2 fp A=>rV tg (hC s2 H2 fp A) _ h6) (fun s2 H2 fp A=>yO ifs (hC s2 H2 fp A) _ h7) (fun s2 H2 fp A=>aT elt (hC s2 H2 fp A) _ h8) I ?_ ?_
   ·refine⟨m,ρ,st,rf,rh,cu C.mono it (fun xs chk st1 z m1 H1 J e1 r1 W=>⟨m1,ρ,st1,xs,chk,rf.mono e1,r1,W,z.1,?_⟩) w⟩;refine jc (body:=hV Γ elt tg ifs (nt.map (fun _=>none)++caps.map fun i=>(ρ[i]?).join)) (fun _ _ _ _ hk q=>qg C.mono hk q) (fun vs st2 k m2 H2 D ys e2 r2 Dm hD0 hD ry=>?_) z.2;have hD1:H D=none:=by
     cases q:H D with
     | none=>rfl
     | some o =>
      by_cases hm:D∈m
      ·exact absurd ((e1.trans e2).pre.subset hm) Dm
      ·exact absurd hD0 (e1.ne hm q)
    exact k _ _ _ ((e1.trans e2).addD hD1) (r2.addD Dm hD ry) (R.last r2.len)
   ·intro C' D H' s' m' I' ns fp F;refine⟨m',ns,fun h' hs'=>?_⟩;exact⟨.ref D,H',I'.turned (t':=s'.toks) (fun b o hb e=>hs'.extBut b o hb e) fp.1 fp.2.1 fp.2.2.2.1 fp.2.2.2.2.1 fp.2.2.2.2.2,rfl,F⟩
 | .compK _ _ _ _ _ _ _,X,c,C,x,h=>by rintro pins s σ H Q I ⟨m,ρ,st,rf,rh,w⟩;exact False.elim w
 | .compD _ _ _ _ _ _ _ _,X,c,C,x,h=>by rintro pins s σ H Q I ⟨m,ρ,st,rf,rh,w⟩;exact False.elim w
 | .dct2 _ _,X,c,C,x,h=>by rintro pins s σ H Q I ⟨m,ρ,st,rf,rh,w⟩;exact False.elim w
 | .dcl _,X,c,C,x,h=>by rintro pins s σ H Q I ⟨m,ρ,st,rf,rh,w⟩;exact False.elim w
 | .eqd _ _ _,X,c,C,x,h=>by rintro pins s σ H Q I ⟨m,ρ,st,rf,rh,w⟩;exact False.elim w
 | .tmp a,X,c,C,x,h=>by
  have h:aB c a x=true:=h;rintro pins s σ H Q I ⟨m,ρ,st,rf,rh,w⟩
  skip
  refine aT a C x h pins s σ H Q I ⟨m,ρ,st,rf,rh,ae C.mono a (fun v st1 k m1 H1 x1 e1 r1 r2=>?_) w⟩;obtain⟨st2,q,e2,r3,r4⟩:=pS rh e1 r1 r2 k;exact q m H1 x1 e2 r3 r4
 | .dget _ _,X,c,C,x,h=>by rintro pins s σ H Q I ⟨m,ρ,st,rf,rh,w⟩;exact False.elim w
 | .dcp _,X,c,C,x,h=>by rintro pins s σ H Q I ⟨m,ρ,st,rf,rh,w⟩;exact False.elim w
 | .clr _,X,c,C,x,h=>by rintro pins s σ H Q I ⟨m,ρ,st,rf,rh,w⟩;exact False.elim w
 | .sset _,X,c,C,x,h=>by rintro pins s σ H Q I ⟨m,ρ,st,rf,rh,w⟩;exact False.elim w
 | .jrev a,X,c,C,x,h=>by
  replace h:=aD h;obtain⟨g,xs,p,rfl,h⟩:=h;replace h:=iY h;obtain⟨y,n,p2,rfl,h⟩:=h;replace h:=kG h;obtain⟨j,kk,p3,rfl,h⟩:=h;replace h:=bj h;obtain⟨l,rfl,h⟩:=h;replace h:=gu h;obtain⟨u,r,p4,rfl,h⟩:=h;replace h:=Aq h;obtain⟨z,p5,rfl,h⟩:=h;replace h:=uB h;obtain⟨z1,p6,rfl,h⟩:=h;replace h:=tL h;obtain⟨i,k7,p7,rfl,h⟩:=h
  ·simp only[Bool.and_eq_true,beq_iff_eq] at h;obtain⟨⟨⟨⟨h1,h2⟩,h3⟩,h4⟩,h5⟩:=h;subst h1 h3 h4;exact HZ C (by rw[h2];simp) (aT a C _ h5)
 | .pcall i e,X,c,C,x,h=>by
  have hh:=(QB _ _).mp h;have hpc:=hh.1;replace h:=hh.2;replace h:=aD h;obtain⟨g,xs,p,rfl,h⟩:=h;replace h:=ai h;obtain⟨y,p2,rfl,h⟩:=h;replace h:=bj h;obtain⟨l,rfl,h⟩:=h
  ·simp only[Bool.and_eq_true,beq_iff_eq] at h;obtain⟨⟨⟨h1,h2⟩,h3⟩,h4⟩:=h;exact xu C hpc h1 h2 h3 (aT e C _ h4)
 | .hm e be caps,X,c,C,x,h=>by
  replace h:=gJ h;obtain⟨k,hk,h⟩:=h;replace h:=aD h;obtain⟨g,xs,p,rfl,h⟩:=h;replace h:=ai h;obtain⟨y,p2,rfl,h⟩:=h;replace h:=g_ h;obtain⟨l,r,rfl,h⟩:=h;replace h:=C7 h;obtain⟨as,b,sc,pl,rfl,h⟩:=h;replace h:=CV h;obtain⟨a,rfl,h⟩:=h
  ·simp only[Bool.and_eq_true,beq_iff_eq] at h;obtain⟨⟨⟨⟨⟨h1,h2⟩,h3⟩,h4⟩,h5⟩,h6⟩:=h;exact Nh C hk h1 h2 h3 h4 (aT e C _ h5) fun C'=>aT be C' _ h6
 | .smx k a b,X,c,C,x,h=>by replace h:=aD h;obtain⟨g,xs,p,rfl,h⟩:=h;replace h:=iY h;obtain⟨u,n,p2,rfl,h⟩:=h;replace h:=bj h;obtain⟨l,rfl,h⟩:=h;rw[QB,QB,QB,QB,QB] at h;obtain⟨⟨⟨⟨⟨h1,h2⟩,h3⟩,h4⟩,h5⟩,h6⟩:=h;obtain rfl:=beq_iff_eq.mp h1;exact MF C h2 h3 h4 (aT a C _ h5) (aT b C _ h6)
 | .part a y,X,c,C,x,h=>by
  replace h:=aD h;obtain⟨g,xs,p,rfl,h⟩:=h;replace h:=iY h;obtain⟨u,n,p2,rfl,h⟩:=h;replace h:=bj h;obtain⟨l,rfl,h⟩:=h;replace h:=kG h;obtain⟨j,kk,p3,rfl,h⟩:=h
  ·simp only[Bool.and_eq_true,beq_iff_eq,Bool.not_eq_true'] at h;obtain⟨⟨⟨⟨⟨h1,h2⟩,h3⟩,h4⟩,h5⟩,h6⟩:=h;subst h1 h3;exact IE C (by rw[h2];simp) h4 h5 (aT a C _ h6)
theorem kZ:∀(es:Es) {X:Cx}{c:Cfg} (C:COk X c Γ) (xs:List Expr),eG c es xs=true->PA X xs (TAx X.K (cC Γ es))
 | .nil,X,c,C,xs,h=>by
  have h:xs.isEmpty=true:=h;cases xs with
  | nil =>
   rintro pos pins s σ H Q I ⟨m,ρ,st,rf,rh,w⟩
   skip
   exact eg pos pins s σ H Q I (w m H [] (Ext.refl _ _ _) rh (Rs_nil.mpr rfl))
  | cons x xs=>cases h
 | .cons e es,X,c,C,xs,h=>by
  replace h:=aC h;obtain⟨y,ys,rfl,h⟩:=h
  ·simp only[Bool.and_eq_true] at h;obtain⟨⟨h1,h2⟩,h3⟩:=h;rintro pos pins s σ H Q I ⟨m,ρ,st,rf,rh,w⟩
   skip
   exact pac (aT e C _ h2) (kZ es C _ h3) h1 pos pins s σ H Q I ⟨m,ρ,st,rf,rh,ae C.mono e (fun v st1 k m1 H1 x1 e1 r1 r2=>⟨m1,ρ,st1,rf.mono e1,r1,
    aA C.mono es (fun us st2 k2 m2 H2 ys e2 r3 r4=>k2 m2 H2 _ (e1.trans e2) r3 (Rs_cons'.mpr ⟨r2.mono e2,r4⟩)) k⟩) w⟩
theorem O6:∀(o:O) {X:Cx}{c:Cfg} (C:COk X c Γ) (x:Option Expr),L6 c o x=true->PO X x (fun σ H Q=>∃m ρ st,RF X.K m H ρ σ/\RH X.K m H st/\wpO Γ o ρ st fun v st'=>∀m' H',Ext X.K m H m' H'->RH X.K m' H' st'->Q v H')
 | .no,X,c,C,x,h=>by
  have h:x.isNone=true:=h;cases x with
  | none =>
   rintro pins s σ H Q I ⟨m,ρ,st,rf,rh,w⟩
   skip
   exact Io pins s σ H Q I (w m H (Ext.refl _ _ _) rh)
  | some y=>cases h
 | .yes e,X,c,C,x,h=>by
  replace h:=gJ h;obtain⟨y,rfl,h⟩:=h
  ·rintro pins s σ H Q I ⟨m,ρ,st,rf,rh,w⟩
   skip
   refine IS (aT e C _ h) pins s σ H Q I ⟨m,ρ,st,rf,rh,ae C.mono e (fun v st1 k m1 H1 x1 e1 r1 r2=>?_) w⟩;obtain⟨i,rfl,k⟩:=k;rw[R_int] at r2;exact⟨i,r2,k m1 H1 e1 r1⟩
theorem qF:∀(e:E) {X:Cx}{c:Cfg} (C:COk X c Γ) (x:Expr),zF c e x=true->PT X x (TTx X.K (wpT Γ e))
 | .not a,X,c,C,x,h=>by
  replace h:=tO h;obtain⟨y,p,rfl,h⟩:=h
  ·rintro pins s σ H Q I ⟨m,ρ,st,rf,rh,w⟩
   skip
   exact Lk (qF a C _ h) pins s σ H Q I ⟨m,ρ,st,rf,rh,aP C.mono a (fun k st1 z m1 H1 e1 r1=>z m1 H1 e1 r1) w⟩
 | .bop true es,X,c,C,x,h=>by
  replace h:=kj h;obtain⟨o,xs,p,rfl,h⟩:=h
  ·simp only[Bool.and_eq_true,beq_iff_eq,Bool.not_eq_true'] at h;obtain⟨⟨h1,h2⟩,h3⟩:=h;subst h1;rintro pins s σ H Q I ⟨m,ρ,st,rf,rh,w⟩
   skip
   exact(KR es C _ _ h3 h2).pt pins s σ H Q I ⟨m,ρ,st,rf,rh,w⟩
 | .bop false es,X,c,C,x,h=>by
  replace h:=kj h;obtain⟨o,xs,p,rfl,h⟩:=h
  ·simp only[Bool.and_eq_true,beq_iff_eq,Bool.not_eq_true'] at h;obtain⟨⟨h1,h2⟩,h3⟩:=h;subst h1;rintro pins s σ H Q I ⟨m,ρ,st,rf,rh,w⟩
   skip
   exact(Ju es C _ _ h3 h2).pt pins s σ H Q I ⟨m,ρ,st,rf,rh,w⟩
 | .cmp op a b,X,c,C,x,h=>by
  replace h:=tU h;obtain⟨l,o,r,p,rfl,h⟩:=h
  ·simp only[Bool.and_eq_true,beq_iff_eq,Bool.not_eq_true',beq_eq_false_iff_ne] at h;obtain⟨⟨⟨h1,n1⟩,h2⟩,h3⟩:=h;subst h1;rintro pins s σ H Q I ⟨m,ρ,st,rf,rh,w⟩
   skip
   refine Ih (E1 C.room.units _) (aT a C _ h2) (aT b C _ h3) n1 pins s σ H Q I ⟨m,ρ,st,rf,rh,ae C.mono a (fun v st1 k m1 H1 x1 e1 r1 r2=>⟨m1,ρ,st1,rf.mono e1,r1,
    ae C.mono b (fun u st2 k2 m2 H2 y2 e2 r3 r4=>⟨m2,st2,v,u,r3,r2.mono e2,r4,ki (fun _ _ q=>?_) k2⟩) k⟩) w⟩
   obtain⟨k,rfl,q⟩:=q;intro m' H' y e3 r5 r6;rw[R_bl] at r6;exact⟨k,r6,q m' H' ((e1.trans e2).trans e3) r5⟩
 | .var i,X,c,C,x,h=>by
  replace h:=ai h;obtain⟨y,p,rfl,h⟩:=h
  ·rintro pins s σ H Q I ⟨m,ρ,st,rf,rh,w⟩
   skip
   refine gH (Dr C h) (fun _=>rfl) pins s σ H Q I ⟨m,ρ,st,rf,rh,?_⟩;obtain⟨v,e,w⟩:=m_ w;exact wa e fun m' H' y e1 r1 r2=>uH ⟨m',st,v,r1,r2,bJ (fun _ _ q=>q.ext e1) w⟩
 | .call f es,X,c,C,x,h=>by
  replace h:=aD h;obtain⟨g,xs,p,rfl,h⟩:=h;replace h:=ai h;obtain⟨y,p2,rfl,h⟩:=h
  ·simp only[Bool.and_eq_true] at h;obtain⟨⟨h1,h2⟩,h3⟩:=h;rintro pins s σ H Q I ⟨m,ρ,st,rf,rh,w⟩
   skip
   exact gH (yJ C h1 h2 h3 (kZ es C _ h3)) (fun _=>rfl) pins s σ H Q I ⟨m,ρ,st,rf,rh,aA C.mono es (fun vs st1 k=>C.mono _ _ _ _ _ (fun v st2 k2 m' H' y e1 r1 r2=>uH ⟨m',st2,v,r1,r2,bJ (fun _ _ q=>q.ext e1) k2⟩) k) w⟩
 | .blt b es,X,c,C,x,h=>by
  replace h:=aD h;obtain⟨g,xs,p,rfl,h⟩:=h;replace h:=ai h;obtain⟨y,p2,rfl,h⟩:=h
  ·simp only[Bool.and_eq_true,beq_iff_eq,Bool.not_eq_true'] at h;obtain⟨⟨⟨⟨h1,h2⟩,h3⟩,h4⟩,h5⟩:=h;rintro pins s σ H Q I ⟨m,ρ,st,rf,rh,w⟩
   skip
   exact gH (xk C h1 h2 h3 h4 (kZ es C _ h5)) (fun _=>rfl) pins s σ H Q I ⟨m,ρ,st,rf,rh,aA C.mono es (fun vs st1 k=>kh (fun v st2 k2 m' H' y e1 r1 r2=>uH ⟨m',st2,v,r1,r2,bJ (fun _ _ q=>q.ext e1) k2⟩) k) w⟩
 | .inst a t,X,c,C,x,h=>by
  replace h:=aD h;obtain⟨g,xs,p,rfl,h⟩:=h;replace h:=ai h;obtain⟨y,p2,rfl,h⟩:=h;replace h:=g_ h;obtain⟨l,r,rfl,h⟩:=h;replace h:=ai h;obtain⟨z,p3,rfl,h⟩:=h
  ·rw[QB] at h;rintro pins s σ H Q I ⟨m,ρ,st,rf,rh,w⟩
   skip
   refine gH (AC C h.1 (aT a C _ h.2)) (fun _=>rfl) pins s σ H Q I ⟨m,ρ,st,rf,rh,?_⟩
   skip
   refine ae C.mono a (fun v st1 k=>?_) w;obtain⟨n,e,k⟩:=k;refine⟨n,e,fun m' H' y e1 r1 r2=>?_⟩;rw[R_bl] at r2;subst r2;exact⟨_,rfl,k m' H' e1 r1⟩
 | .tmp a,X,c,C,x,h=>by
  have h:(zu x && aB c a x)=true:=h;rw[QB] at h;rintro pins s σ H Q I ⟨m,ρ,st,rf,rh,w⟩
  skip
  have q:=aT a C x h.2;refine gH q (zm h.1 X.env) pins s σ H Q I ⟨m,ρ,st,rf,rh,ae C.mono a (fun v st1 k m1 H1 x1 e1 r1 r2=>?_) w⟩;obtain⟨st2,q,e2,r3,r4⟩:=pS rh e1 r1 r2 k;exact uH ⟨m,st2,v,r3,r4,bJ (fun _ _ q=>q.ext e2) q⟩
 | .ix a b,X,c,C,x,h=>by
  replace h:=gu h;obtain⟨l,r,p,rfl,h⟩:=h
  ·simp only[Bool.and_eq_true] at h;obtain⟨⟨h1,h2⟩,h3⟩:=h;rintro pins s σ H Q I ⟨m,ρ,st,rf,rh,w⟩
   skip
   refine gH (GI (JW C.room.units) (aT a C _ h2) (aT b C _ h3) h1) (fun _=>rfl) pins s σ H Q I ⟨m,ρ,st,rf,rh,ae C.mono a (fun v st1 k m1 H1 x1 e1 r1 r2=>⟨m1,ρ,st1,rf.mono e1,r1,
    ae C.mono b (fun u st2 k2 m2 H2 y2 e2 r3 r4=>⟨m2,st2,v,u,r3,r2.mono e2,r4,mL (fun z st3 q m3 H3 y3 e3 r5 r6=>?_) k2⟩) k⟩) w⟩
   exact uH ⟨m3,st3,z,r5,r6,bJ (fun _ _ q=>q.ext ((e1.trans e2).trans e3)) q⟩
 | .bl _,X,c,C,x,h=>by rintro pins s σ H Q I ⟨m,ρ,st,rf,rh,w⟩;exact False.elim w
 | .int _,X,c,C,x,h=>by rintro pins s σ H Q I ⟨m,ρ,st,rf,rh,w⟩;exact False.elim w
 | .non,X,c,C,x,h=>by rintro pins s σ H Q I ⟨m,ρ,st,rf,rh,w⟩;exact False.elim w
 | .str _,X,c,C,x,h=>by rintro pins s σ H Q I ⟨m,ρ,st,rf,rh,w⟩;exact False.elim w
 | .gv _ _,X,c,C,x,h=>by rintro pins s σ H Q I ⟨m,ρ,st,rf,rh,w⟩;exact False.elim w
 | .tup _,X,c,C,x,h=>by rintro pins s σ H Q I ⟨m,ρ,st,rf,rh,w⟩;exact False.elim w
 | .lst _,X,c,C,x,h=>by rintro pins s σ H Q I ⟨m,ρ,st,rf,rh,w⟩;exact False.elim w
 | .dct0,X,c,C,x,h=>by rintro pins s σ H Q I ⟨m,ρ,st,rf,rh,w⟩;exact False.elim w
 | .bad,X,c,C,x,h=>by rintro pins s σ H Q I ⟨m,ρ,st,rf,rh,w⟩;exact False.elim w
 | .dct1 _ _,X,c,C,x,h=>by rintro pins s σ H Q I ⟨m,ρ,st,rf,rh,w⟩;exact False.elim w
 | .bin _ _ _,X,c,C,x,h=>by rintro pins s σ H Q I ⟨m,ρ,st,rf,rh,w⟩;exact False.elim w
 | .neg _,X,c,C,x,h=>by rintro pins s σ H Q I ⟨m,ρ,st,rf,rh,w⟩;exact False.elim w
 | .ite _ _ _,X,c,C,x,h=>by rintro pins s σ H Q I ⟨m,ρ,st,rf,rh,w⟩;exact False.elim w
 | .sl _ _ _,X,c,C,x,h=>by rintro pins s σ H Q I ⟨m,ρ,st,rf,rh,w⟩;exact False.elim w
 | .met _ _ _,X,c,C,x,h=>by rintro pins s σ H Q I ⟨m,ρ,st,rf,rh,w⟩;exact False.elim w
 | .eqd _ _ _,X,c,C,x,h=>by rintro pins s σ H Q I ⟨m,ρ,st,rf,rh,w⟩;exact False.elim w
 | .compK _ _ _ _ _ _ _,X,c,C,x,h=>by rintro pins s σ H Q I ⟨m,ρ,st,rf,rh,w⟩;exact False.elim w
 | .compD _ _ _ _ _ _ _ _,X,c,C,x,h=>by rintro pins s σ H Q I ⟨m,ρ,st,rf,rh,w⟩;exact False.elim w
 | .dct2 _ _,X,c,C,x,h=>by rintro pins s σ H Q I ⟨m,ρ,st,rf,rh,w⟩;exact False.elim w
 | .dcl _,X,c,C,x,h=>by rintro pins s σ H Q I ⟨m,ρ,st,rf,rh,w⟩;exact False.elim w
 | .comp _ _ _ _ _ _,X,c,C,x,h=>by rintro pins s σ H Q I ⟨m,ρ,st,rf,rh,w⟩;exact False.elim w
 | .pcall i e,X,c,C,x,h=>by have hh:=(QB _ _).mp h;have hpc:=hh.1;replace h:=hh.2;replace h:=aD h;obtain⟨g,xs,p,rfl,h⟩:=h;replace h:=ai h;obtain⟨y,p2,rfl,h⟩:=h;replace h:=bj h;obtain⟨l,rfl,h⟩:=h;simp only[Bool.and_eq_true,beq_iff_eq] at h;obtain⟨⟨⟨h1,h2⟩,h3⟩,h4⟩:=h;rintro pins s σ H Q I ⟨m,ρ,st,rf,rh,a,ea,w⟩;exact gH (xu C hpc h1 h2 h3 (aT e C _ h4)) (fun _=>rfl) pins s σ H Q I ⟨m,ρ,st,rf,rh,a,ea,ae C.mono e (fun v st1 k=>C.mono _ _ _ _ _ (fun v st2 k2 m' H' y e1 r1 r2=>uH ⟨m',st2,v,r1,r2,bJ (fun _ _ q=>q.ext e1) k2⟩) k) w⟩
 | .hm _ _ _,X,c,C,x,h=>by rintro pins s σ H Q I ⟨m,ρ,st,rf,rh,w⟩;exact False.elim w
 | .jrev _,X,c,C,x,h=>by rintro pins s σ H Q I ⟨m,ρ,st,rf,rh,w⟩;exact False.elim w
 | .dget _ _,X,c,C,x,h=>by rintro pins s σ H Q I ⟨m,ρ,st,rf,rh,w⟩;exact False.elim w
 | .dcp _,X,c,C,x,h=>by rintro pins s σ H Q I ⟨m,ρ,st,rf,rh,w⟩;exact False.elim w
 | .clr _,X,c,C,x,h=>by rintro pins s σ H Q I ⟨m,ρ,st,rf,rh,w⟩;exact False.elim w
 | .sset _,X,c,C,x,h=>by rintro pins s σ H Q I ⟨m,ρ,st,rf,rh,w⟩;exact False.elim w
 | .smx _ _ _,X,c,C,x,h=>by rintro pins s σ H Q I ⟨m,ρ,st,rf,rh,w⟩;exact False.elim w
 | .part _ _,X,c,C,x,h=>by rintro pins s σ H Q I ⟨m,ρ,st,rf,rh,w⟩;exact False.elim w
theorem Jc:∀(es:Es) {X:Cx}{c:Cfg} (C:COk X c Γ) (xs:List Expr) (pos:Pos),eG c es xs=true->xs.isEmpty=false->PE X (.BoolOp .And xs pos) (TEx X.K (vR Γ es))
 | .nil,X,c,C,xs,pos,h,hn=>by have h:xs.isEmpty=true:=h;rw[h] at hn;cases hn
 | .cons e .nil,X,c,C,xs,pos,h,hn=>by
  replace h:=aC h;obtain⟨y,ys,rfl,h⟩:=h
  ·simp only[Bool.and_eq_true] at h;obtain⟨⟨h1,h2⟩,h3⟩:=h;have h3:ys.isEmpty=true:=h3;cases ys with
   | nil =>
    rintro pins s σ H Q I ⟨m,ρ,st,rf,rh,w⟩
    skip
    exact Gq (aT e C _ h2) pins s σ H Q I ⟨m,ρ,st,rf,rh,w⟩
   | cons _ _=>cases h3
 | .cons e (.cons e2 es),X,c,C,xs,pos,h,hn=>by
  replace h:=aC h;obtain⟨y,ys,rfl,h⟩:=h
  ·simp only[Bool.and_eq_true] at h;obtain⟨⟨h1,h2⟩,h3⟩:=h;cases ys with
   | nil=>exact Bool.noConfusion (show false=true from h3)
   | cons y2 ys =>
    rintro pins s σ H Q I ⟨m,ρ,st,rf,rh,w⟩
    skip
    refine Le (aT e C _ h2) (Jc (.cons e2 es) C (y2::ys) pos h3 rfl) pins s σ H Q I ⟨m,ρ,st,rf,rh,ae C.mono e (fun v st1 k m1 H1 x1 e1 r1 r2=>?_) w⟩;obtain⟨b,rfl,k⟩:=k;rw[R_bl] at r2;subst r2;refine⟨b,rfl,?_⟩;cases b with
    | true=>rw[QA rfl] at k |-;exact⟨m1,ρ,st1,rf.mono e1,r1,nQ C.mono _ (fun _ _ q=>q.ext e1) k⟩
    | false=>rw[QC P5] at k |-;exact(k.ext e1).here r1 (R_bl.mpr rfl)
theorem Kb:∀(es:Es) {X:Cx}{c:Cfg} (C:COk X c Γ) (xs:List Expr) (pos:Pos),eG c es xs=true->xs.isEmpty=false->PE X (.BoolOp .Or xs pos) (TEx X.K (vK Γ es))
 | .nil,X,c,C,xs,pos,h,hn=>by have h:xs.isEmpty=true:=h;rw[h] at hn;cases hn
 | .cons e .nil,X,c,C,xs,pos,h,hn=>by
  replace h:=aC h;obtain⟨y,ys,rfl,h⟩:=h
  ·simp only[Bool.and_eq_true] at h;obtain⟨⟨h1,h2⟩,h3⟩:=h;have h3:ys.isEmpty=true:=h3;cases ys with
   | nil =>
    rintro pins s σ H Q I ⟨m,ρ,st,rf,rh,w⟩
    skip
    exact Gq (aT e C _ h2) pins s σ H Q I ⟨m,ρ,st,rf,rh,w⟩
   | cons _ _=>cases h3
 | .cons e (.cons e2 es),X,c,C,xs,pos,h,hn=>by
  replace h:=aC h;obtain⟨y,ys,rfl,h⟩:=h
  ·simp only[Bool.and_eq_true] at h;obtain⟨⟨h1,h2⟩,h3⟩:=h;cases ys with
   | nil=>exact Bool.noConfusion (show false=true from h3)
   | cons y2 ys =>
    rintro pins s σ H Q I ⟨m,ρ,st,rf,rh,w⟩
    skip
    refine OG (aT e C _ h2) (Kb (.cons e2 es) C (y2::ys) pos h3 rfl) pins s σ H Q I ⟨m,ρ,st,rf,rh,ae C.mono e (fun v st1 k m1 H1 x1 e1 r1 r2=>?_) w⟩;obtain⟨b,rfl,k⟩:=k;rw[R_bl] at r2;subst r2;refine⟨b,rfl,?_⟩;cases b with
    | true=>rw[QA rfl] at k |-;exact(k.ext e1).here r1 (R_bl.mpr rfl)
    | false=>rw[QC P5] at k |-;exact⟨m1,ρ,st1,rf.mono e1,r1,oE C.mono _ (fun _ _ q=>q.ext e1) k⟩
theorem KR:∀(es:Es) {X:Cx}{c:Cfg} (C:COk X c Γ) (xs:List Expr) (pos:Pos),o6 c es xs=true->xs.isEmpty=false->PW X (.BoolOp .And xs pos) (TTx X.K (jU Γ es))
 | .nil,X,c,C,xs,pos,h,hn=>by have h:xs.isEmpty=true:=h;rw[h] at hn;cases hn
 | .cons e .nil,X,c,C,xs,pos,h,hn=>by
  replace h:=aC h;obtain⟨y,ys,rfl,h⟩:=h
  ·simp only[Bool.and_eq_true] at h;obtain⟨h2,h3⟩:=h;have h3:ys.isEmpty=true:=h3;cases ys with
   | nil =>
    rintro whole pins s σ H Q I ⟨m,ρ,st,rf,rh,w⟩
    skip
    exact HQ (qF e C _ h2) whole pins s σ H Q I ⟨m,ρ,st,rf,rh,w⟩
   | cons _ _=>cases h3
 | .cons e (.cons e2 es),X,c,C,xs,pos,h,hn=>by
  replace h:=aC h;obtain⟨y,ys,rfl,h⟩:=h
  ·simp only[Bool.and_eq_true] at h;obtain⟨h2,h3⟩:=h;cases ys with
   | nil=>exact Bool.noConfusion (show false=true from h3)
   | cons y2 ys =>
    rintro whole pins s σ H Q I ⟨m,ρ,st,rf,rh,w⟩
    skip
    refine LM (qF e C _ h2) (KR (.cons e2 es) C (y2::ys) pos h3 rfl) whole pins s σ H Q I ⟨m,ρ,st,rf,rh,aP C.mono e (fun b st1 k m1 H1 e1 r1=>?_) w⟩;cases b with
    | true=>rw[QA rfl] at k |-;exact⟨m1,ρ,st1,rf.mono e1,r1,cU C.mono _ (fun _ _ q=>q.ext e1) k⟩
    | false=>rw[QC P5] at k |-;exact k m1 H1 e1 r1
theorem Ju:∀(es:Es) {X:Cx}{c:Cfg} (C:COk X c Γ) (xs:List Expr) (pos:Pos),o6 c es xs=true->xs.isEmpty=false->PW X (.BoolOp .Or xs pos) (TTx X.K (uW Γ es))
 | .nil,X,c,C,xs,pos,h,hn=>by have h:xs.isEmpty=true:=h;rw[h] at hn;cases hn
 | .cons e .nil,X,c,C,xs,pos,h,hn=>by
  replace h:=aC h;obtain⟨y,ys,rfl,h⟩:=h
  ·simp only[Bool.and_eq_true] at h;obtain⟨h2,h3⟩:=h;have h3:ys.isEmpty=true:=h3;cases ys with
   | nil =>
    rintro whole pins s σ H Q I ⟨m,ρ,st,rf,rh,w⟩
    skip
    exact Mw (qF e C _ h2) whole pins s σ H Q I ⟨m,ρ,st,rf,rh,w⟩
   | cons _ _=>cases h3
 | .cons e (.cons e2 es),X,c,C,xs,pos,h,hn=>by
  replace h:=aC h;obtain⟨y,ys,rfl,h⟩:=h
  ·simp only[Bool.and_eq_true] at h;obtain⟨h2,h3⟩:=h;cases ys with
   | nil=>exact Bool.noConfusion (show false=true from h3)
   | cons y2 ys =>
    rintro whole pins s σ H Q I ⟨m,ρ,st,rf,rh,w⟩
    skip
    refine N1 (qF e C _ h2) (Ju (.cons e2 es) C (y2::ys) pos h3 rfl) whole pins s σ H Q I ⟨m,ρ,st,rf,rh,aP C.mono e (fun b st1 k m1 H1 e1 r1=>?_) w⟩;cases b with
    | true=>rw[QA rfl] at k |-;exact k m1 H1 e1 r1
    | false=>rw[QC P5] at k |-;exact⟨m1,ρ,st1,rf.mono e1,r1,nL C.mono _ (fun _ _ q=>q.ext e1) k⟩
theorem rV:∀(t:Tg) {X:Cx}{c:Cfg} (C:COk X c Γ) (x:Expr),j6 c t x=true->PG X x (TGx X.K (eN Γ t))
 | .name i,X,c,C,x,h=>by
  replace h:=ai h;obtain⟨y,p,rfl,h⟩:=h
  ·simp only[Bool.and_eq_true,beq_iff_eq] at h;obtain⟨h1,h2⟩:=C.locx h.2;rintro pins s σ H v u Q I r ⟨m,ρ,st,p,rf,rh,hr,w⟩
   skip
   exact Ir C.ndX (by rw[C.N];exact h.1) h1 h2 pins s σ H v u Q I r (w.here rh (rf.set i hr))
 | .tup ts,X,c,C,x,h=>by
  replace h:=b8 h;obtain⟨xs,k,p,rfl,h⟩:=h
  ·rintro pins s σ H v u Q I r ⟨m,ρ,st,p,rf,rh,hr,w⟩
   skip
   obtain⟨vs,rfl,hl,w⟩:=w;rw[R_tup] at hr;obtain⟨a,ys,rfl,g,r2⟩:=hr;obtain⟨l1,l2⟩:=sm (env:=X.env) h;refine Mh C.calm (D6 ts C _ h) l1 l2 pins s σ H _ u Q I r ⟨a,ys,rfl,g,?_,m,ρ,st,vs,rf,rh,r2,w⟩;rw[<-r2.len];exact hl
 | .ltup ts,X,c,C,x,h=>by rintro pins s σ H v u Q I r ⟨m,ρ,st,p,rf,rh,hr,w⟩;exact False.elim w
 | .sub o i,X,c,C,x,h=>by
  replace h:=gu h;obtain⟨l,rr,pos,rfl,h⟩:=h
  ·simp only[Bool.and_eq_true] at h;obtain⟨⟨h1,h2⟩,h3⟩:=h;rintro pins s σ H v u Q I r ⟨m,ρ,st,p,rf,rh,hr,w⟩
   skip
   refine MG (aT o C _ h2) (aT i C _ h3) (Ls C.room.units) (by cases rr <;> first|(intro _;rfl)|cases h1) pins s σ H v u Q I r ⟨m,ρ,st,rf,rh,ae C.mono o (fun a st1 k m1 H1 x1 e1 r1 r2=>⟨m1,ρ,st1,rf.mono e1,r1,
    ae C.mono i (fun b st2 k2 m2 H2 y2 e2 r3 r4=>⟨m2,st2,a,b,p,r3,r2.mono e2,r4,(hr.mono e1).mono e2,uD (fun st3 q H3 e3 r5=>?_) k2⟩) k⟩) w⟩
   exact q m2 H3 σ ((e1.trans e2).trans e3) r5 (((rf.mono e1).mono e2).mono e3)
theorem D6:∀(ts:Tgs) {X:Cx}{c:Cfg} (C:COk X c Γ) (xs:List Expr),qM c ts xs=true->PGs X xs (PY X.K (jT Γ ts))
 | .nil,X,c,C,xs,h=>by
  have h:xs.isEmpty=true:=h;cases xs with
  | nil =>
   rintro pins s σ H v u Q I r ⟨m,ρ,st,p,rf,rh,hr,w⟩
   skip
   obtain⟨rfl,w⟩:=w;rw[Rs_nil] at hr;exact He pins s σ H v u Q I r ⟨hr,w.here rh rf⟩
  | cons _ _=>cases h
 | .cons t ts,X,c,C,xs,h=>by
  replace h:=aC h;obtain⟨y,ys,rfl,h⟩:=h
  ·simp only[Bool.and_eq_true] at h;obtain⟨⟨h1,h2⟩,h3⟩:=h;rintro pins s σ H v u Q I r ⟨m,ρ,st,p,rf,rh,hr,w⟩
   skip
   obtain⟨x,q,rfl,w⟩:=w;rw[bh] at hr;obtain⟨y,ys,rfl,g1,g2⟩:=hr;refine Fb (rV t C _ h2) (D6 ts C _ h3) (by rw[lj h1];rfl) pins s σ H _ u Q I r ⟨y,ys,rfl,m,ρ,st,x,rf,rh,g1,bu C.mono t (fun ρ1 st1 k m1 H1 σ1 e1 r1 r2=>?_) w⟩;exact⟨m1,ρ1,st1,q,r2,r1,g2.mono e1,i8 C.mono ts (fun _ _ q=>q.ext e1) k⟩
theorem BI:∀(it:It) {X:Cx}{c:Cfg} (C:COk X c Γ) {tg:Expr} (x:Expr),Ay it tg=true->By c it x=true->PI X tg x (TIx X.K (fS Γ it))
 | .seq e,X,c,C,tg,x,_,h=>by
  have h:(gQ x && aB c e x)=true:=h;rw[QB] at h;rintro pins s σ H Rr I ⟨m,ρ,st,rf,rh,w⟩
  skip
  refine Mr (aT e C x h.2) pins s σ H Rr I ⟨m,ρ,st,rf,rh,ae C.mono e (fun v st1 k m1 H1 x1 e1 r1 r2=>?_) w⟩;obtain⟨xs,es,k⟩:=k;cases v with
  | tup ys =>cases es;rw[R_tup] at r2;obtain⟨a,zs,rfl,g,r3⟩:=r2;exact⟨a,rfl,.inr ⟨⟨zs,g⟩,k m1 H1 _ e1 r1 (D8 g r3)⟩⟩
  | rdl ys =>cases es;rw[gX] at r2;obtain⟨a,zs,rfl,g,r3⟩:=r2;exact⟨a,rfl,.inl ⟨⟨zs,g.sq⟩,k m1 H1 _ e1 r1 (F4 g r3)⟩⟩
  | ref n =>
   unfold bN bG at es;simp only at es;split at es
   ·cases es;rename_i q;obtain⟨a,zs,rfl,ea,g,r3⟩:=r1.lst q r2;exact⟨a,rfl,.inl ⟨⟨zs,SqL.of g⟩,k m1 H1 _ e1 r1 (Cg r1 q ea)⟩⟩
   ·cases es
  | _=>cases es
 | .range1 a,X,c,C,tg,x,_,h=>by
  replace h:=aD h;obtain⟨g,xs,p,rfl,h⟩:=h;replace h:=ai h;obtain⟨y,p2,rfl,h⟩:=h;replace h:=bj h;obtain⟨l,rfl,h⟩:=h
  ·simp only[Bool.and_eq_true,beq_iff_eq] at h;obtain⟨⟨⟨h1,h2⟩,h3⟩,h4⟩:=h;subst h1;obtain⟨g1,g2,g3,g4⟩:=C.bltx h2;rintro pins s σ H Rr I ⟨m,ρ,st,rf,rh,w⟩
   skip
   have hA:PA X [_] (fj (TEx X.K (wpE Γ a)) om):=pac (aT a C _ h4) eg h3;refine Cq g1 g4 hA (av h3) pins s σ H Rr I ⟨m,ρ,st,rf,rh,ae C.mono a (fun v st1 k m1 H1 x1 e1 r1 r2=>?_) w⟩;obtain⟨j,rfl,k1,k2,k⟩:=k;rw[R_int] at r2;subst r2;exact⟨j,rfl,k1,k2,k m1 H1 _ e1 r1 rN⟩
 | .range2 a b,X,c,C,tg,x,_,h=>by
  replace h:=aD h;obtain⟨g,xs,p,rfl,h⟩:=h;replace h:=ai h;obtain⟨y,p2,rfl,h⟩:=h;replace h:=g_ h;obtain⟨l,r,rfl,h⟩:=h
  ·simp only[Bool.and_eq_true,beq_iff_eq] at h;obtain⟨⟨⟨⟨⟨h1,h2⟩,h3⟩,h3'⟩,h4⟩,h5⟩:=h;subst h1;obtain⟨g1,g2,g3,g4⟩:=C.bltx h2;rintro pins s σ H Rr I ⟨m,ρ,st,rf,rh,w⟩
   skip
   have hA:PA X [_,_] (fj (TEx X.K (wpE Γ a)) (fj (TEx X.K (wpE Γ b)) om)):=pac (aT a C _ h4) (pac (aT b C _ h5) eg h3') h3;refine Dc g1 g4 hA (by rw[av h3,av h3'];rfl) (av h3') pins s σ H Rr I ⟨m,ρ,st,rf,rh,ae C.mono a (fun v st1 k m1 H1 x1 e1 r1 r2=>⟨m1,ρ,st1,rf.mono e1,r1,
    ae C.mono b (fun u st2 k2 m2 H2 y2 e2 r3 r4=>?_) k⟩) w⟩
   obtain⟨i,j,rfl,rfl,k1,k⟩:=k2;rw[R_int] at r2 r4;subst r2 r4;exact⟨i,j,rfl,k1,k m2 H2 _ (e1.trans e2) r3 rN⟩
 | .zip a b,X,c,C,tg,x,ht,h=>by
  replace h:=aD h;obtain⟨g,xs,p,rfl,h⟩:=h;replace h:=ai h;obtain⟨y,p2,rfl,h⟩:=h;replace h:=g_ h;obtain⟨l,r,rfl,h⟩:=h
  ·simp only[Bool.and_eq_true,beq_iff_eq] at h;obtain⟨⟨⟨⟨⟨h1,h2⟩,h3⟩,h3'⟩,h4⟩,h5⟩:=h;subst h1;obtain⟨g1,g2,g3,g4⟩:=C.bltx h2;cases tg with
   | Tuple elts kt pt =>
    rintro pins s σ H Rr I ⟨m,ρ,st,rf,rh,w⟩
    skip
    have hA:PA X [_,_] (fj (TEx X.K (wpE Γ a)) (fj (TEx X.K (wpE Γ b)) om)):=pac (aT a C _ h4) (pac (aT b C _ h5) eg h3') h3;refine Mm g1 g4 hA (by rw[av h3,av h3'];rfl) (av h3') pins s σ H Rr I ⟨m,ρ,st,rf,rh,ae C.mono a (fun v st1 k m1 H1 x1 e1 r1 r2=>⟨m1,ρ,st1,rf.mono e1,r1,
     ae C.mono b (fun u st2 k2 m2 H2 y2 e2 r3 r4=>?_) k⟩) w⟩
    obtain⟨xs,ys,q1,q2,k⟩:=k2;obtain⟨a1,rfl,w1,s1⟩:=KW r3 (r2.mono e2) q1;obtain⟨a2,rfl,w2,s2⟩:=KW r3 r4 q2;refine⟨a1,a2,rfl,fun e he=>?_,k m2 H2 _ (e1.trans e2) r3 (DB w1 w2)⟩;simp only[List.mem_cons,List.not_mem_nil,or_false] at he;rcases he with rfl|rfl
    ·exact s1
    ·exact s2
   | _=>cases ht
 | .zip3 _ _ _,X,c,C,tg,x,ht,h=>by rintro pins s σ H Rr I ⟨m,ρ,st,rf,rh,w⟩;exact False.elim w
 | .enum a,X,c,C,tg,x,ht,h=>by
  replace h:=aD h;obtain⟨g,xs,p,rfl,h⟩:=h;replace h:=ai h;obtain⟨y,p2,rfl,h⟩:=h;replace h:=bj h;obtain⟨l,rfl,h⟩:=h
  ·simp only[Bool.and_eq_true,beq_iff_eq] at h;obtain⟨⟨⟨h1,h2⟩,h3⟩,h4⟩:=h;subst h1;obtain⟨g1,g2,g3,g4⟩:=C.bltx h2;cases tg with
   | Tuple elts kt pt =>
    rintro pins s σ H Rr I ⟨m,ρ,st,rf,rh,w⟩
    skip
    have hA:PA X [_] (fj (TEx X.K (wpE Γ a)) om):=pac (aT a C _ h4) eg h3;refine HU g1 g4 hA (av h3) pins s σ H Rr I ⟨m,ρ,st,rf,rh,ae C.mono a (fun v st1 k m1 H1 x1 e1 r1 r2=>?_) w⟩;obtain⟨xs,rfl,k⟩:=k;rw[R_tup] at r2;obtain⟨a1,zs,rfl,g,r3⟩:=r2;exact⟨a1,rfl,⟨zs,g⟩,k m1 H1 _ e1 r1 (CB g r3)⟩
   | _=>cases ht
 | .chars e,X,c,C,tg,x,_,h=>by have h:(gQ x && aB c e x)=true:=h;rw[QB] at h;rintro pins s σ H Rr I ⟨m,ρ,st,rf,rh,w⟩;refine DN (aT e C x h.2) pins s σ H Rr I ⟨m,ρ,st,rf,rh,ae C.mono e (fun v st1 k m1 H1 x1 e1 r1 r2=>?_) w⟩;obtain⟨z,rfl,k⟩:=k;rw[R_str] at r2;exact⟨z,r2,k m1 H1 _ e1 r1 yY⟩
 | .range3 a b d,X,c,C,tg,x,_,h=>by
  replace h:=aD h;obtain⟨g,xs,p,rfl,h⟩:=h;replace h:=ai h;obtain⟨y,p2,rfl,h⟩:=h;replace h:=IP h;obtain⟨l,r,u,rfl,h⟩:=h
  ·simp only[Bool.and_eq_true,beq_iff_eq] at h;obtain⟨⟨⟨⟨⟨⟨⟨h1,h2⟩,h3⟩,h3'⟩,h3''⟩,h4⟩,h5⟩,h6⟩:=h;subst h1;obtain⟨g1,g2,g3,g4⟩:=C.bltx h2;rintro pins s σ H Rr I ⟨m,ρ,st,rf,rh,w⟩;have hA:PA X [_,_,_] (fj (TEx X.K (wpE Γ a)) (fj (TEx X.K (wpE Γ b)) (fj (TEx X.K (wpE Γ d)) om))):=pac (aT a C _ h4) (pac (aT b C _ h5) (pac (aT d C _ h6) eg h3'') h3') h3;refine CU g1 g4 hA (by rw[av h3,av h3',av h3''];rfl) (by rw[av h3',av h3''];rfl) pins s σ H Rr I ⟨m,ρ,st,rf,rh,ae C.mono a (fun v st1 k m1 H1 x1 e1 r1 r2=>⟨m1,ρ,st1,rf.mono e1,r1,
    ae C.mono b (fun u st2 k2 m2 H2 y2 e2 r3 r4=>⟨m2,ρ,st2,(rf.mono e1).mono e2,r3,ae C.mono d (fun w st3 k3 m3 H3 y3 e3 r5 r6=>?_) k2⟩) k⟩) w⟩
   obtain⟨i,j,q,rfl,rfl,rfl,k1,k⟩:=k3;rw[R_int] at r2 r4 r6;subst r2 r4 r6;exact⟨i,j,q,rfl,k1,k m3 H3 _ ((e1.trans e2).trans e3) r5 GN⟩
theorem yO:∀(es:Es) {X:Cx}{c:Cfg} (C:COk X c Γ) (xs:List Expr),o6 c es xs=true->PTs X xs (TTx X.K (jU Γ es))
 | .nil,X,c,C,xs,h=>by
  have h:xs.isEmpty=true:=h;cases xs with
  | nil =>
   rintro pins s σ H Q I ⟨m,ρ,st,rf,rh,w⟩
   skip
   exact BC pins s σ H Q I (w m H (Ext.refl _ _ _) rh)
  | cons _ _=>cases h
 | .cons e .nil,X,c,C,xs,h=>by
  replace h:=aC h;obtain⟨y,ys,rfl,h⟩:=h
  ·simp only[Bool.and_eq_true] at h;obtain⟨h2,h3⟩:=h;have h3:ys.isEmpty=true:=h3;cases ys with
   | nil =>
    rintro pins s σ H Q I ⟨m,ρ,st,rf,rh,w⟩
    skip
    refine yu (qF e C _ h2) BC pins s σ H Q I ⟨m,ρ,st,rf,rh,aP C.mono e (fun b st1 k m1 H1 e1 r1=>?_) w⟩;cases b with
    | true=>rw[QA rfl];exact k m1 H1 e1 r1
    | false=>rw[QC P5];exact k m1 H1 e1 r1
   | cons _ _=>cases h3
 | .cons e (.cons e2 es),X,c,C,xs,h=>by
  replace h:=aC h;obtain⟨y,ys,rfl,h⟩:=h
  ·simp only[Bool.and_eq_true] at h;obtain⟨h2,h3⟩:=h;rintro pins s σ H Q I ⟨m,ρ,st,rf,rh,w⟩
   skip
   refine yu (qF e C _ h2) (yO (.cons e2 es) C _ h3) pins s σ H Q I ⟨m,ρ,st,rf,rh,aP C.mono e (fun b st1 k m1 H1 e1 r1=>?_) w⟩;cases b with
   | true=>rw[QA rfl] at k |-;exact⟨m1,ρ,st1,rf.mono e1,r1,cU C.mono _ (fun _ _ q=>q.ext e1) k⟩
   | false=>rw[QC P5] at k |-;exact k m1 H1 e1 r1
end
end
end FW
namespace FW
open L2 HX
section
variable {X:Cx}{c:Cfg}{Γ:Nat->FSp}{tg:Expr}
noncomputable def AE (K:W.Frag)(m:List Addr)(H:Hp)(D:L2.Ends):aK:={ nx:=postF K m H D.nx,rt:=post K m H D.rt,bk:=postF K m H D.bk,ct:=postF K m H D.ct }
noncomputable def TSx (K:W.Frag)(w:Fr->AH->aK->Prop):TS:=fun D σ H=>∃m ρ st,RF K m H ρ σ/\RH K m H st/\w ρ st (AE K m H D)
theorem AE.ext {D:L2.Ends}(x:Ext K m H m1 H1):jt (AE K m H D) (AE K m1 H1 D) :=
 ⟨fun _ _ q=>q.ext x,fun _ _ q=>q.ext x,fun _ _ q=>q.ext x,fun _ _ q=>q.ext x⟩
theorem IR (G:aW Γ){D:L2.Ends}(h:TSx X.K (wpS Γ (.forS t it b)) D σ H):MN (TIx X.K (fS Γ it)) (TGx X.K (eN Γ t)) (TSx X.K (aw Γ b)) D σ H:=by
 obtain⟨m,ρ,st,rf,rh,w⟩:=h
 skip
 refine⟨m,ρ,st,rf,rh,cu G it (fun xs chk st1 k m1 H1 J e1 r1 W=>?_) w⟩;refine⟨fun i n σ' H'=>n+i=xs.length/\∃m' ρ' st',Ext X.K m1 H1 m' H'/\RH X.K m' H' st'/\RF X.K m' H' ρ' σ'/\vB chk (fun x ρ' st' D'=>eN Γ t x ρ' st' fun ρ2 st2=>aw Γ b ρ2 st2 D') (AE X.K m H D) (xs.drop i) ρ' st',
  ⟨xs.length,rfl,m1,ρ,st1,Ext.refl _ _ _,r1,rf.mono e1,by simpa using k⟩,?_⟩
 rintro i n σ' H' ⟨hn,m',ρ',st',x',rh',rf',k'⟩;cases q:xs.drop i with
 | nil =>
  rw[q] at k';have hi:i=xs.length:=by have:=Q0 List.length q;simp at this;omega
  subst hi;exact .inl ⟨W.stop m' H' st' x' rh' k'.1,k'.2 m' H' σ' (e1.trans x') rh' rf'⟩
 | cons v rest =>
  rw[q] at k';have hi:i<xs.length:=by have:=Q0 List.length q;simp at this;omega
  have ev:xs[i]?=some v:=by have:=Q0 List.head? q;rw[UY] at this;exact this
  have er:rest=xs.drop (i+1):=by have:=Q0 List.tail q;rw[U2] at this;exact this.symm
  subst er;obtain⟨kc,k'⟩:=k';obtain⟨go,yl⟩:=W.item i v m' H' st' x' rh' kc ev;refine .inr ⟨go,fun σ'' H''=>(n-1+(i+1)=xs.length/\∃m' ρ' st',Ext X.K m1 H1 m' H''/\RH X.K m' H'' st'/\RF X.K m' H'' ρ' σ''/\vB chk (fun x ρ' st' D'=>eN Γ t x ρ' st' fun ρ2 st2=>aw Γ b ρ2 st2 D') (AE X.K m H D) (xs.drop (i+1)) ρ' st'),fun σ'' H'' z=>⟨n-1,by omega,z⟩,fun y H2 hy=>?_⟩;obtain⟨x2,r2,rv⟩:=yl y H2 hy;refine⟨m',ρ',st',v,rf'.mono x2,r2,rv,bu G t (fun ρ3 st3 k3 m3 H3 σ3 x3 r3 f3=>?_) k'⟩;refine⟨m3,ρ3,st3,f3,r3,aR G b ?_ k3⟩;have xx:Ext X.K m H m3 H3:=((e1.trans x').trans x2).trans x3;refine⟨fun ρ4 st4 k4 m4 H4 σ4 x4 r4 f4=>⟨by omega,m4,ρ4,st4,((x'.trans x2).trans x3).trans x4,r4,f4,k4⟩,fun v4 st4 k4=>k4.ext xx,fun ρ4 st4 k4=>k4.ext xx,fun ρ4 st4 k4 m4 H4 σ4 x4 r4 f4=>⟨by omega,m4,ρ4,st4,((x'.trans x2).trans x3).trans x4,r4,f4,k4⟩⟩
theorem CG (G:aW Γ){D:L2.Ends}(h:TSx X.K (wpS Γ (.whileS cd b)) D σ H):Gk (TTx X.K (wpT Γ cd)) (TSx X.K (aw Γ b)) D σ H:=by
 obtain⟨m,ρ,st,rf,rh,w⟩:=h
 skip
 obtain⟨n0,w⟩:=w;refine⟨fun n σ' H'=>∃m' ρ' st',Ext X.K m H m' H'/\RH X.K m' H' st'/\RF X.K m' H' ρ' σ'/\gE (wpT Γ cd) (aw Γ b) (AE X.K m H D) n ρ' st',⟨n0,m,ρ,st,Ext.refl _ _ _,rh,rf,w⟩,?_⟩;rintro n σ' H' ⟨m',ρ',st',x',rh',rf',k'⟩;cases n with
 | zero=>exact k'.elim
 | succ n =>
  refine⟨m',ρ',st',rf',rh',aP G cd (fun b st1 k m1 H1 x1 r1=>?_) k'⟩;cases b with
  | false=>rw[QC P5] at k |-;exact k m1 H1 σ' (x'.trans x1) r1 (rf'.mono x1)
  | true =>
   rw[QA rfl] at k |-
   refine⟨fun σ'' H''=>∃m' ρ' st',Ext X.K m H m' H''/\RH X.K m' H'' st'/\RF X.K m' H'' ρ' σ''/\gE (wpT Γ cd) (aw Γ b) (AE X.K m H D) n ρ' st',fun σ'' H'' z=>⟨n,S1 _,z⟩,m1,ρ',st1,rf'.mono x1,r1,aR G _ ?_ k⟩;have xx:=x'.trans x1;exact⟨fun ρ4 st4 k4 m4 H4 σ4 x4 r4 f4=>⟨m4,ρ4,st4,xx.trans x4,r4,f4,k4⟩,fun v4 st4 k4=>k4.ext xx,fun ρ4 st4 k4=>k4.ext xx,fun ρ4 st4 k4 m4 H4 σ4 x4 r4 f4=>⟨m4,ρ4,st4,xx.trans x4,r4,f4,k4⟩⟩
end
end FW
namespace FW
open L2 HX
noncomputable def ql:Expr->Bool
 | .Name ..=>true
 | _=>false
noncomputable def FI:Expr->Expr->Bool
 | .Tuple ts _ _,.Tuple vs _ _=>(ts.any fun t=>!ql t) || vs.all (foldedForSure 8)
 | .Tuple ..,_=>true
 | .Subscript ..,_=>true
 | _,_=>false
noncomputable def yQ (y:Str)(sc:Scope):Bool:=sc.names.any fun x=>match x with|(n,k)=>n == y && (k == .local || k == .cell)
noncomputable def zQ (x:Stmt)(f:List Expr->Expr->Bool):Bool:=match x with | .Assign ts v _=>f ts v|_=>false
theorem rk (h:zQ x f=true):∃ts v p,x=.Assign ts v p/\f ts v=true:=by cases x with|Assign ts v p=>exact⟨ts,v,p,rfl,h⟩|_=>exact Bool.noConfusion h
noncomputable def tQ (x:Stmt)(f:Expr->Expr->Bool):Bool:=zQ x fun ts v=>on1 ts fun t=>f t v
theorem iU (h:tQ x f=true):∃t v p,x=.Assign [t] v p/\f t v=true:=by replace h:=rk h;obtain⟨ts,v,p,rfl,h⟩:=h;replace h:=bj h;obtain⟨t,rfl,h⟩:=h;exact⟨t,v,p,rfl,h⟩
noncomputable def OH (x:Stmt)(f:Expr->Operator->Expr->Bool):Bool:=match x with | .AugAssign t o v _=>f t o v|_=>false
noncomputable def Mq (x:Stmt)(f:Expr->Bool):Bool:=match x with | .Expr v _=>f v|_=>false
theorem xf (h:Mq x f=true):∃v p,x=.Expr v p/\f v=true:=by cases x with|Expr v p=>exact⟨v,p,rfl,h⟩|_=>exact Bool.noConfusion h
noncomputable def Bx (x:Stmt)(f:Option Expr->Bool):Bool:=match x with | .Return v _=>f v|_=>false
theorem oB (h:Bx x f=true):∃v p,x=.Return v p/\f v=true:=by cases x with|Return v p=>exact⟨v,p,rfl,h⟩|_=>exact Bool.noConfusion h
noncomputable def MB (x:Stmt)(f:Expr->List Stmt->List Stmt->Bool):Bool:=match x with | .If v a b _=>f v a b|_=>false
theorem xl (h:MB x f=true):∃v a b p,x=.If v a b p/\f v a b=true:=by cases x with|If v a b p=>exact⟨v,a,b,p,rfl,h⟩|_=>exact Bool.noConfusion h
noncomputable def A6 (x:Stmt)(f:Expr->List Stmt->Bool):Bool:=match x with | .While v a [] _=>f v a|_=>false
theorem wY (h:A6 x f=true):∃v a p,x=.While v a [] p/\f v a=true:=by
 cases x with
 | While v a b p=>cases b with|nil=>exact⟨v,a,p,rfl,h⟩|cons _ _=>exact Bool.noConfusion h
 | _=>exact Bool.noConfusion h
noncomputable def Er (x:Stmt)(f:Expr->Expr->List Stmt->Bool):Bool:=match x with | .For t v a [] _=>f t v a|_=>false
theorem Cv (h:Er x f=true):∃t v a p,x=.For t v a [] p/\f t v a=true:=by
 cases x with
 | For t v a b p=>cases b with|nil=>exact⟨t,v,a,p,rfl,h⟩|cons _ _=>exact Bool.noConfusion h
 | _=>exact Bool.noConfusion h
noncomputable def Fl (x:Stmt):Bool:=match x with | .Pass _=>true|_=>false
theorem zA (h:Fl x=true):∃p,x=.Pass p:=by cases x with|Pass p=>exact⟨p,rfl⟩|_=>exact Bool.noConfusion h
noncomputable def KQ (x:Stmt):Bool:=match x with | .Break _=>true|_=>false
theorem Cu (h:KQ x=true):∃p,x=.Break p:=by cases x with|Break p=>exact⟨p,rfl⟩|_=>exact Bool.noConfusion h
noncomputable def Gx (x:Stmt):Bool:=match x with | .Continue _=>true|_=>false
theorem y9 (h:Gx x=true):∃p,x=.Continue p:=by cases x with|Continue p=>exact⟨p,rfl⟩|_=>exact Bool.noConfusion h
noncomputable def Lf:Tg->Bool
 | .name _=>true
 | _=>false
noncomputable def Os:E->Bool
 | .comp ..=>true
 | _=>false
noncomputable def setC (c:Cfg)(t:Tg)(e:E)(tg x:Expr):Bool :=
 Lf t && Os e && ay tg fun y py=>Df x fun _ _ sc pos=>c.names.lookup y == some .cell || (c.names.lookup y == some .local && py.line == pos.line && !yQ y sc)
noncomputable def MW:E->Bool
 | .compD ..=>true
 | _=>false
noncomputable def GC (c:Cfg)(t:Tg)(e:E)(tg x:Expr):Bool :=
 Lf t && MW e && ay tg fun y py=>Mb x fun _ _ _ sc pos=>c.names.lookup y == some .local && py.line == pos.line && !yQ y sc
theorem IM (h:MW e=true):∃kx vx tg wk d ifs nt caps,e=.compD kx vx tg wk d ifs nt caps:=by cases e with|compD kx vx tg wk d ifs nt caps=>exact⟨kx,vx,tg,wk,d,ifs,nt,caps,rfl⟩|_=>exact Bool.noConfusion h
noncomputable def Ni (c:Cfg)(t:Expr):Bool:=ay t fun y _=>c.names.lookup y == some .cell
noncomputable def OV (c:Cfg)(tg x:Expr):Bool:=gY tg fun ts=>(Df x fun _ _ _ _=>true) || gY x fun _=>ts.any (Ni c)
mutual
noncomputable def Hh (c:Cfg):S->Stmt->Bool
 | .set t e,s=>tQ s fun tg x=>(j6 c t tg && aB c e x) && ((rH x && (ql tg || FI tg x)) || (setC c t e tg x || (OV c tg x || GC c t e tg x)))
 | .par i j a b,s=>tQ s fun tg vx=>gY tg fun ts=>on2 ts fun ta tb=>ay ta fun x px=>ay tb fun y py=>gY vx fun us=>on2 us fun u v=>c.N[i]? == some x && c.N[j]? == some y && !(i == j) && !(x == y) && c.names.lookup x == some .local && c.names.lookup y == some .local
    && px.line == py.line && aj u && aj v && !(foldedForSure 8 u && foldedForSure 8 v) && !(constantsAlone 8 u && constantsAlone 8 v) && aB c a u && aB c b v
 | .aug i op e,s=>OH s fun t o x=>ay t fun y _=>c.N[i]? == some y && c.loc y && o == op && aB c e x
 | .expr e,s=>Mq s fun x=>rH x && aB c e x
 | .ret e,s=>Bx s fun o=>jQ o fun x=>aB c e x
 | .retN,s=>Bx s fun o=>o.isNone
 | .ifS t a b,s=>MB s fun x ys zs=>zF c t x && ar c a ys && ar c b zs
 | .whileS t b,s=>A6 s fun x ys=>zF c t x && ar c b ys
 | .forS t it b,s=>Er s fun tg x ys=>Ay it tg && gQ x && j6 c t tg && By c it x && ar c b ys
 | .forK t wk e b,s=>Er s fun tg x ys=>Lu wk tg && gQ x && j6 c t tg && K9 wk x (fun y=>aB c e y) && ar c b ys
 | .pass,s=>Fl s
 | .brk,s=>KQ s
 | .cont,s=>Gx s
 | .bad,_=>true
 | .set2 i j e,s=>zQ s fun ts v=>on2 ts fun ta tb=>ay ta fun x _=>ay tb fun y _=>c.N[i]? == some x && c.N[j]? == some y && !(i == j) && c.loc x && c.loc y && rH v && aB c e v
termination_by structural s=>s
noncomputable def ar (c:Cfg):Ss->List Stmt->Bool
 | .nil,xs=>xs.isEmpty
 | .cons s ss,xs=>ir xs fun y ys=>Hh c s y && ar c ss ys
termination_by structural s=>s
end
theorem Bq (h:Lf t=true):∃i,t=.name i:=by cases t with|name i=>exact⟨i,rfl⟩|_=>exact Bool.noConfusion h
theorem Hr (h:Os e=true):∃elt tg it ifs nt caps,e=.comp elt tg it ifs nt caps:=by cases e with|comp elt tg it ifs nt caps=>exact⟨elt,tg,it,ifs,nt,caps,rfl⟩|_=>exact Bool.noConfusion h
theorem cQ (h:rH x=true):swapsWith x t l env=pure false:=by cases x <;> first|rfl|cases h
theorem jH {t:Expr}(h:rH x=true):swapsWithSole [t] x l env=pure false:=by unfold swapsWithSole;exact cQ h
theorem oX:∀(ts:List Expr) (f:Expr->Option Str),(ts.any fun t=>!ql t)=true->(∀t,ql t=false->f t=none)->(ts.filterMap f).length<ts.length
 | [],f,h,_=>by cases h
 | t::ts,f,h,hf=>by
  rw[RG,R3] at h;have hl:(ts.filterMap f).length<=ts.length:=S7 _ _;rcases h with h|h
  ·rw[Q1,hf t (by simpa using h)];simp only[List.length_cons];omega
  ·have:=oX ts f h hf;rw[Q1];cases f t <;> simp only[List.length_cons] <;> omega
theorem mD:∀(ts:List Expr) (P:Expr->Bool) (f:Expr->Option Str),ts.any P=true->(∀t,P t=true->f t=none)->(ts.filterMap f).length<ts.length
 | [],P,f,h,_=>by cases h
 | t::ts,P,f,h,hf=>by
  rw[RG,R3] at h;have hl:(ts.filterMap f).length<=ts.length:=S7 _ _;rcases h with h|h
  ·rw[Q1,hf t h];simp only[List.length_cons];omega
  ·have:=mD ts P f h hf;rw[Q1];cases f t <;> simp only[List.length_cons] <;> omega
theorem E5 {ts:List Expr}{env:Env}(hs:ts.any P=true)(hP:∀t,P t=true->∃y q,t=.Name y q/\(env.kindOf y == some .local)=false):swappedStores [.Tuple ts k p] (.Tuple vs k2 p2) env=pure none:=by
 unfold swappedStores;dsimp only;split
 ·rfl
 ·split
  ·rfl
  ·have hlt:=mD ts P (fun x=>match x with
    | .Name id pos=>if (env.kindOf id == some .local && pos.line == (Option.map (fun x=>x.pos.line) ts.head?).getD 0)=true then some id else none
    | _=>none) hs (fun t ht=>by obtain⟨y,q,rfl,hk⟩:=hP t ht;show (if (env.kindOf y == some .local && _)=true then some y else none)=none;rw[hk,UB,QC P5])
   rw[QA];rw[R3]
   left
   rw[bne_iff_ne];exact QU hlt
theorem oj (h:FI tg x=true):swappedStores [tg] x env=pure none:=by
 cases tg with
 | Tuple ts k p =>
  cases x with
  | Tuple vs k2 p2 =>
   have hs:((ts.any fun t=>!ql t) || vs.all (foldedForSure 8))=true:=h;rw[R3] at hs;unfold swappedStores;dsimp only;split
   ·rfl
   ·split
    ·rfl
    rcases hs with hs|hs
    rotate_left
    ·split
     ·rfl
     ·first|rfl|rw[QA hs]
    ·have hlt:=oX ts (fun x=>match x with
      | .Name id pos=>if (env.kindOf id == some .local && pos.line == (Option.map (fun x=>x.pos.line) ts.head?).getD 0)=true then some id else none
      | _=>none) hs (fun t ht=>by cases t <;> first|rfl|cases ht)
     rw[QA];rw[R3]
     left
     rw[bne_iff_ne];exact QU hlt
  | _=>rfl
 | Subscript a b p=>cases x <;> rfl
 | _=>cases h
noncomputable def y8:Expr->Bool
 | .Starred ..=>true
 | _=>false
theorem uv (h:aj u=true):y8 u=false:=by cases u <;> first|rfl|cases h
theorem zT (h1:aj u=true)(h2:aj v=true):([u,v].any fun | .Starred ..=>true|_=>false)=false:=by show (y8 u || (y8 v || false))=false;rw[uv h1,uv h2];rfl
theorem Gm {env:Env}{px py:Pos}(hb:env.blockKind=.function)(hx:env.kindOf x=some .local)(hy:env.kindOf y=some .local)(hxy:x≠y)(hl:px.line=py.line)(h1:aj u=true)(h2:aj v=true)(h3:(foldedForSure 8 u && foldedForSure 8 v)=false)(h4:(constantsAlone 8 u && constantsAlone 8 v)=false) :
  swappedStores [.Tuple [.Name x px,.Name y py] kt pt] (.Tuple [u,v] k2 pt2) env=pure (some [x,y]):=by
 unfold swappedStores;dsimp only;have e0:(Option.map (fun x=>x.pos.line) [Expr.Name x px,Expr.Name y py].head?).getD 0=px.line:=rfl;have e1:([u,v].any fun | .Starred ..=>true|_=>false)=false:=zT h1 h2;have e2:[u,v].all (foldedForSure 8)=false:=by simpa using h3
 have e3:[u,v].all (constantsAlone 8)=false:=by simpa using h4
 have e4:[x,y].eraseDups.length=2:=by
  have:(y == x)=false:=by simpa using fun z=>hxy z.symm
  simp[List.eraseDups_cons,this]
 rw[QC (by simp[hb]),QC ?h1]
 case h1=>exact fun z=>P5 (e1.symm.trans z)
 have e5:(List.filterMap (fun t=>match t with
   | .Name id pos=>if (env.kindOf id == some .local && pos.line == (Option.map (fun x=>x.pos.line) [Expr.Name x px,Expr.Name y py].head?).getD 0)=true then some id else none
   | _=>none) [Expr.Name x px,Expr.Name y py])=[x,y]:=by
  rw[e0];simp[List.filterMap_cons,hx,hy,hl]
 generalize hn:List.filterMap _ [Expr.Name x px,Expr.Name y py]=ns;have hns:ns=[x,y]:=hn.symm.trans e5;subst hns;rw[QC,QC,QC]
 ·rw[e3];decide
 ·rw[e2];decide
 ·rw[e4];simp
section
variable {X:Cx}{c:Cfg}{Γ:Nat->FSp}
theorem Ew {Γ:Nat->FSp}(C:COk X c Γ)(h2:j6 c t tg=true)(h3:aB c e x=true)(h:setC c t e tg x=true):PS X (.Assign [tg] x pos) (TSx X.K (wpS Γ (.set t e))):=by
 have hE:=aT e C _ h3;unfold setC at h;rw[QB,QB] at h;obtain⟨⟨ht,he⟩,h⟩:=h;replace h:=ai h;obtain⟨y,py,rfl,h⟩:=h;replace h:=jI h;obtain⟨ex,gens,sc,cpos,rfl,h⟩:=h;obtain⟨i,rfl⟩:=Bq ht;obtain⟨elt,tg,it,ifs,nt,caps,rfl⟩:=Hr he
 ·have h2:(c.N[i]? == some y && c.loc y)=true:=h2;simp only[Bool.and_eq_true,beq_iff_eq] at h2;obtain⟨g1,g2⟩:=C.locx h2.2;rintro pins s σ H D I ⟨m,ρ,st,rf,rh,w⟩;simp only[Bool.or_eq_true,Bool.and_eq_true,beq_iff_eq,Bool.not_eq_true'] at h;rcases h with h|⟨⟨hl,hp⟩,hn⟩
  ·have hk:=C.cel y (.inl h);have hs:swapsWith (.ListComp ex gens sc cpos) (some (.Name y py)) pos.line X.env=pure false:=by
    unfold swapsWith;have:(X.env.kindOf y == some NameKind.local)=false:=by rcases hk with hk|hk <;> rw[hk] <;> rfl
    simp only[this,Bool.and_false,Bool.false_and]
   rw[A2] at w;refine qr C.ndX (by rw[C.N];exact h2.1) g1 hE hs g2 pins s σ H D I ⟨m,ρ,st,rf,rh,ae C.mono _ (fun v st1 k m1 H1 x1 e1 r1 r2=>?_) w⟩
   try simp only[kD,qR,qW] at k
   exact k m1 H1 _ e1 r1 ((rf.mono e1).set i r2)
  ·have hll:=C.lcl _ hl;have hs:swapsWith (.ListComp ex gens sc cpos) (some (.Name y py)) pos.line X.env=pure true:=by
    unfold swapsWith;have q1:(X.env.kindOf y == some NameKind.local)=true:=by unfold Env.kindOf;rw[hll];rfl
    have q2:(X.env.blockKind == ScopeKind.function)=true:=by rw[C.bk];rfl
    have q3:(py.line == cpos.line)=true:=by rw[hp];simp
    unfold yQ at hn;show pure (_ && _ && _ && !_)=_;rw[q1,q2];show pure (true && true && (py.line == cpos.line) && !_)=_;rw[q3,hn];rfl
   replace h3:=jI h3;obtain⟨ex',gs',sc',pos',heq,h3⟩:=h3;cases heq;replace h3:=bj h3;obtain⟨g,rfl,h3⟩:=h3;obtain⟨tx,ix,fx,ia⟩:=g
   ·simp only[Bool.and_eq_true,beq_iff_eq] at h3;obtain⟨⟨⟨⟨⟨⟨⟨⟨h1,h0⟩,k2'⟩,h3⟩,h4⟩,h5⟩,h6⟩,h7⟩,h8⟩:=h3;subst h1;obtain⟨S,k1,k2,k3,k4⟩:=mV C h4;have hC:∀s2 H2 fp A,COk (cxC X (nt++caps.filterMap (X.N[·]?)) s2 H2 fp sc A) (c.inner nt caps sc) Γ:=fun s2 H2 fp A=>Ai C h4
    skip
    rw[exec_Assign_Name_used _ _ _ _ hs];refine P4 (wpAny_standAt ?_);refine P4 ?_;unfold evalThenUse;refine P4 ?_;refine tZ (elt:=elt) (tg:=tg) (ifs:=ifs) (nt:=nt) (caps:=caps) (use:=some (assign (.Name y py) X.env)) (Fin:=fun A H'=>D.nx (σ.set i (some (.ref A))) H') (wi:=TIx X.K (fS Γ it)) C.mono C.calm S rfl k1 k2 k3 k2' h3 (BI it C _ h0 h5) (fun s2 H2 fp A=>rV tg (hC s2 H2 fp A) _ h6) (fun s2 H2 fp A=>yO ifs (hC s2 H2 fp A) _ h7) (fun s2 H2 fp A=>aT elt (hC s2 H2 fp A) _ h8) I ?_ ?_
    ·refine⟨m,ρ,st,rf,rh,cu C.mono it (fun xs chk st1 z m1 H1 J e1 r1 W=>⟨m1,ρ,st1,xs,chk,rf.mono e1,r1,W,z.1,?_⟩) w⟩;refine jc (body:=hV Γ elt tg ifs (nt.map (fun _=>none)++caps.map fun i=>(ρ[i]?).join)) (fun _ _ _ _ hk q=>qg C.mono hk q) (fun vs st2 k m2 H2 A ys e2 r2 Dm hD0 hD ry=>?_) z.2;have hD1:H A=none:=by
      cases q:H A with
      | none=>rfl
      | some o =>
       by_cases hm:A∈m
       ·exact absurd ((e1.trans e2).pre.subset hm) Dm
       ·exact absurd hD0 (e1.ne hm q)
     try simp only[kD,qR,qW] at k
     exact k _ _ _ ((e1.trans e2).addD hD1) (r2.addD Dm hD ry) ((rf.mono ((e1.trans e2).addD hD1)).set i (R.last r2.len))
    ·intro C' A H' s' m' I' ns fp F;refine wpAny_assign_Name (uF I' C.ndX (by rw[C.N];exact h2.1) g1 (v:=.ref A) rfl (fun s2 I2 hh=>?_) g2);obtain⟨a,hs2,ha⟩:=hh;have hne:C'≠a:=by
      rcases ha with rfl|ha
      ·exact fp.2.1
      ·exact fun q=>fp.2.2.2.2.1 _ _ ha q.symm
     refine⟨m',?_,fun h' hs'=>?_⟩
     ·obtain⟨o,es,ep,q1,q2⟩:=ns;exact⟨o,es,ep,(hs2.2 C' hne).trans q1,q2⟩
     ·refine QE (QE ?_);exact⟨_,H',I2.turned (t':=s2.toks) (fun b o hb e=>hs'.extBut b o hb e) fp.1 fp.2.1 fp.2.2.2.1 fp.2.2.2.2.1 fp.2.2.2.2.2,F⟩
theorem Gp {Γ:Nat->FSp}(C:COk X c Γ)(h2:j6 c t tg=true)(h3:aB c e x=true)(h:GC c t e tg x=true):PS X (.Assign [tg] x pos) (TSx X.K (wpS Γ (.set t e))):=by unfold GC at h;rw[QB,QB] at h;obtain⟨⟨ht,he⟩,h⟩:=h;replace h:=ai h;obtain⟨y,py,rfl,h⟩:=h;replace h:=Fm h;obtain⟨ek,ev,gens,sc,cpos,rfl,h⟩:=h;obtain⟨i,rfl⟩:=Bq ht;obtain⟨kx,vx,tg,wk,d,ifs,nt,caps,rfl⟩:=IM he;have h2:(c.N[i]? == some y && c.loc y)=true:=h2;simp only[Bool.and_eq_true,beq_iff_eq] at h2;obtain⟨g1,g2⟩:=C.locx h2.2;rintro pins s σ H D I ⟨m,ρ,st,rf,rh,w⟩;rw[A2] at w;exact False.elim w
mutual
theorem L1 (C:COk X c Γ):∀(e:S) (x:Stmt),Hh c e x=true->PS X x (TSx X.K (wpS Γ e))
 | .set t e,x,h=>by
  replace h:=iU h;obtain⟨tg,x,pos,rfl,h⟩:=h
  ·simp only[Bool.and_eq_true,Bool.or_eq_true] at h;obtain⟨⟨h2,h3⟩,h14⟩:=h;rcases h14 with⟨h1,h4⟩|h14|h14|h14
   rotate_left
   ·exact Ew C h2 h3 h14
   rotate_left
   ·exact Gp C h2 h3 h14
   rotate_right
   ·have hE:=aT e C _ h3;have hG:=rV t C _ h2;rintro pins s σ H D I ⟨m,ρ,st,rf,rh,w⟩
    skip
    have rd:IG (TEx X.K (wpE Γ e)) (TGx X.K (eN Γ t)) D σ H:=⟨m,ρ,st,rf,rh,ae C.mono e (fun v st1 k m1 H1 x1 e1 r1 r2=>⟨m1,ρ,st1,v,rf.mono e1,r1,r2,bu C.mono t (fun _ _ q=>q.ext e1) k⟩) w⟩;obtain⟨ts,k,p,rfl,h14⟩:=b8 h14;rcases Bool.or_eq_true_iff.mp h14 with h14|h14
    ·obtain⟨a,b,d,f,rfl,_⟩:=jI h14;exact qQ hE hG rfl rfl rfl pins s σ H D I rd
    ·obtain⟨us,k2,p2,rfl,h14⟩:=b8 h14;refine qQ hE hG rfl (E5 (P:=Ni c) h14 fun t ht=>?_) rfl pins s σ H D I rd;obtain⟨y,q,rfl,hy⟩:=ai (show ay t _=true from ht);refine⟨y,q,rfl,?_⟩;rcases C.cel y (.inl (by simpa using hy)) with hk|hk <;> rw[hk] <;> rfl
   ·have hE:=aT e C _ h3;have hG:=rV t C _ h2;rintro pins s σ H D I ⟨m,ρ,st,rf,rh,w⟩
    skip
    have rd:IG (TEx X.K (wpE Γ e)) (TGx X.K (eN Γ t)) D σ H:=⟨m,ρ,st,rf,rh,ae C.mono e (fun v st1 k m1 H1 x1 e1 r1 r2=>⟨m1,ρ,st1,v,rf.mono e1,r1,r2,bu C.mono t (fun _ _ q=>q.ext e1) k⟩) w⟩;cases t with
    | name i =>
     obtain⟨y,p,rfl,h2⟩:=ai h2;have h2:=Bool.and_eq_true_iff.mp h2;obtain⟨g1,g2⟩:=C.locx h2.2;refine qr C.ndX (by rw[C.N];exact beq_iff_eq.mp h2.1) g1 hE (cQ h1) g2 pins s σ H D I ⟨m,ρ,st,rf,rh,ae C.mono e (fun v st1 k m1 H1 x1 e1 r1 r2=>?_) w⟩
     try simp only[kD,qR,qW] at k
     exact k m1 H1 _ e1 r1 ((rf.mono e1).set i r2)
    | tup ts =>obtain⟨xs,k,p,rfl,_⟩:=b8 h2;exact qQ hE hG (jH h1) (oj (by rcases h4 with h4|h4;cases h4;exact h4)) rfl pins s σ H D I rd
    | ltup ts =>obtain⟨xs,k,p,rfl,_⟩:=b8 h2;exact qQ hE hG (jH h1) (oj (by rcases h4 with h4|h4;cases h4;exact h4)) rfl pins s σ H D I rd
    | sub o i =>obtain⟨l,r,p,rfl,_⟩:=gu h2;exact qQ hE hG (jH h1) (oj (by rcases h4 with h4|h4;cases h4;exact h4)) rfl pins s σ H D I rd
 | .par i j a b,x,h=>by
  replace h:=iU h;obtain⟨tg,vx,pos,rfl,h⟩:=h;replace h:=b8 h;obtain⟨ts,k,p1,rfl,h⟩:=h;replace h:=g_ h;obtain⟨ta,tb,rfl,h⟩:=h;replace h:=ai h;obtain⟨x,px,rfl,h⟩:=h;replace h:=ai h;obtain⟨y,py,rfl,h⟩:=h;replace h:=b8 h;obtain⟨us,k2,p2,rfl,h⟩:=h;replace h:=g_ h;obtain⟨u,v,rfl,h⟩:=h
  ·simp only[Bool.and_eq_true,beq_iff_eq,Bool.not_eq_true',beq_eq_false_iff_ne] at h;obtain⟨⟨⟨⟨⟨⟨⟨⟨⟨⟨⟨⟨h1,h2⟩,h3⟩,h4⟩,h5⟩,h6⟩,h7⟩,h8⟩,h9⟩,h10⟩,h11⟩,h12⟩,h13⟩:=h;have hx:=C.lcl _ h5;have hy:=C.lcl _ h6;rintro pins s σ H D I ⟨m,ρ,st,rf,rh,w⟩
   skip
   refine La C.calm C.ndX (by rw[C.N];exact h1) (by rw[C.N];exact h2) h3 hx hy (pac (aT a C _ h12) (pac (aT b C _ h13) eg h9) h8)
    (Gm C.bk hx hy h4 h7 h8 h9 h10 h11) rfl pins s σ H D I ⟨m,ρ,st,rf,rh,ae C.mono a (fun v st1 k m1 H1 x1 e1 r1 r2=>⟨m1,ρ,st1,rf.mono e1,r1,
    ae C.mono b (fun u st2 k2 m2 H2 y2 e2 r3 r4=>⟨x1,y2,rfl,?_⟩) k⟩) w⟩
   exact k2 m2 H2 _ (e1.trans e2) r3 ((((rf.mono e1).mono e2).set i (r2.mono e2)).set j r4)
 | .aug i op e,x,h=>by rintro pins s σ H D I ⟨m,ρ,st,rf,rh,w⟩;exact False.elim w
 | .expr e,x,h=>by
  replace h:=xf h;obtain⟨x,p,rfl,h⟩:=h
  ·simp only[Bool.and_eq_true] at h;rintro pins s σ H D I ⟨m,ρ,st,rf,rh,w⟩
   skip
   exact AL (aT e C _ h.2) (cQ h.1) pins s σ H D I ⟨m,ρ,st,rf,rh,ae C.mono e (fun u st1 k m1 H1 x1 e1 r1 r2=>k m1 H1 σ e1 r1 (rf.mono e1)) w⟩
 | .ret e,x,h=>by
  replace h:=oB h;obtain⟨o,p,rfl,h⟩:=h;replace h:=gJ h;obtain⟨x,rfl,h⟩:=h
  ·rintro pins s σ H D I ⟨m,ρ,st,rf,rh,w⟩
   skip
   exact D5 (aT e C _ h) pins s σ H D I ⟨m,ρ,st,rf,rh,w⟩
 | .retN,x,h=>by
  replace h:=oB h;obtain⟨o,p,rfl,h⟩:=h;replace h:=C6 h;obtain rfl:=h
  ·rintro pins s σ H D I ⟨m,ρ,st,rf,rh,w⟩
   skip
   exact HK pins s σ H D I (post.here w rh (R_non.mpr rfl))
 | .ifS t a b,x,h=>by
  replace h:=xl h;obtain⟨x,ys,zs,p,rfl,h⟩:=h
  ·simp only[Bool.and_eq_true] at h;obtain⟨⟨h1,h2⟩,h3⟩:=h;rintro pins s σ H D I ⟨m,ρ,st,rf,rh,w⟩
   skip
   refine N4 (qF t C _ h1) (lZ C a _ h2) (lZ C b _ h3) pins s σ H D I ⟨m,ρ,st,rf,rh,aP C.mono t (fun k st1 z m1 H1 e1 r1=>?_) w⟩;cases k with
   | true=>rw[QA rfl] at z |-;exact⟨m1,ρ,st1,rf.mono e1,r1,aR C.mono a (AE.ext e1) z⟩
   | false=>rw[QC P5] at z |-;exact⟨m1,ρ,st1,rf.mono e1,r1,aR C.mono b (AE.ext e1) z⟩
 | .whileS t b,x,h=>by
  replace h:=wY h;obtain⟨x,ys,p,rfl,h⟩:=h
  ·simp only[Bool.and_eq_true] at h;intro pins s σ H D I w;exact DP C.pass (qF t C _ h.1) (lZ C b _ h.2) pins s σ H D I (CG C.mono w)
 | .forS t it b,x,h=>by
  replace h:=Cv h;obtain⟨tg,x,ys,p,rfl,h⟩:=h
  ·simp only[Bool.and_eq_true] at h;obtain⟨⟨⟨⟨h0,h1⟩,h2⟩,h3⟩,h4⟩:=h;intro pins s σ H D I w;exact Li C.pass C.calm (BI it C _ h0 h3) (rV t C _ h2) (lZ C b _ h4) (qh h1) pins s σ H D I (IR C.mono w)
 | .forK t wk e b,x,h=>by rintro pins s σ H D I ⟨m,ρ,st,rf,rh,w⟩;exact False.elim w
 | .bad,x,h=>by rintro pins s σ H D I ⟨m,ρ,st,rf,rh,w⟩;exact False.elim w
 | .set2 i j e,x,h=>by
  replace h:=rk h;obtain⟨ts,v,pos,rfl,h⟩:=h;replace h:=g_ h;obtain⟨ta,tb,rfl,h⟩:=h;replace h:=ai h;obtain⟨x,px,rfl,h⟩:=h;replace h:=ai h;obtain⟨y,py,rfl,h⟩:=h
  ·simp only[Bool.and_eq_true,beq_iff_eq,Bool.not_eq_true',beq_eq_false_iff_ne] at h;obtain⟨⟨⟨⟨⟨⟨h1,h2⟩,h3⟩,h4⟩,h5⟩,h6⟩,h7⟩:=h;obtain⟨a1,a2⟩:=C.locx h4;obtain⟨b1,b2⟩:=C.locx h5;rintro pins s σ H D I ⟨m,ρ,st,rf,rh,w⟩
   skip
   refine wpAny_Assign_two (thn (aT e C _ h7 pins s σ H (fun y H1=>D.nx ((σ.set i (some y)).set j (some y)) H1) I ⟨m,ρ,st,rf,rh,ae C.mono e (fun v st1 k m1 H1 x1 e1 r1 r2=>k m1 H1 _ e1 r1 (((rf.mono e1).set i r2).set j r2)) w⟩) fun v s1 ⟨y,H1,I1,r1,q1⟩=>?_) rfl rfl;refine PySem.wpAny_assign_Name ?_;refine iW I1 C.ndX (by rw[C.N];exact h1) a1 r1 (fun s2 I2=>?_) a2;refine PySem.wpAny_assign_Name ?_;exact iW I2 C.ndX (by rw[C.N];exact h2) b1 r1 (fun s3 I3=>⟨_,H1,I3,q1⟩) b2
 | .pass,x,h=>by
  replace h:=zA h;obtain⟨p,rfl⟩:=h
  ·rintro pins s σ H D I ⟨m,ρ,st,rf,rh,w⟩
   skip
   exact HV pins s σ H D I (postF.here w rh rf)
 | .brk,x,h=>by
  replace h:=Cu h;obtain⟨p,rfl⟩:=h
  ·rintro pins s σ H D I ⟨m,ρ,st,rf,rh,w⟩
   skip
   exact DG pins s σ H D I (postF.here w rh rf)
 | .cont,x,h=>by
  replace h:=y9 h;obtain⟨p,rfl⟩:=h
  ·rintro pins s σ H D I ⟨m,ρ,st,rf,rh,w⟩
   skip
   exact w4 pins s σ H D I (postF.here w rh rf)
theorem lZ (C:COk X c Γ):∀(e:Ss) (x:List Stmt),ar c e x=true->PSs X x (TSx X.K (aw Γ e))
 | .nil,x,h=>by
  have h:x.isEmpty=true:=h;cases x with
  | nil =>
   rintro pins s σ H D I ⟨m,ρ,st,rf,rh,w⟩
   skip
   exact BX pins s σ H D I (postF.here w rh rf)
  | cons _ _=>cases h
 | .cons e es,x,h=>by
  replace h:=aC h;obtain⟨y,ys,rfl,h⟩:=h
  ·simp only[Bool.and_eq_true] at h;rintro pins s σ H D I ⟨m,ρ,st,rf,rh,w⟩
   skip
   refine wM (L1 C e _ h.1) (lZ C es _ h.2) pins s σ H D I ⟨m,ρ,st,rf,rh,j8 C.mono e ?_ w⟩;exact⟨fun ρ1 st1 k m1 H1 σ1 e1 r1 f1=>⟨m1,ρ1,st1,f1,r1,aR C.mono es (AE.ext e1) k⟩,fun _ _ q=>q,fun _ _ q=>q,fun _ _ q=>q⟩
end
structure GOk (P:Program)(w:World)(K:W.Frag)(mg:Str->Option Value)(base:Heap)(c:Cfg)(Γ:Nat->FSp):Prop where
 fn:∀f x,f<c.lim->c.fns[f]?=some x->∃ps,Has P w K mg base (f+1) x ps (bZ K (Γ f))
 blt:∀x∈c.blts,mg x=none
 gl:∀x v,c.gl.lookup x=some v->∃u y,mg x=some u/\RelV y u/\∀m H,R K m H v y
 mono:aW Γ
noncomputable def frame (n:Nat)(as:List PV):Fr:=as.map some++List.replicate (n-as.length) none
noncomputable def ag (st:AH)(Q:EK):aK:={ nx:=fun _ st'=>Ret st Q .non st',rt:=Ret st Q }
theorem cq (rh:RH K m H st)(q:Ret st (post K m H Q) v st'):post K m H Q v st':=by
 rcases q with q|q
 ·exact q
 ·intro m' H' x e r s;obtain⟨st1,q,e2,r3,r4⟩:=pS rh e r s q;exact q m H' x e2 r3 r4
theorem iJ {N:List Str}(r:Rs K m H as vs):RF K m H (frame N.length as) (L2.start N vs):=by
 have hl:=r.len;refine⟨by simp[frame,L2.start,hl],fun i v e=>?_⟩;unfold frame at e;unfold L2.start;by_cases hi:i<as.length
 ·rw[QT (by simpa using hi),QK] at e;cases q:as[i]? with
  | none=>rw[q] at e;cases e
  | some a =>rw[q] at e;cases e;obtain⟨y,e1,r1⟩:=r.get q;exact⟨y,by rw[QT (by simp;omega),QK,e1];rfl,r1⟩
 ·rw[QV (by simpa using hi),List.getElem?_replicate] at e;split at e <;> cases e
theorem oy {P:Program}{w:World}{K:W.Frag}{mg:Str->Option Value}{base:Heap}{x:Str}{st:Stmt}{N ps:List Str}(S:ah N ps (aa st)){f:Addr}{cdv:Value}{A:Around}{outer:List Env}{s:Shared}{H:Hp}{E:XK}
  (hN:c.N=N) (hn:c.names=(aa st).names) (hr:Room c.lim (A.deeper (envOfC x (aa st) s.heap.objs.size f cdv))) (G:GOk P w K mg base c Γ)
  (lam:c.pc=true->∀ {pins:List (Addr × Obj)}{σ:L2.St}{H2:Hp}{s2:Shared}{b:Addr}{u:Value}{v:V}{Q:VK},L2.Inv (jk CX0 P w K mg base N x (aa st) f cdv A outer s H E).nox pins σ H2 s2->RelV v u->bZ K (Γ 1000) [.ref b,v] H2 Q E0 ->
   W.FnAt b s2.heap/\wpAny (model P w) (jk CX0 P w K mg base N x (aa st) f cdv A outer s H E).nox.A (call (.ref b) [u]) (EP (jk CX0 P w K mg base N x (aa st) f cdv A outer s H E).nox pins σ Q) (jk CX0 P w K mg base N x (aa st) f cdv A outer s H E).nox.xe s2)
  (hmo:∀k,c.hm=some k->HmX (jk CX0 P w K mg base N x (aa st) f cdv A outer s H E).nox k) :
  COk (jk CX0 P w K mg base N x (aa st) f cdv A outer s H E).nox c Γ where
 calm:=rfl
 pass:=PassesOwn.never
 N:=hN.symm
 nd:=by rw[hN];exact S.nd
 vis:=fun y h=>by rw[hn] at h;exact h
 loc:=fun y h=>by rw[hn] at h;exact⟨h,.inl rfl⟩
 lcl:=fun y h=>by rw[hn] at h;exact h
 glb:=fun y h=>by rw[hn] at h;exact h
 bk:=by show Env.blockKind (envOfC x (aa st) s.heap.objs.size f cdv)=_;unfold Env.blockKind;show (if (aa st).kind.isAnnotationScope=true then _ else (aa st).kind)=_;rw[S.kind];rfl
 cel:=fun y h=>by rw[hn] at h;exact h
 room:=hr
 fn:=G.fn
 blt:=G.blt
 gl:=G.gl
 mono:=G.mono
 lam:=lam
 hmo:=hmo
theorem ME {code:Ss}(F:At K mg x st ps)(S:ah N ps (aa st))(hN:c.N=N)(hn:c.names=(aa st).names)(hc:ar c code (af st)=true)(G:GOk P w K mg base c Γ)(len:∀as st Q,sp as st Q->as.length=ps.length)(h:∀as st Q,sp as st Q->aw Γ code (frame N.length as) st (ag st Q))(hpc:c.pc=false:=by rfl)(hhm:c.hm=none:=by rfl):Has P w K mg base (c.lim+1) x ps (bZ K sp):=by
 refine F.ok S (fun vs H Q E ⟨m,st,as,r1,r2,q⟩=>by rw[<-r1.len];exact len as st _ q) fun f cdv A outer s H vs Q E hr ⟨m,st',as,r1,r2,q⟩=>?_;have C:=oy (E:=E) (H:=H) (outer:=outer) (Γ:=Γ) S hN hn hr G (fun z=>by rw[hpc] at z;cases z) fun k z=>by rw[hhm] at z;cases z
 refine⟨_,lZ C code _ hc,m,frame N.length as,st',iJ r1,r2,aR G.mono code ?_ (h as st' _ q)⟩;exact⟨fun ρ st2 k m' H' σ' e r f=>cq r2 k m' H' .non e r (R_non.mpr rfl),fun v st2 k=>cq r2 k,fun _ _ k=>k.elim,fun _ _ k=>k.elim⟩
end
end FW
namespace FW
open L2 HX
section
variable {P:Program}{w:World}{K:W.Frag}{mg:Str->Option Value}{base:Heap}{c c':Cfg}{Γ:Nat->FSp}
theorem GOk.next (G:GOk P w K mg base c Γ)(h1:c'.fns=c.fns)(h2:c'.lim=c.lim+1)(h3:c'.blts=c.blts)(h4:c'.gl=c.gl){x:Str}{ps:List Str}(hx:c.fns[c.lim]?=some x)(H:Has P w K mg base (c.lim+1) x ps (bZ K (Γ c.lim))):GOk P w K mg base c' Γ where
 fn:=fun f y hf e=>by
  rw[h1] at e;rw[h2] at hf;by_cases hl:f<c.lim
  ·exact G.fn f y hl e
  ·have:f=c.lim:=by omega
   subst this;rw[hx] at e;cases e;exact⟨ps,H⟩
 blt:=by rw[h3];exact G.blt
 gl:=by rw[h4];exact G.gl
 mono:=G.mono
theorem Ie {qual:Str}{code:Ss}(F:Fun K x x st f fd)(S:ah N ps (aa st))(hN:c.N=N)(hn:c.names=(aa st).names)(hc:ar c code (af st)=true)(G:GOk P w K mg base c Γ)(len:∀as st Q,sp as st Q->as.length=ps.length)(h:∀as st Q,sp as st Q->aw Γ code (frame N.length as) st (ag st Q))(hpc:c.pc=false:=by rfl)(hhm:c.hm=none:=by rfl):pB P w K mg base CX0 (c.lim+1) f fd ps (bZ K sp):=by
 refine F.ok S (fun vs H Q E ⟨m,st,as,r1,r2,q⟩=>by rw[<-r1.len];exact len as st _ q) fun cdv A outer s H vs Q E hr ⟨m,st',as,r1,r2,q⟩=>?_;have C:=oy (E:=E) (H:=H) (outer:=outer) (Γ:=Γ) S hN hn hr G (fun z=>by rw[hpc] at z;cases z) fun k z=>by rw[hhm] at z;cases z
 refine⟨_,lZ C code _ hc,m,frame N.length as,st',iJ r1,r2,aR G.mono code ?_ (h as st' _ q)⟩;exact⟨fun ρ st2 k m' H' σ' e r f=>cq r2 k m' H' .non e r (R_non.mpr rfl),fun v st2 k=>cq r2 k,fun _ _ k=>k.elim,fun _ _ k=>k.elim⟩
end
def kW:FSp:=fun as st Q=>∃ns:List Int,as=[.rdl (ns.map PV.int)]/\ns.length<=63/\∀st',Q (.bl true) st'
theorem BO:∀ {ns:List Int},Rs K m H (ns.map PV.int) (ns.map V.int)
 | []=>by rw[SF,SF,Rs_nil]
 | n::ns=>by rw[QN,QN,Rs_cons',R_int];exact⟨rfl,BO⟩
structure L3 (K:W.Frag)(h:Heap):Prop where
 at_:∀x∈aV,∀c T,W.tabIn K x=some (c,T)->W.CodeHd h c T/\h.get? T=some (W.tabObj #[])
structure IK (K:W.Frag):Prop where
 at_:∀x∈aV,∀c T,W.tabIn K x=some (c,T)->K.lookup T=none/\∀y∈aV,∀d,W.tabIn K y=some (d,T)->y=x
structure i9 (K:W.Frag)(mg:Str->Option Value)(base:Heap):Prop where
 hd:∀x∈aV,∀c T,W.tabIn K x=some (c,T)->W.CodeHd base c T
 bm:∃bm ob,mg "__builtins__"=some (.ref bm)/\bm≠builtinsNs/\base.get? bm=some ob/\ob.cls=.type "module"/\ob.dict=some builtinsNs/\ob.data=.plain
theorem Gh {ns:List Int}(hl:ns.length<=63)(hO:∀ys,H a≠some (.lst ys))(hS:SqL K H a (ns.map V.int))(tb:TB K H):bZ K kW [.ref a] H (fun v _=>v=.bl true) fun _ _ _=>False:=by
 have hF:RdF K H a (ns.map V.int):=by
  rcases hS with (h|h)|h
  ·exact absurd h (hO _)
  ·exact .inl h
  ·exact .inr h
 refine⟨[],[],[.rdl (ns.map PV.int)],?_,⟨rfl,UZ,fun n c a h=>by simp at h,tb⟩,ns,rfl,hl,fun st' m' H' x e r s=>R_bl.mp s⟩;rw[Rs_cons',Rs_nil,gX];exact⟨⟨a,_,rfl,hF,BO⟩,rfl⟩
def tM (K:W.Frag)(b:Addr):Prop:=∃x∈aV,∃c,W.tabIn K x=some (c,b)
open Classical in
noncomputable def gN (K:W.Frag)(a:Addr)(scr:Option HO):Hp:=fun b=>if b=a then scr else if tM K b then some (.tbl #[]) else none
theorem C4 {K:W.Frag}{x:Str}{s₁:Shared}{vs:List Value}(KX:K.In s₁.heap)(hns:s₁.heap.Ns mainGlobals mg)(hb:s₁.heap.Ns builtinsNs mb)(hbb:∀x:Str,x≠"__name__"->mb x=bootBuiltins x)(hlim:s₁.heap.NoLimit)(hg:s₁.gens=#[])(LT:L3 K s₁.heap)(LK:IK K)(hbm:∃bm ob,mg "__builtins__"=some (.ref bm)/\bm≠builtinsNs/\s₁.heap.get? bm=some ob/\ob.cls=.type "module"/\ob.dict=some builtinsNs/\ob.data=.plain)(ha:s₁.heap.get? a=some { cls:=.type "list",data:=.seq vs.toArray })(hi:IntsAre vs ns)(hl:ns.length<=63)(hr:Room k callerA)(F:∀base:Heap,K.In base->base.Ns mainGlobals mg->i9 K mg base->pB P w K mg base CX0 k fa fd [x] (bZ K kW))(hbind:∀(s:Shared) (u:Value),BindsTo s fd ⟨[u],[]⟩ [(x,u)]) :
  codeAny (model P w) callerA (.call (.ref fa) ⟨[.ref a],[]⟩) (fun r s'=>r=.ok (.ret (.bool true))/\OldK s₁.heap s'.heap/\s'.os=s₁.os/\AllBare s'.gens) s₁:=by
 have rv:=tJ hi;have lenV:=hi.length;have hl2:ns.length<=sizeLine:=QP hl (by decide);have tabAt:∀ {b:Addr},tM K b->s₁.heap.get? b=some (W.tabObj #[]):=fun ⟨x,hx,c,e⟩=>(LT.at_ x hx c _ e).2;have naT:¬tM K a:=fun z=>by have e:=tabAt z;rw[ha] at e;cases e
 have core:∀scr:Option HO,(∀ys,scr≠some (.lst ys))->SqL K (gN K a scr) a (ns.map V.int)->(∀u,scr=some u->(∃o xs,u=.frz o (.lst xs))/\ObjOk P w (gN K a scr) s₁.heap a u)->(scr≠none->K.lookup a=none) ->
   codeAny (model P w) callerA (.call (.ref fa) ⟨[.ref a],[]⟩) (fun r s'=>r=.ok (.ret (.bool true))/\OldK s₁.heap s'.heap/\s'.os=s₁.os/\AllBare s'.gens) s₁:=by
  intro scr hscr hS hso hK;have atA:gN K a scr a=scr:=QA rfl;have atT:∀ {b:Addr},tM K b->gN K a scr b=some (.tbl #[]):=fun {b} z=>by have:b≠a:=fun q=>naT (q ▸ z);exact(QC this).trans (QA z)
  have cs:∀b,gN K a scr b≠none->(b=a/\scr≠none)\/tM K b:=fun b z=>by
   by_cases h1:b=a
   ·exact .inl ⟨h1,by rw[h1,atA] at z;exact z⟩
   ·by_cases h2:tM K b
    ·exact .inr h2
    ·exact absurd ((QC h1).trans (QC h2)) z
  have hok:HOk P w (gN K a scr) s₁.heap:=fun b u e=>by
   rcases cs b (by rw[e];simp) with⟨rfl,z⟩|z
   ·rw[atA] at e;exact(hso u e).2
   ·rw[atT z] at e;cases e;exact tabAt z
  have base_of:∀ {b:Addr}{o:Obj},s₁.heap.get? b=some o->gN K a scr b=none->(tj s₁.heap (gN K a scr)).get? b=some o:=fun e n=>Gj e n;have noD:∀ {b:Addr}{o:Obj},s₁.heap.get? b=some o->(∀its n,o.data≠.seq its n)->(∀qs,o.data≠.fields qs)->gN K a scr b=none:=fun {b o} e n1 n2=>by
   cases q:gN K a scr b with
   | none=>rfl
   | some u =>
    rcases cs b (by rw[q];simp) with⟨rfl,_⟩|z
    ·rw[ha] at e;cases e;exact absurd rfl (n1 _ _)
    ·rw[tabAt z] at e;cases e;exact absurd rfl (n2 _)
  have nsK:∀ {b:Addr}{m:Str->Option Value},s₁.heap.Ns b m->(tj s₁.heap (gN K a scr)).Ns b m:=fun {b m} ⟨o,es,ep,e,d,r⟩=>⟨o,es,ep,base_of e (noD e (fun _ _ z=>by rw[d] at z;cases z) fun _ z=>by rw[d] at z;cases z),d,r⟩;have hKn:∀ {b:Addr}{o:Obj},K.lookup b=some o->gN K a scr b=none:=fun {b o} e=>by
   cases q:gN K a scr b with
   | none=>rfl
   | some u =>
    rcases cs b (by rw[q];simp) with⟨rfl,z⟩|⟨x,hx,c,z⟩
    ·rw[hK z] at e;cases e
    ·rw[(LK.at_ x hx c _ z).1] at e;cases e
  have hKb:K.In (tj s₁.heap (gN K a scr)):=fun b o e=>base_of (KX b o e) (hKn e);have hM:Mod K mg (tj s₁.heap (gN K a scr)):=⟨hKb,nsK hns,⟨mb,nsK hb,hbb⟩,let ⟨mc,h1,h2⟩:=hlim;⟨mc,nsK h1,h2⟩⟩;have e0:vU P w K mg (tj s₁.heap (gN K a scr)) callerA [] s₁ (gN K a scr):=⟨rfl,hM,fun b o e=>Iz e,US (B9 _ _),trivial,fun b hb=>absurd (show b∈([]:List Addr) from hb) (by simp),hok,.of_eq hg⟩;have hB:i9 K mg (tj s₁.heap (gN K a scr)):=by
   refine⟨fun x hx c T e=>?_,?_⟩
   ·obtain⟨o,vs',file,tf,flags,tg,inF,text,tt,q,r⟩:=(LT.at_ x hx c T e).1;have kc:∃oc,K.lookup c=some oc:=by
     have e':=e;unfold W.tabIn at e';split at e'
     ·split at e'
      ·split at e'
       ·split at e'
        ·rename_i hh;split at e'
         ·cases e';exact⟨_,hh⟩
         ·cases e'
        ·cases e'
       ·cases e'
      ·cases e'
     ·cases e'
    obtain⟨oc,kc⟩:=kc;exact⟨o,vs',file,tf,flags,tg,inF,text,tt,base_of q (hKn kc),r⟩
   ·obtain⟨bm,ob,b1,b2,b3,b4,b5,b6⟩:=hbm;exact⟨bm,ob,b1,b2,base_of b3 (noD b3 (fun _ _ z=>by rw[b6] at z;cases z) fun _ z=>by rw[b6] at z;cases z),b4,b5,b6⟩
  have tb:TB K (gN K a scr):=fun x hx c T e=>⟨(LK.at_ x hx c T e).2,#[],atT ⟨x,hx,c,e⟩,trivial,fun pos cv q=>by cases q⟩;refine codeAny_mono ((F _ hKb (nsK hns) hB).run callerA [] s₁ (gN K a scr) ⟨[.ref a],[]⟩ [.ref a] [.ref a] _ _ hr e0 (hbind s₁ (.ref a)) (.cons rfl .nil) (Gh hl (by rw[atA];exact hscr) hS tb)) fun r s' h=>?_;cases r with
  | error e=>exact False.elim h
  | ok fl =>
   cases fl with
   | next=>exact False.elim h
   | brk=>exact False.elim h
   | cont=>exact False.elim h
   | ret u =>
    obtain⟨v,H',os,bare,un,hok',r',q⟩:=h;have q':v=.bl true:=q;subst q';obtain rfl:u=Value.bool true:=r';refine⟨rfl,⟨fun b o e=>?_,fun b o e=>un.there b o e (by simp)⟩,os,bare⟩;cases q:gN K a scr b with
    | none=>exact .inl (un.keep b o e q (by intro z;exact absurd (show b∈([]:List Addr) from z) (by simp)) (by simp))
    | some u =>
     rcases cs b (by rw[q];simp) with⟨rfl,z⟩|z
     ·rw[atA] at q;obtain⟨⟨ob,xs,rfl⟩,_⟩:=hso u q;have z1:gN K b scr b=some (.frz ob (.lst xs)):=by rw[atA];exact q
      have z2:=un.frzs b ob _ z1;obtain⟨e1,_⟩:=hok b _ z1;obtain⟨e2,_⟩:=hok' b _ z2;rw[e] at e1;cases e1;exact .inl e2
     ·obtain⟨more,z2⟩:=un.tbls b _ (atT z);have e1:=tabAt z;rw[e] at e1;cases e1;have e2:s'.heap.get? b=some { cls:=.none,data:=.fields (#[]++more) }:=hok' b _ z2;obtain⟨x,hx,c,et⟩:=z;have ht0:=(LT.at_ x hx c b et);exact .inr (.inl ⟨(ht0.1.tab ht0.2).isCodeTable,rfl,#[],more,rfl,e2⟩)
 cases hk:K.lookup a with
 | some o =>have e:=KX a o hk;rw[ha] at e;cases e;refine core none (fun _ z=>nomatch z) (.inr ⟨_,vs.toArray,_,hk,rfl,rfl,rfl,by rw[QR,lenV];exact hl2,by simpa using rv⟩) (fun u z=>nomatch z) fun z=>absurd rfl z
 | none =>refine core (some (.frz { cls:=.type "list",data:=.seq vs.toArray } (.lst (ns.map V.int)))) (fun _ z=>nomatch z) (.inl (.inr ⟨{ cls:=.type "list",data:=.seq vs.toArray },QA rfl⟩)) (fun u z=>?_) fun _=>hk;cases z;exact⟨⟨_,_,rfl⟩,ha,by rw[QO];exact hl2,vs,_,rv,ha⟩
theorem walkF {l:W.OpenLaw}{YP:World->Heap->Prop}{d:DefRec}{K:Params->W.Frag}{x:Str}(hn:l.most=some 63)(hdf:d.params.defaults=[])(hr:Room k callerA)(hY:∀(w:World) (h:Heap),YP w h->(K w.params).In h)(F:∀(w:World) (mg:Str->Option Value) (fa:Addr) (h:Heap),(K w.params).In h->h.Ns mainGlobals mg->mg d.name=some (.ref fa) ->
   ∃fd:FuncData,(∀(s:Shared) (u:Value),BindsTo s fd ⟨[u],[]⟩ [(x,u)])/\IK (K w.params)/\(∀x∈aV,W.tabIn (K w.params) x=none\/∃d,(recsOf q).find? (fun e=>e.name == x)=some d)/\∀base:Heap,(K w.params).In base->base.Ns mainGlobals mg->i9 (K w.params) mg base->pB l.prog w (K w.params) mg base CX0 k fa fd [x] (bZ (K w.params) kW)) :
  W.WalkO q loose XP YP l.row.toRowW d [] (fun f vs=>PySem.call f vs):=by
 refine Att.attach_call hn hdf fun w s₀ s₁ mg mb fa o pm cd doc a vs ns G Y ho hd hcd hmg hobj hints hlen hg=>?_;have KX:=hY w _ Y;obtain⟨fd,hb,hK,hq,hF⟩:=F w mg fa _ KX G.T.g hmg;refine C4 KX G.T.g G.T.b G.T.builtins G.T.nolimit hg ⟨fun x hx c T e=>?_⟩ hK G.T.bmain hobj hints hlen hr hF hb;rcases hq x hx with z|⟨d,r⟩
 ·rw[z] at e;cases e
 ·exact W.tab_of G.T KX r e
theorem Sub.refl (st:AH):Sub st st:=fun i _=>.inl rfl
theorem Sub.set {c:Cell}(h:Sub st st')(hc:c.bel 0=true):Sub st (st'.set n c):=fun i hi=>by
 by_cases e:n=i
 ·subst e;by_cases hl:n<st'.length
  ·exact .inr ⟨c,Q6 hl,hc⟩
  ·rw[List.set_eq_of_length_le (by omega)];exact h n hi
 ·rw[Q7 e];exact h i hi
theorem Tmp.same {st:AH}{Q:EK}{v:PV}(h:v.bel st.length=true)(q:Q v st):Tmp st Q v st:=⟨st,[],by simp,rfl,Sub.refl st,h,q⟩
theorem Tmp.app {st g:AH}{Q:EK}{v:PV}(h:v.bel st.length=true)(q:Q v st):Tmp st Q v (st++g):=⟨st,g,rfl,rfl,Sub.refl st,h,q⟩
theorem Ret.all {Q:EK}(q:Q v st'):Ret st Q v st':=.inl q
theorem ar1 {P:List Value->Prop}(h:∀a,P [a])(us:List Value)(hl:us.length=1):P us:=by
 match us,hl with
 | [a],_=>exact h a
theorem ar2 {P:List Value->Prop}(h:∀a b,P [a,b])(us:List Value)(hl:us.length=2):P us:=by
 match us,hl with
 | [a,b],_=>exact h a b
theorem ar3 {P:List Value->Prop}(h:∀a b c,P [a,b,c])(us:List Value)(hl:us.length=3):P us:=by
 match us,hl with
 | [a,b,c],_=>exact h a b c
theorem ar4 {P:List Value->Prop}(h:∀a b c d,P [a,b,c,d])(us:List Value)(hl:us.length=4):P us:=by
 match us,hl with
 | [a,b,c,d],_=>exact h a b c d
theorem ar5 {P:List Value->Prop}(h:∀a b c d e,P [a,b,c,d,e])(us:List Value)(hl:us.length=5):P us:=by
 match us,hl with
 | [a,b,c,d,e],_=>exact h a b c d e
abbrev DI (K:W.Frag)(x:Str)(st:Stmt):Prop:=∃(f:Addr) (oc:Value) (od:Option Addr) (kV dc pm:Value) (an:Option Addr) (cd ct:Value) (sl:Array (Option Value)),W.nsIn K mainGlobals x=some (some (.ref f))/\K.lookup f=some ⟨oc,od,.func (W.fnOf x x (bC st) (af st) (aa st) .none kV dc pm an cd ct),sl⟩/\W.codeIn K cd x=true/\W.keepIn K (.ref f)=true
theorem DI_mk {st:Stmt}{kV dc pm:Value}{an:Option Addr}{cd ct:Value}(a:W.nsIn K mainGlobals x=some (some (.ref f)))(l:K.lookup f=some ⟨oc,od,.func (W.fnOf x x (bC st) (af st) (aa st) .none kV dc pm an cd ct),sl⟩)(c:W.codeIn K cd x=true)(k:W.keepIn K (.ref f)=true):DI K x st:=⟨f,oc,od,kV,dc,pm,an,cd,ct,sl,a,l,c,k⟩
theorem GOk.nx {Γ:Nat->FSp}{c':Cfg}{code:Ss}(G:GOk P w K mg base c Γ)(X:K.In h)(Gn:h.Ns mainGlobals mg)(d:DI K x st)(S:ah N ps (aa st))(hc:ar c code (af st)=true)(len:∀ {as st Q},sp as st Q->as.length=ps.length)(hw:∀ {as st Q},sp as st Q->aw Γ code (frame N.length as) st (ag st Q))(hb:∀(kV doc pm:Value) (an:Option Addr) (cdv ct:Value) (us:List Value),us.length=ps.length->bindArgs (W.fnOf x x (bC st) (af st) (aa st) .none kV doc pm an cdv ct) ⟨us,[]⟩=pure (ps.zip us))(hN:c.N=N:=by rfl)(hn:c.names=(aa st).names:=by rfl)(hpc:c.pc=false:=by rfl)(hhm:c.hm=none:=by rfl)(h1:c'.fns=c.fns:=by rfl)(h2:c'.lim=c.lim+1:=by rfl)(h3:c'.blts=c.blts:=by rfl)(h4:c'.gl=c.gl:=by rfl)(hx:c.fns[c.lim]?=some x:=by rfl)(hs:Γ c.lim=sp:=by rfl):GOk P w K mg base c' Γ:=by
 obtain⟨f,oc,od,kV,dc,pm,an,cd,ct,sl,a,l,cc,k⟩:=d;subst hs;exact G.next h1 h2 h3 h4 hx (ME (At.mk' X Gn hb a l cc k) S hN hn hc G (fun _ _ _=>len) (fun _ _ _=>hw) hpc hhm)
end FW
namespace FW
open L2 HX
section
variable {P:Program}{w:World}{K:W.Frag}{mg:Str->Option Value}{base:Heap}{c:Cfg}{Γ:Nat->FSp}
theorem B8 (F:At K mg x st ps):Has P w K mg base k x ps (bZ K fun _ _ _=>False):=by obtain⟨f,fd,Ff,m,b⟩:=F.ex;exact⟨f,fd,⟨fun vs H Q E ⟨_,_,_,_,_,z⟩=>z.elim,fun A outer s H args us vs Q E _ _ _ _ ⟨_,_,_,_,_,z⟩=>z.elim⟩,m,Ff.kp,b⟩
theorem Lx {k:Nat}{name qual:Str}{params:Arguments}{body:List Stmt}{scope:Scope}{dV kV doc pm cdv ct:Value}{an:Option Addr}{vs:List V}{Q:VK}{E:XK}(lk:K.lookup f=some ⟨oc,od,.func (W.fnOf name qual params body scope dV kV doc pm an cdv ct),osl⟩)(hcd:W.codeIn K cdv qual=true)(S:ah N ps scope)(hl:vs.length=ps.length)(hr:Room (k+1) A)(e0:vU P w K mg base A outer s H)(hb:BindsTo s (W.fnOf name qual params body scope dV kV doc pm an cdv ct) args (ps.zip us))(r:Vals vs us)(hbody:Room k (A.deeper (envOfC qual scope s.heap.objs.size f cdv))->∃t,PSs (jk CX P w K mg base N qual scope f cdv A outer s H E) body t/\t { nx:=fun _ H'=>Q .non H',rt:=Q } (start N vs) H) :
  codeAny (model P w) A (.call (.ref f) args) (CR CX outer P w H s Q E) s:=by
 have KX:K.In s.heap:=e0.mod.kin.keeps fun b o e=>(e0.bs b o e).1;have lim:s.heap.NoLimit:=e0.mod.nolimit.keeps fun b o e=>(e0.bs b o e).1;have hkind:∀y∈ps.zip us,scope.names.lookup y.1=some .local\/(scope.names.lookup y.1=some .cell/\((cellsFrom (s.heap.objs.size+1) scope.names []).lookup y.1).isSome=true):=fun ⟨n,v⟩ hy=>by
  rcases S.par n (T3 hy).1 with q|q
  ·exact .inl q
  ·exact .inr ⟨q,UN _ _ _ (.inl q)⟩
 refine codeAny_call_function hr.depth (KX _ _ lk) rfl S.co S.gen rfl (W.codeRec_of KX hcd) (hb _ _ _ _ ?_);refine wpAny_newFunctionEnv_cells S.kind hkind fun env he s1 x=>?_;subst he;refine⟨lim.keeps x.toInCall.keep,codeAny_func ?_⟩;obtain⟨t,ht,hq⟩:=hbody (hr.deeper _);have I:L2.Inv (jk CX P w K mg base N qual scope f cdv A outer s H E) [] (start N vs) H s1:=ug S hr.hd e0 hl r x;refine wpAny_mono (ht [] s1 (start N vs) H _ I hq) (fun fl s' hs=>?_) fun e s' hs=>hs;have fin:∀ {σ':L2.St}{H':Hp}{v:V}{u:Value},L2.Inv (jk CX P w K mg base N qual scope f cdv A outer s H E) [] σ' H' s'->RelV v u->Q v H'->CE outer P w H s Q u s' :=
  fun {σ' H' v u} J rv q=>⟨v,H',J.os,J.bare,J.base,J.hok,rv,q⟩
 cases fl with
 | ret u =>obtain⟨v,σ',H',J,rv,q⟩:=hs;exact fin J rv q
 | next =>obtain⟨σ',H',J,q⟩:=hs;exact fin (v:=V.non) (u:=Value.none) J rfl q
 | brk =>obtain⟨_,_,_,q⟩:=hs;exact False.elim q
 | cont =>obtain⟨_,_,_,q⟩:=hs;exact False.elim q
noncomputable def ΓL (Γ:Nat->FSp)(a:Nat)(L:FSp):Nat->FSp:=fun i=>if i=1000 then (fun as st Q=>∃y,as=[.fn a,y]/\L [y] st Q) else Γ i
theorem Be (G:aW Γ)(hL:wg L):aW (ΓL Γ a L):=fun f vs st Q Q' h q=>by
 unfold ΓL at q |-
 by_cases e:f=1000
 ·rw[QA e] at q |-
  obtain⟨y,e,q⟩:=q;exact⟨y,e,hL _ _ _ _ h q⟩
 ·rw[QC e] at q |-
  exact G _ _ _ _ _ h q
theorem JG:ΓL Γ a L 1000=fun as st Q=>∃y,as=[.fn a,y]/\L [y] st Q:=QA rfl
theorem Nj {code:Ss}(F:At K mg "how_many" st ["stair","holds"])(S:ah N ["stair","holds"] (aa st))(hN:c.N=N)(hn:c.names=(aa st).names)(hc:ar c code (af st)=true)(G:GOk P w K mg base c Γ)(hlim:c.lim<=1000)(hhm:c.hm=none)(h:∀a L,wg L->∀as st Q,Hd a L as st Q->aw (ΓL Γ a L) code (frame N.length as) st (ag st Q)):CT P w K mg base c.lim:=by
 obtain⟨f,fd,Ff,m,b⟩:=F.ex;obtain⟨oc,od,kV,doc,pm,an,cdv,ct,osl,rfl,lk,hcd⟩:=Ff.ex;refine⟨f,_,m,Ff.kp,b,fun a L hL A outer s H args us vs Q hr e0 hb r LH ⟨m0,st',as,r1,r2,q⟩=>?_⟩;have hlen:vs.length=(["stair","holds"]:List Str).length:=by obtain⟨xs,g,rfl,_⟩:=id q;rw[<-r1.len];rfl
 have GL:GOk P w K mg base c (ΓL Γ a L):=⟨fun f x hf e=>by have:ΓL Γ a L f=Γ f:=QC (by omega);rw[this];exact G.fn f x hf e,G.blt,G.gl,Be G.mono hL⟩
 refine Lx lk hcd S hlen hr e0 hb r fun hroom=>?_;have C:=oy (x:="how_many") (f:=f) (cdv:=cdv) (A:=A) (s:=s) (E:=E0) (H:=H) (outer:=outer) (Γ:=ΓL Γ a L) S hN hn hroom GL (fun _ {pins σ H2 s2 b u v Q} I rv hs=>?_) fun k z=>by rw [hhm] at z;cases z
 ·have T:=lZ C code _ hc;exact⟨_,PSs.nox T,m0,frame N.length as,st',iJ r1,r2,aR GL.mono code (by exact⟨fun ρ st2 k m' H' σ' e r f=>cq r2 k m' H' .non e r (R_non.mpr rfl),fun v st2 k=>cq r2 k,fun _ _ k=>k.elim,fun _ _ k=>k.elim⟩) (h a L hL as st' _ q)⟩
 ·obtain⟨m1,st1,bs,q1,q2,q3⟩:=hs;rw[JG] at q3;obtain⟨y,rfl,q3⟩:=q3;rw[Rs_cons',Rs_cons',Rs_nil,R_fn] at q1;obtain⟨q4,q5,_⟩:=q1;cases q4;obtain⟨z1,z2⟩:=LH _ _ s2 H2 u v Q hroom I.env0 I.base rv ⟨m1,st1,[y],by rw[Rs_cons',Rs_nil];exact⟨q5,rfl⟩,q2,q3⟩;refine⟨z1,wpAny_call (codeAny_mono z2 fun r s' hq=>?_)⟩;cases r with
  | error e=>exact False.elim hq
  | ok fl =>
   cases fl with
   | ret u=>exact I.after hq
   | next=>exact False.elim hq
   | brk=>exact False.elim hq
   | cont=>exact False.elim hq
theorem Bf {st:Stmt}{code:Ss}{c0:Addr}{an:Option Addr}{kV doc pm cdv ct:Value}(a:W.nsIn K mainGlobals x=some (some (.ref f)))(l:K.lookup f=some ⟨oc,od,.func (W.fnOf x x (bC st) (af st) (aa st) .none kV doc pm an cdv ct),osl⟩)(t:W.tabIn K x=some (c0,T))(hx:x∈aV)(B:i9 K mg base)(F:At K mg x st ps)(cc:W.codeIn K cdv x=true)(hmg:mg x=some (.ref f))(S:ah N ps (aa st))(hN:c.N=N)(hn:c.names=(aa st).names)(hc:ar c code (af st)=true)(G:GOk P w K mg base c Γ)(hm:∀k,c.hm=some k->CT P w K mg base (k+1))(len:∀as st Q,sp as st Q->as.length=ps.length)(h:∀as st Q,sp as st Q->aw Γ code (frame N.length as) st (ag st Q))(hpc:c.pc=false:=by rfl):Has P w K mg base (c.lim+1) x ps (bZ K sp):=by
 have hcv:cdv=.ref c0:=by
  unfold W.tabIn at t;rw[a] at t;simp only[l] at t;cases cdv with
  | ref c1 =>
   simp only at t;split at t
   ·split at t
    ·cases t;rfl
    ·cases t
   ·cases t
  | _=>cases t
 subst hcv;obtain⟨f',fd,Ff,m,b⟩:=F.ex;rw[hmg] at m;cases m;obtain⟨oc',od',kV',doc',pm',an',cdv',ct',osl',rfl,lk',hcd'⟩:=Ff.ex;have e:=lk'.symm.trans l;refine⟨f,_,Eb lk' hcd' S (fun vs H Q E ⟨m,st,as,r1,r2,q⟩=>by rw[<-r1.len];exact len as st _ q) fun A outer s H vs Q E hr ⟨m,st',as,r1,r2,q⟩=>?_,hmg,Ff.kp,b⟩;have C:=oy (x:=x) (f:=f) (cdv:=cdv') (A:=A) (s:=s) (E:=E) (H:=H) (outer:=outer) (Γ:=Γ) S hN hn hr G (fun z=>by rw[hpc] at z;cases z) fun k z =>
  ⟨hm k z,⟨x,c0,T,hx,t,by show cdv'=.ref c0;injection e with e;injection e with _ _ e3 _;injection e3 with e3;injection e3,rfl,B.hd x hx c0 T t⟩,B.bm⟩
 refine⟨_,PSs.nox (lZ C code _ hc),m,frame N.length as,st',iJ r1,r2,aR G.mono code ?_ (h as st' _ q)⟩;exact⟨fun ρ st2 k m' H' σ' e r f=>cq r2 k m' H' .non e r (R_non.mpr rfl),fun v st2 k=>cq r2 k,fun _ _ k=>k.elim,fun _ _ k=>k.elim⟩
theorem F6 {c0:Addr}{an:Option Addr}{as:Arguments}{b:List Stmt}{sc:Scope}{dV kV doc pm ct:Value}(a:W.nsIn K mainGlobals x=some (some (.ref f)))(l:K.lookup f=some ⟨oc,od,.func (W.fnOf x x as b sc dV kV doc pm an (.ref c0) ct),osl⟩)(tc:K.lookup c0=some ⟨o1,o2,.fields vs,o3⟩)(tv:vs[11]?=some (.ref T)) :
  W.tabIn K x=some (c0,T):=by
 unfold W.tabIn;rw[a];simp only[l,tc,tv]
theorem ML (z:W.nsIn K mainGlobals x=some none):W.tabIn K x=none:=by unfold W.tabIn;rw[z]
theorem HR (h:∀x∈aV,W.tabIn K x=none\/∃c T,W.tabIn K x=some (c,T)/\K.lookup T=none/\∀y∈aV,y≠x->∀d,W.tabIn K y≠some (d,T)):IK K:=⟨fun x hx c T e=>by
 rcases h x hx with z|⟨c',T',z,n,u⟩
 ·rw[z] at e;cases e
 ·rw[z] at e;cases e;exact⟨n,fun y hy d ed=>Classical.byContradiction fun q=>u y hy q d ed⟩⟩
theorem n9 {g:PV->Bool}{xs:List PV}{k:Nat}(h1:∀i,i<k->g (xs.getD i .non)=true)(h2:∀i,k<=i->i<xs.length->g (xs.getD i .non)=false):∀ {n lo hi:Nat},lo<=k->k<=hi->hi<=xs.length->hi-lo<=n->sG g xs n lo hi=k
 | 0,lo,hi,a,b,c,d=>by unfold sG;omega
 | n+1,lo,hi,a,b,c,d=>by
  unfold sG;by_cases q:lo<hi
  ·rw[QA q];by_cases z:(lo+hi)/2<k
   ·rw[QA (h1 _ z)];exact n9 h1 h2 (by omega) b c (by omega)
   ·rw[QC (by rw[h2 _ (by omega) (by omega)];exact P5)];exact n9 h1 h2 a (by omega) (by omega) (by omega)
  ·rw[QC q];omega
theorem yD {g:PV->Bool}{xs:List PV}{k:Nat}(hk:k<=xs.length)(h1:∀i,i<k->g (xs.getD i .non)=true)(h2:∀i,k<=i->i<xs.length->g (xs.getD i .non)=false):bsr g xs=k :=
 n9 h1 h2 (Q8 _) hk (P6 _) (by omega)
end
end FW
namespace FW
open L2 HX
section
variable {Γ:Nat->FSp}{ρ:Fr}{st:AH}{Q:EK}{D:aK}{a b c:E}{es:Es}
noncomputable def aft (Γ:Nat->FSp)(ss:Ss)(D:aK):aK:={ D with nx:=fun ρ' st'=>aw Γ ss ρ' st' D }
noncomputable def LD (I:Fr->AH->Prop)(D:aK):aK:={ nx:=I,ct:=I,bk:=D.nx,rt:=D.rt }
def Om (Γ:Nat->FSp)(t:Tg)(b:Ss)(chk:AH->Prop)(D:aK)(xs:List PV)(ρ:Fr)(st:AH):Prop:=vB chk (fun x ρ' st' D'=>eN Γ t x ρ' st' fun ρ2 st2=>aw Γ b ρ2 st2 D') D xs ρ st
def Oh (Γ:Nat->FSp)(c:E)(b:Ss)(D:aK)(ρ:Fr)(st:AH):Prop:=∃n,gE (wpT Γ c) (aw Γ b) D n ρ st
def BF (Γ:Nat->FSp)(elt:E)(tg:Tg)(ifs:Es)(chk:AH->Prop)(ρ:Fr)(xs:List PV)(st:AH)(Q:LK):Prop :=
 gL chk (fun x st2 k=>eN Γ tg x ρ st2 fun ρ' st3=>jU Γ ifs ρ' st3 fun c st4=>if c=true then wpE Γ elt ρ' st4 fun v st5=>k (some v) st5 else k none st4) xs [] st Q
theorem Fd:(aft Γ ss D).nx ρ st=aw Γ ss ρ st D:=rfl
theorem Fu:(aft Γ ss D).rt v st=D.rt v st:=rfl
theorem F8:(aft Γ ss D).bk ρ st=D.bk ρ st:=rfl
theorem Fc:(aft Γ ss D).ct ρ st=D.ct ρ st:=rfl
theorem Az:(aft Γ ss D).rt=D.rt:=rfl
theorem Kt:(LD I D).nx ρ st=I ρ st:=rfl
theorem JH:(LD I D).ct ρ st=I ρ st:=rfl
theorem Js:(LD I D).bk ρ st=D.nx ρ st:=rfl
theorem KC:(LD I D).rt v st=D.rt v st:=rfl
theorem ET:(LD I D).rt=D.rt:=rfl
theorem JC:(ag st0 Q).nx ρ st=Ret st0 Q .non st:=rfl
theorem K2:(ag st0 Q).rt v st=Ret st0 Q v st:=rfl
theorem E_:(ag st0 Q).rt=Ret st0 Q:=rfl
theorem BV:aw Γ (.cons s (.cons s2 ss)) ρ st D=wpS Γ s ρ st (aft Γ (.cons s2 ss) D):=rfl
theorem Bw:wpS Γ (.whileS c x) ρ st D=Oh Γ c x D ρ st:=rfl
theorem K3:wpS Γ (.forS t it x) ρ st D=fS Γ it ρ st fun xs chk st1=>Om Γ t x chk D xs ρ st1:=rfl
theorem Gd {nt:List Str}{caps:List Nat}:wpE Γ (.comp a tg it ifs nt caps) ρ st Q=fS Γ it ρ st fun xs chk st1 =>
  xs.length<100000/\BF Γ a tg ifs chk (nt.map (fun _=>none)++caps.map fun i=>(ρ[i]?).join) xs st1 fun vs st2=>Q (.ref st2.length) (st2++[.lst vs]):=rfl
theorem iD (G:aW Γ){t:Tg}{b:Ss}{chk:AH->Prop}{D:aK}(I:Nat->Fr->AH->Prop){xs:List PV}{ρ:Fr}{st:AH}(h0:I 0 ρ st)
  (hs:∀i x ρ st,xs[i]?=some x->I i ρ st->chk st/\eN Γ t x ρ st (fun ρ2 st2=>aw Γ b ρ2 st2 (LD (I (i+1)) D)))
  (hd:∀ρ st,I xs.length ρ st->chk st/\D.nx ρ st):Om Γ t b chk D xs ρ st:=by
 have key:∀(k i:Nat) (ρ:Fr) (st:AH),i+k=xs.length->I i ρ st->vB chk (fun x ρ' st' D'=>eN Γ t x ρ' st' fun ρ2 st2=>aw Γ b ρ2 st2 D') D (xs.drop i) ρ st:=by
  intro k
  induction k with
  | zero =>
   intro i ρ st hi h;have:i=xs.length:=by omega
   subst this;rw[T1];exact hd ρ st h
  | succ k ih =>
   intro i ρ st hi h;have hlt:i<xs.length:=by omega
   rw[RV hlt];obtain⟨h1,h2⟩:=hs i xs[i] ρ st (by simp[hlt]) h;refine⟨h1,bu G t (fun ρ2 st2 k2=>aR G b ?_ k2) h2⟩;exact⟨fun ρ3 st3 z=>ih (i+1) ρ3 st3 (by omega) z,fun _ _ z=>z,fun _ _ z=>z,fun ρ3 st3 z=>ih (i+1) ρ3 st3 (by omega) z⟩
 have:=key xs.length 0 ρ st (by omega) h0
 rwa [R8] at this
theorem kq {c:Fr->AH->BK->Prop}{body:Fr->AH->aK->Prop}{D:aK}(hc:∀ρ st Q Q',(∀b st,Q b st->Q' b st)->c ρ st Q->c ρ st Q')(hb:∀ρ st D D',jt D D'->body ρ st D->body ρ st D') :
  ∀ {n k:Nat}{ρ:Fr}{st:AH},n<=k->gE c body D n ρ st->gE c body D k ρ st
 | 0,k,ρ,st,_,h=>h.elim
 | n+1,0,ρ,st,hk,h=>absurd hk (by omega)
 | n+1,k+1,ρ,st,hk,h=>by
  refine hc _ _ _ _ (fun b st1 z=>?_) h;cases b with
  | false=>exact z
  | true =>
   rw[QA rfl] at z |-
   refine hb _ _ _ _ ?_ z;exact⟨fun _ _ z=>kq hc hb (by omega) z,fun _ _ z=>z,fun _ _ z=>z,fun _ _ z=>kq hc hb (by omega) z⟩
theorem l6 (G:aW Γ){c:E}{b:Ss}{D:aK}(I:Nat->Fr->AH->Prop){n:Nat}{ρ:Fr}{st:AH}(h0:I n ρ st)
  (hs:∀n ρ st,I n ρ st->wpT Γ c ρ st (fun k st1=>if k=true then aw Γ b ρ st1 (LD (fun ρ' st'=>∃m,m<n/\I m ρ' st') D) else D.nx ρ st1)):Oh Γ c b D ρ st:=by
 have hc:∀ρ st Q Q',(∀b st,Q b st->Q' b st)->wpT Γ c ρ st Q->wpT Γ c ρ st Q':=fun _ _ _ _ hk z=>aP G c hk z;have hb:∀ρ st D D',jt D D'->aw Γ b ρ st D->aw Γ b ρ st D':=fun _ _ _ _ hk z=>aR G b hk z;have key:∀(k n:Nat),n<k->∀(ρ:Fr) (st:AH),I n ρ st->gE (wpT Γ c) (aw Γ b) D (n+1) ρ st:=by
  intro k
  induction k with
  | zero=>intro n hn;exact absurd hn (by omega)
  | succ k ih =>
   intro n hn ρ st h;refine hc _ _ _ _ (fun q st1 z=>?_) (hs n ρ st h);cases q with
   | false=>exact z
   | true =>
    rw[QA rfl] at z |-
    refine hb _ _ _ _ ?_ z;exact⟨fun ρ' st' ⟨m,hm,z⟩=>kq hc hb (by omega) (ih m (by omega) ρ' st' z),fun _ _ z=>z,fun _ _ z=>z,fun ρ' st' ⟨m,hm,z⟩=>kq hc hb (by omega) (ih m (by omega) ρ' st' z)⟩
 exact⟨_,key (n+1) n (by omega) ρ st h0⟩
end
section
variable {Γ:Nat->FSp}
theorem BJ (G:aW Γ){chk:AH->Prop}{ρ:Fr}{Q:LK}(I:Nat->List PV->AH->Prop)(h0:I 0 [] st)(hs:∀i x acc st,xs[i]?=some x->I i acc st->chk st/\eN Γ tg x ρ st fun ρ' st3=>jU Γ ifs ρ' st3 fun c st4=>if c=true then wpE Γ elt ρ' st4 fun v st5=>I (i+1) (acc++[v]) st5 else I (i+1) acc st4)(hd:∀acc st,I xs.length acc st->chk st/\Q acc st):BF Γ elt tg ifs chk ρ xs st Q:=by
 have key:∀(k i:Nat) (acc:List PV) (st:AH),i+k=xs.length->I i acc st->gL chk (hV Γ elt tg ifs ρ) (xs.drop i) acc st Q:=by
  intro k
  induction k with
  | zero =>
   intro i acc st hi h;have:i=xs.length:=by omega
   subst this;rw[T1];exact hd acc st h
  | succ k ih =>
   intro i acc st hi h;have hlt:i<xs.length:=by omega
   rw[RV hlt];obtain⟨h1,h2⟩:=hs i xs[i] acc st (by simp[hlt]) h;refine⟨h1,bu G tg (fun ρ2 st2 k2=>cU G ifs (fun c st4 k4=>?_) k2) h2⟩;cases c with
   | true=>rw[QA rfl] at k4 |-;exact ae G elt (fun v st5 z=>ih (i+1) _ st5 (by omega) z) k4
   | false=>rw[QC P5] at k4 |-;simpa using ih (i+1) _ st4 (by omega) k4
 have:=key xs.length 0 [] st (by omega) h0;rw[R8] at this;exact this
theorem comp_map (G:aW Γ){chk:AH->Prop}{ρ:Fr}{xs:List PV}{Q:LK}(f:PV->PV)(hc:chk st)(hs:∀x∈xs,wpE Γ elt (ρ.set i (some x)) st fun v st'=>v=f x/\st'=st)(q:Q (xs.map f) st):BF Γ elt (.name i) .nil chk ρ xs st Q:=by
 refine BJ G (fun j acc s=>s=st/\acc=(xs.take j).map f) ⟨rfl,by simp⟩ ?_ ?_
 ·rintro j x acc s hx ⟨rfl,rfl⟩;refine⟨hc,?_⟩;simp only[kD,zG];rw[QA trivial];refine ae G elt (fun v st5 z=>?_) (hs x (P_ hx));obtain⟨rfl,rfl⟩:=z;refine⟨rfl,?_⟩;rw[UM,hx];simp
 ·rintro acc s ⟨rfl,rfl⟩;rw[SJ];exact⟨hc,q⟩
theorem eJ {f:PV->Bool}:∀ {xs:List PV},nC (xs.map fun x=>.bl (f x))=some (xs.map f)
 | []=>rfl
 | x::xs=>by simp only[List.map_cons,nC,eJ (xs:=xs),Option.map_some]
end
section
variable {st:AH}{Q:EK}{i j:Int}{n k:Nat}{xs ys:List PV}{x y v:PV}{b b':Bool}{s s':Str}{kB:Bool->Prop}{BQ:BK}
theorem KH:kT .Add (.int i) (.int j) st Q=Q (.int (i+j)) st:=rfl
theorem Kg:kT .Sub (.int i) (.int j) st Q=Q (.int (i-j)) st:=rfl
theorem I_:kT .Mult (.int i) (.int j) st Q=(CMB i j/\Q (.int (i*j)) st):=rfl
theorem KN:kT .FloorDiv (.int i) (.int j) st Q=(CBig j/\Q (.int (i/j)) st):=rfl
theorem Jh:kT .Mod (.int i) (.int j) st Q=(0<j/\Q (.int (i % j)) st):=rfl
theorem Kx:kT .Pow (.int i) (.int j) st Q=(yZ i j/\Q (.int (i ^ j.toNat)) st):=rfl
theorem Du:kT .Add (.ref n) (.ref k) st Q=∃xs ys,st[n]?=some (.lst xs)/\st[k]?=some (.lst ys)/\xs.length+ys.length<=100000/\Q (.ref st.length) (st++[.lst (xs++ys)]):=rfl
theorem ED:kT .Mult (.ref n) (.int i) st Q=∃xs,st[n]?=some (.lst xs)/\-(2 ^ 63)<=i/\i<2 ^ 63/\xs.length*i.toNat<=100000/\Q (.ref st.length) (st++[.lst (List.replicate i.toNat xs).flatten]):=rfl
theorem GM {a b:Str}:kT .Add (.str a) (.str b) st Q=(a.length+b.length<=100000/\Q (.str (a++b)) st):=rfl
theorem E9:kT .Add (.tup xs) (.tup ys) st Q=(xs.length+ys.length<=100000/\Q (.tup (xs++ys)) st):=rfl
theorem Nt:eD .Eq x y st Q=eqW st x y fun k=>Q (.bl k) st:=rfl
theorem MZ:eD .NotEq x y st Q=eqW st x y fun k=>Q (.bl (!k)) st:=rfl
theorem D2:eD .IsNot x (.bl b) st Q=Q (.bl (!pE b x)) st:=rfl
theorem N6:eD .Lt (.int i) (.int j) st Q=Q (.bl (decide (i<j))) st:=rfl
theorem NB:eD .Gt (.int i) (.int j) st Q=Q (.bl (decide (j<i))) st:=rfl
theorem N7:eD .GtE (.int i) (.int j) st Q=Q (.bl (decide (j<=i))) st:=rfl
theorem K0:eqW st (.int i) (.int j) kB=kB (decide (i=j)):=rfl
theorem Ko:eqW st (.bl b) (.bl b') kB=kB (decide (b=b')):=rfl
theorem FE:eqW st (.str s) (.str s') kB=kB (decide (s=s')):=rfl
theorem tN:hZ .non=true:=rfl
theorem xr:hZ (.bl b)=false:=rfl
theorem uL:hZ (.int i)=false:=rfl
theorem uG:hZ (.str s)=false:=rfl
theorem uz:hZ (.tup xs)=false:=rfl
theorem tY:hZ (.ref n)=false:=rfl
theorem AV:pE true (.bl true)=true:=rfl
theorem Bk:pE true (.bl false)=false:=rfl
theorem A3:pE false (.bl true)=false:=rfl
theorem AU:pE false (.bl false)=true:=rfl
theorem xQ:pE b (.int i)=false:=rfl
theorem wo:pE b .non=false:=rfl
theorem xb:pE b (.tup xs)=false:=rfl
theorem t8:bN st (.tup xs)=some xs:=rfl
theorem uK:bN st (.rdl xs)=some xs:=rfl
theorem rL:bG st (.rdl xs)=some xs:=rfl
theorem au (h:st[n]?=some (.lst xs)):bG st (.ref n)=some xs:=by simp[bG,h]
theorem ao (h:st[n]?=some (.lst xs)):bN st (.ref n)=some xs:=by simp[bN,bG,h]
theorem uM:bW st .non=some "NoneType":=rfl
theorem xc:bW st (.bl b)=some "bool":=rfl
theorem uh:bW st (.int i)=some "int":=rfl
theorem t_:bW st (.str s)=some "str":=rfl
theorem uI:bW st (.tup xs)=some "tuple":=rfl
theorem tX:bW st (.rdl xs)=some "list":=rfl
theorem Kk {z:Str}:ixW (.str z) (.int i) st Q=(z.length<=100000/\∃c,atI z.cps.toList i=some c/\Q (.str ⟨#[c]⟩) st):=rfl
theorem K4:ixW (.tup xs) (.int i) st Q=∃v,atI xs i=some v/\Q v st:=propext ⟨fun ⟨ys,e,q⟩=>by cases e;exact q,fun q=>⟨xs,rfl,q⟩⟩
theorem Jd:ixW (.rdl xs) (.int i) st Q=∃v,atI xs i=some v/\Q v st:=propext ⟨fun ⟨ys,e,q⟩=>by cases e;exact q,fun q=>⟨xs,rfl,q⟩⟩
theorem J':ixW (.ref n) (.int i) st Q=∃xs,bN st (.ref n)=some xs/\∃v,atI xs i=some v/\Q v st:=rfl
theorem o7:atI (x::xs) 0=some x:=de (j:=0) rfl
theorem oM:atI (x::y::xs) 1=some y:=de (j:=1) rfl
theorem BH:atI (x::y::v::xs) 2=some v:=de (j:=2) rfl
theorem AO {u:PV}:atI (x::y::v::u::xs) 3=some u:=de (j:=3) rfl
theorem Ka:ixW (.tup (x::xs)) (.int 0) st Q=Q x st:=propext ⟨fun ⟨ys,e,w,e2,q⟩=>by cases e;rw[o7] at e2;cases e2;exact q,fun q=>⟨_,rfl,_,o7,q⟩⟩
theorem K6:ixW (.tup (x::y::xs)) (.int 1) st Q=Q y st:=propext ⟨fun ⟨ys,e,w,e2,q⟩=>by cases e;rw[oM] at e2;cases e2;exact q,fun q=>⟨_,rfl,_,oM,q⟩⟩
theorem KA:ixW (.tup (x::y::v::xs)) (.int 2) st Q=Q v st:=propext ⟨fun ⟨ys,e,w,e2,q⟩=>by cases e;rw[BH] at e2;cases e2;exact q,fun q=>⟨_,rfl,_,BH,q⟩⟩
theorem KF {u:PV}:ixW (.tup (x::y::v::u::xs)) (.int 3) st Q=Q u st:=propext ⟨fun ⟨ys,e,w,e2,q⟩=>by cases e;rw[AO] at e2;cases e2;exact q,fun q=>⟨_,rfl,_,AO,q⟩⟩
theorem Ki:slW (.tup xs) lo hi st Q=Q (.tup (kM xs lo hi)) st:=rfl
theorem Kz:slW (.rdl xs) lo hi st Q=Q (.ref st.length) (st++[.lst (kM xs lo hi)]):=by simp[slW,bG]
theorem JV {z:Str}:slW (.str z) lo hi st Q=(z.length<=100000/\Q (.str (l4 z lo hi)) st):=rfl
theorem Kh:slW (.ref n) lo hi st Q=∃xs,bG st (.ref n)=some xs/\Q (.ref st.length) (st++[.lst (kM xs lo hi)]):=rfl
theorem FH {z:Str}:gj .len [.str z] st Q=(z.length<=100000/\Q (.int z.length) st):=rfl
theorem Fy {z:Str}:gj .int1 [.str z] st Q=(z.length<=640/\∃n,PySem.intText? z=some n/\Q (.int n) st):=rfl
theorem Of {b:Str}:eD .In (.str a) (.str b) st Q=Q (.bl (!(Builtin.Str.occurrences b a 0 b.length 1).isEmpty)) st:=rfl
theorem JN:smW .join (.str z) y st Q=∃ss:List Str,bG st y=some (ss.map PV.str)/\JoinOk z ss=true/\Q (.str (Txt.join z ss)) st:=rfl
theorem J9 {z w:Str}:smW .split (.str z) (.str w) st Q=(0<w.length/\z.length<=100000/\(Txt.split z w).length<=100000/\Q (.ref st.length) (st++[.lst ((Txt.split z w).map PV.str)])):=rfl
theorem DK {z:Str}{k:Int}:kT .Mult (.str z) (.int k) st Q=(2<=k/\k<2 ^ 30/\0<z.length/\z.length*k.toNat<=100000/\Q (.str (Cb z k.toNat)) st):=rfl
theorem FR:gj .len [.tup xs] st Q=Q (.int xs.length) st:=propext ⟨fun ⟨ys,e,q⟩=>by cases e;exact q,fun q=>⟨xs,rfl,q⟩⟩
theorem DH:gj .len [.rdl xs] st Q=Q (.int xs.length) st:=propext ⟨fun ⟨ys,e,q⟩=>by cases e;exact q,fun q=>⟨xs,rfl,q⟩⟩
theorem EV:gj .len [.ref n] st Q=∃xs,bN st (.ref n)=some xs/\Q (.int xs.length) st:=rfl
theorem KG:gj .max2 [.int i,.int j] st Q=Q (.int (if i<j then j else i)) st:=rfl
theorem JO:gj .min2 [.int i,.int j] st Q=Q (.int (if j<i then j else i)) st:=rfl
theorem yf:gj .divmod [.int i,.int j] st Q=(CBig j/\Q (.tup [.int (i/j),.int (i % j)]) st):=rfl
theorem Ed:gj .int1 [.bl b] st Q=Q (.int (b2z b)) st:=rfl
theorem FD:gj .str1 [.int i] st Q=(i.natAbs.log2<1920/\Q (.str (toString i)) st):=rfl
theorem F':gj .tuple1 [.tup xs] st Q=Q (.tup xs) st:=propext ⟨fun ⟨ys,e,q⟩=>by cases e;exact q,fun q=>⟨xs,rfl,q⟩⟩
theorem DR:gj .tuple1 [.ref n] st Q=∃xs,bN st (.ref n)=some xs/\Q (.tup xs) st:=rfl
theorem Jv:gj .all1 [x] st Q=∃xs bs,bG st x=some xs/\nC xs=some bs/\Q (.bl (bs.all id)) st:=rfl
theorem JJ:gj .abs1 [.int i] st Q=Q (.int i.natAbs) st:=rfl
theorem Jp:x9 .append (.ref n) [v] st Q=∃xs,st[n]?=some (.lst xs)/\xs.length<100000/\Q .non (st.set n (.lst (xs++[v]))):=rfl
theorem Jj:x9 .pop0 (.ref n) [] st Q=∃xs v,st[n]?=some (.lst xs)/\xs[xs.length-1]?=some v/\Q v (st.set n (.lst xs.dropLast)):=rfl
theorem Oy:fu (.bl b) st BQ=BQ b st:=rfl
theorem OX:fu .non st BQ=BQ false st:=rfl
theorem Nb:fu (.int i) st BQ=BQ (i != 0) st:=rfl
theorem OM:fu (.tup xs) st BQ=BQ (!xs.isEmpty) st:=by simp[fu,bN]
theorem NA:fu (.ref n) st BQ=∃xs,bN st (.ref n)=some xs/\BQ (!xs.isEmpty) st:=rfl
theorem JY:yo (.ref n) (.int j) v st kS=∃xs,st[n]?=some (.lst xs)/\∃q,ixN xs.length j=some q/\kS (st.set n (.lst (xs.set q v))):=rfl
end
theorem Dx:((0:Nat):Int)=0:=rfl
theorem Ey:((1:Nat):Int)=1:=rfl
theorem F5:((2:Nat):Int)=2:=rfl
theorem Dg:((3:Nat):Int)=3:=rfl
theorem EW:((4:Nat):Int)=4:=rfl
theorem DO:((5:Nat):Int)=5:=rfl
theorem Fq:((6:Nat):Int)=6:=rfl
theorem g9 {s g:AH}{k:Nat}:(s++g)[s.length+k]?=g[k]?:=by rw[QV (TY _ _),Nat.add_sub_cancel_left]
theorem qC {s g:AH}:(s++g)[s.length]?=g[0]?:=g9 (k:=0)
theorem GJ {st:AH}{c:Cell}:(st++[c]).set st.length c'=st++[c']:=by rw[SU _ _ (P6 _),UR];rfl
theorem aE {st:AH}{c:Cell}:(st++[c])[st.length]?=some c:=by simp
theorem f9 {st g:AH}{n:Nat}(h:st[n]?=some c):(st++g)[n]?=some c:=by rw[QT (P8.mp h).1];exact h
theorem km {st:AH}{n:Nat}(h:st[n]?=some c):n<st.length:=(P8.mp h).1
end FW
namespace FW
open L2 HX
section
variable {M:Model}{A:Around}{E:Value->Shared->Prop}{s:Shared}
theorem yq {env:Env}{outer:List Env}{Q:Unit->Shared->Prop}(hfr:A.frames=some (env::outer))(hl:s.heap.FunFrames base (env::outer))(hf:env.frame=some L)(he:s.heap.get? e=some oe)(hd:oe.data=.fields vs)(hsz:1<vs.size)(h:∀h' T oe' vs' oT ts,(∀b o,b ∉ frs (env::outer)->b≠e->s.heap.get? b=some o->h'.get? b=some o)->(∀b o,b∈frs (env::outer)->s.heap.get? b=some o->∃sl,h'.get? b=some { o with slots:=sl }) ->
   s.heap.objs.size<=T->h'.get? e=some oe'->oe'.cls=oe.cls->oe'.data=.fields vs'->vs'[1]?=some (.ref T)->h'.get? T=some oT->oT.data=.fields ts->ts[3]?=some (rawInt L)->Q () { s with heap:=h' }) :
  wpAny M A (do let a <-frameOf env;let pl <-entryPlaceOf L hadNext;let b <-EntryCells.newEntry head a .none (rawInt L) .none pl;setField (.ref e) 1 b) Q E s:=by
 have hene:e ∉ (env::outer).filterMap (·.frame):=fun hm=>by obtain⟨_,o,ho,hnf⟩:=hl.mem hm;rw[he] at ho;injection ho with ho;subst ho;exact hnf vs hd
 refine P4 (wpAny_frameOf_fun hfr hl hf fun h₁ hs₁=>?_);refine P4 (wpAny_entryPlaceOf fun pl hpl=>?_);unfold EntryCells.newEntry newFields;refine P4 (wpAny_newObj_type ?_ (hpl.sizeOk5 _ _ _ _ _));have he₁:h₁.get? e=some oe:=(hs₁.2.1 e hene).trans he;have he₂:=P2 (h:=h₁) { cls:=.type "traceback",dict:=none,data:=.fields ([head,.ref L,.none,rawInt L,.none]++(if pl.isEmpty then List.replicate 6 Value.none else pl)).toArray } he₁;refine wpAny_setField he₂ hd hsz ?_;have hTe:h₁.objs.size≠e:=TN (QF he₁);have hd₃:=Obj.data_mapFields hd (·.setIfInBounds 1 (Value.ref h₁.objs.size));have he₃:=SB (Obj.mapFields (·.setIfInBounds 1 (Value.ref h₁.objs.size))) he₂ (Obj.isFreed_of_fields hd₃);have hT₃:=(RO (h₁.push { cls:=.type "traceback",dict:=none,data:=.fields ([head,.ref L,.none,rawInt L,.none]++(if pl.isEmpty then List.replicate 6 Value.none else pl)).toArray })
  (Obj.mapFields (·.setIfInBounds 1 (Value.ref h₁.objs.size))) (Ne.symm hTe)).trans (QG h₁ rfl)
 have keep:∀b o,b≠e->h₁.get? b=some o ->
   ((h₁.push { cls:=.type "traceback",dict:=none,data:=.fields ([head,.ref L,.none,rawInt L,.none]++(if pl.isEmpty then List.replicate 6 Value.none else pl)).toArray }).update e (Obj.mapFields (·.setIfInBounds 1 (Value.ref h₁.objs.size)))).get? b=some o:=fun b o hbe hb=>by
  rw[RO _ _ (Ne.symm hbe)];exact P2 _ hb
 refine h _ h₁.objs.size _ _ _ _ (fun b o hb hbe e=>keep b o hbe ((hs₁.2.1 b hb).trans e)) (fun b o hb e=>?_) (US hs₁.1.symm) he₃ (Obj.cls_mapFields _ _) hd₃ (by simp[hsz]) hT₃ rfl ?_
 ·obtain⟨sl,hs⟩:=hs₁.2.2 b o e;exact⟨sl,keep b _ (fun q=>hene (q ▸ hb)) hs⟩
 ·first|rfl|(simp;done)|(rcases hpl with rfl|⟨_,_,_,_,_,_,_,rfl⟩ <;> simp)
end
structure Fly (L:Option Addr)(h0:Heap)(H:Hp)(h:Heap)(a C:Addr):Prop where
 obj:∃oe vs,h.get? a=some oe/\oe.cls=.ref C/\oe.data=.fields vs/\(vs[1]?=some .none\/∃T oT ts,vs[1]?=some (.ref T)/\h0.get? T=none/\T≠a/\H T=none/\h.get? T=some oT/\oT.data=.fields ts/\(∃v,ts[3]?=some v))
 ge:h0.get? a=none
 fr:H a=none
theorem Fly.le {h0:Heap}(f:Fly L h1 H h a C)(q:∀b o,h0.get? b=some o->∃o',h1.get? b=some o'):Fly L h0 H h a C:=by
 have no:∀b,h1.get? b=none->h0.get? b=none:=fun b e=>by
  cases z:h0.get? b with
  | none=>rfl
  | some o=>obtain⟨o',z'⟩:=q b o z;rw[e] at z';cases z'
 obtain⟨⟨oe,vs,h1,h2,h3,h4⟩,h5,h6⟩:=f;refine⟨⟨oe,vs,h1,h2,h3,?_⟩,no _ h5,h6⟩;rcases h4 with h4|⟨T,oT,ts,a1,a2,a3⟩
 ·exact .inl h4
 ·exact .inr ⟨T,oT,ts,a1,no _ a2,a3⟩
theorem Fly.up (f:Fly L h0 H h a C):Fly L' h0 H h a C:=⟨f.obj,f.ge,f.fr⟩
def Been (h:Heap)(a:Addr):Prop:=∃oe vs T,h.get? a=some oe/\oe.data=.fields vs/\vs[1]?=some (.ref T)
structure Noted (L:Option Addr)(fs:List Addr)(n:Heap)(P:Program)(w:World)(H:Hp)(a C:Addr)(h h':Heap):Prop where
 un:∃ch,(∀c∈ch,n.get? c=none/\H c=none/\(∀o,h.get? c=some o->∃vs,o.data=.fields vs))/\Un fs ch H H h h'
 hok:HOk P w H h'
 fly:Fly L n H h' a C
 sz:h.objs.size<=h'.objs.size
theorem Un.twice (a:Un fs c1 H H h h1)(b:Un fs c2 H H h1 h2):Un fs (c1++c2) H H h h2:=by
 have l:∀ {x},x ∉ c1++c2->x ∉ c1:=fun q z=>q (RY _ z);have r:∀ {x},x ∉ c1++c2->x ∉ c2:=fun q z=>q (QX _ z);refine⟨fun x o e n hx q=>b.keep x o (a.keep x o e n hx (l q)) n hx (r q),fun x o e n hx q=>?_,fun x o e n q=>n,fun x o e q=>?_,fun _ _ q=>q,fun _ _ _ q=>q,fun _ ps q=>⟨#[],by rw[q];simp⟩⟩
 ·obtain⟨sl,z⟩:=a.slot x o e n hx (l q);obtain⟨sl',z'⟩:=b.slot x _ z n hx (r q);exact⟨sl',z'⟩
 ·obtain⟨o',z⟩:=a.there x o e (l q);exact b.there x o' z (r q)
section
variable {P:Program}{w:World}{A:Around}{E:Value->Shared->Prop}{s:Shared}
theorem BL {env:Env}{outer:List Env}{n:Heap}{M:Model}{Q:Unit->Shared->Prop}(hfr:A.frames=some (env::outer))(hl:s.heap.FunFrames base (env::outer))(hf:env.frame=some L)(frH:∀b∈frs (env::outer),H b=none)(ok:HOk P w H s.heap)(hns:n.objs.size<=s.heap.objs.size)(f:Fly (some L) n H s.heap a C)(h:∀h',Noted (some L) (frs (env::outer)) n P w H a C s.heap h'->Been h' a->Q () { s with heap:=h' }) :
  wpAny M A (noteFrame (.ref a) env) Q E s:=by
 have f0:=f;obtain⟨⟨oe,vs,he,hc,hd,h1⟩,hge,hH⟩:=f;unfold noteFrame;simp only[hf];have nofs:∀b o vs,s.heap.get? b=some o->o.data=.fields vs->b ∉ frs (env::outer):=fun b o vs e d hm=>by obtain⟨_,o',ho,hnf⟩:=hl.mem hm;rw[e] at ho;injection ho with ho;subst ho;exact hnf vs d
 have fin:∀(ch:List Addr) (h':Heap) (T:Addr) oe' vs' oT ts,(∀c∈ch,n.get? c=none/\H c=none/\(∀o,s.heap.get? c=some o->∃vs,o.data=.fields vs))->(∀b o,b ∉ frs (env::outer)->b ∉ ch->s.heap.get? b=some o->h'.get? b=some o)->(∀b o,b∈frs (env::outer)->s.heap.get? b=some o->∃sl,h'.get? b=some { o with slots:=sl }) ->
   (∀b o,s.heap.get? b=some o->b ∉ ch->∃o',h'.get? b=some o') ->
   s.heap.objs.size<=T->T≠a->h'.get? a=some oe'->oe'.cls=oe.cls->oe'.data=.fields vs'->vs'[1]?=some (.ref T)->h'.get? T=some oT->oT.data=.fields ts->ts[3]?=some (rawInt L)->Q () { s with heap:=h' }:=by
  intro ch h' T oe' vs' oT ts hch hk hsl hth hT hTa e1 e2 e3 e4 e5 e6 e7;have hTH:H T=none:=ok.fresh hT;refine h h' ⟨⟨ch,hch,⟨fun b o e _ hb hx=>hk b o hb hx e,fun b o e _ hb hx=>hsl b o hb e,fun b o e hn _=>hn,fun b o e hx=>hth b o e hx,fun b xs e=>e,fun b o u e=>e,fun b ps e=>⟨#[],by rw[e];simp⟩⟩⟩,fun b o e=>?_,⟨⟨oe',vs',e1,e2.trans hc,e3,.inr ⟨T,oT,ts,e4,Heap.get?_none_of_le (QP hns hT),hTa,hTH,e5,e6,_,e7⟩⟩,hge,hH⟩,?_⟩ ⟨oe',vs',T,e1,e3,e4⟩
  ·have nn:∀c,H c≠none->c ∉ frs (env::outer)/\c ∉ ch:=fun c z=>⟨fun q=>z (frH c q),fun q=>z (hch c q).2.1⟩;refine(ok b o e).stay (fun c u hc q=>?_) (fun c q=>q) fun c xs q=>q;have:H c≠none:=by
    rcases hc with rfl|hc
    ·rw[e];exact Option.some_ne_none _
    ·rw[hc];exact Option.some_ne_none _
   exact hk c u (nn c this).1 (nn c this).2 q
  ·exact QP hT (Q_ (QF e5))
 have ain:n.get? a=none/\H a=none/\(∀o,s.heap.get? a=some o->∃vs,o.data=.fields vs):=⟨hge,hH,fun o e=>by rw[he] at e;cases e;exact⟨vs,hd⟩⟩;rcases h1 with h1|⟨T,oT,ts,h1,hnT,hTa,hTH,hT,hdT,h3⟩
 ·refine P4 (wpAny_field he hd h1 ?_);rw[QC (by decide)];refine yq hfr hl hf he hd (RP.mp h1).1 fun h' T oe' vs' oT ts k1 k2 hT e1 e2 e3 e4 e5 e6 e7=>?_;refine fin [a] h' T oe' vs' oT ts (fun c hc=>by cases QI.mp hc;exact ain) (fun b o hb hx e=>k1 b o hb (fun q=>hx (by simp[q])) e) k2 (fun b o e hx=>?_) hT (fun q=>by rw[q] at hT;exact absurd (QF he) (UT.mpr hT)) e1 e2 e3 e4 e5 e6 e7;by_cases hb:b∈frs (env::outer)
  ·obtain⟨sl,z⟩:=k2 b o hb e;exact⟨_,z⟩
  ·exact⟨_,k1 b o hb (fun q=>hx (by simp[q])) e⟩
 ·obtain⟨fv,h3⟩:=h3;cases hfv:(fv == rawInt L) with
  | false =>
   refine P4 (wpAny_field he hd h1 ?_);rw[QA (show (Value.ref T != Value.none)=true from by simp)];refine P4 (wpAny_field hT hdT h3 ?_);rw[QC (by rw[hfv];exact P5)];refine P4 (wpAny_setField hT hdT (RP.mp h3).1 ?_);have other:∀b,b≠T->(s.heap.update T (Obj.mapFields (·.setIfInBounds 3 Value.none))).get? b=s.heap.get? b:=fun b hb=>RO _ _ (Ne.symm hb);have nT:∀b,b∈frs (env::outer)->b≠T:=fun b hb q=>nofs T oT ts hT hdT (q ▸ hb);have hl':(s.heap.update T (Obj.mapFields (·.setIfInBounds 3 Value.none))).FunFrames base (env::outer):=hl.of_keeps fun b o hb hnf=>⟨o,(other b fun q=>by rw[q,hT] at hb;injection hb with hb;subst hb;exact hnf ts hdT).trans hb,rfl⟩;refine yq (s:={ s with heap:=s.heap.update T (Obj.mapFields (·.setIfInBounds 3 Value.none)) }) hfr hl' hf ((other a (Ne.symm hTa)).trans he) hd (RP.mp h1).1 fun h' T' oe' vs' oT' ts' k1 k2 hT' e1 e2 e3 e4 e5 e6 e7=>?_;have hszu:(s.heap.update T (Obj.mapFields (·.setIfInBounds 3 Value.none))).objs.size=s.heap.objs.size:=Heap.size_after_update ..;have hT2:s.heap.objs.size<=T':=by rw[<-hszu];exact hT'
   have kk:∀b o,b ∉ frs (env::outer)->b ∉ [a,T]->s.heap.get? b=some o->h'.get? b=some o:=fun b o hb hx e=>k1 b o hb (fun q=>hx (by simp[q])) ((other b fun q=>hx (by simp[q])).trans e);have ks:∀b o,b∈frs (env::outer)->s.heap.get? b=some o->∃sl,h'.get? b=some { o with slots:=sl }:=fun b o hb e=>k2 b o hb ((other b (nT b hb)).trans e);refine fin [a,T] h' T' oe' vs' oT' ts' (fun c hc=>?_) kk ks (fun b o e hx=>?_) hT2 (fun q=>by rw[q] at hT2;exact absurd (QF he) (UT.mpr hT2)) e1 e2 e3 e4 e5 e6 e7
   ·rcases QZ.mp hc with rfl|hc
    ·exact ain
    ·cases QI.mp hc;exact⟨hnT,hTH,fun o e=>by rw[hT] at e;cases e;exact⟨ts,hdT⟩⟩
   ·by_cases hb:b∈frs (env::outer)
    ·obtain⟨sl,z⟩:=ks b o hb e;exact⟨_,z⟩
    ·exact⟨_,kk b o hb hx e⟩
  | true =>refine P4 (wpAny_field he hd h1 ?_);rw[QA (show (Value.ref T != Value.none)=true from by simp)];refine P4 (wpAny_field hT hdT h3 ?_);rw[QA hfv];exact QE (h s.heap ⟨⟨[],fun c z=>(by cases z),Un.refl⟩,ok,f0,P6 _⟩ ⟨oe,vs,T,he,hd,h1⟩)
theorem oo {fs:List Addr}{M:Model}{Q:Unit->Shared->Prop}(hfs:∀b∈fs,∃o,s.heap.get? b=some o/\∀vs,o.data≠.fields vs)(ok:HOk P w H s.heap)(f:Fly L n H s.heap a C)(h:∀h',Noted fv fs n P w H a C s.heap h'->Q () { s with heap:=h' }):wpAny M A (setFlight (.ref a) fv) Q E s:=by
 obtain⟨⟨oe,vs,he,hc,hd,h1⟩,hge,hH⟩:=f;unfold setFlight;rcases h1 with h1|⟨T,oT,ts,h1,hnT,hTa,hTH,hT,hdT,h3⟩
 ·refine P4 (wpAny_field he hd h1 ?_);rw[QC (by decide)];exact QE (h s.heap ⟨⟨[],fun c z=>(by cases z),Un.refl⟩,ok,⟨⟨oe,vs,he,hc,hd,.inl h1⟩,hge,hH⟩,P6 _⟩)
 ·refine P4 (wpAny_field he hd h1 ?_);rw[QA (show (Value.ref T != Value.none)=true from by simp)];have hsz:3<ts.size:=by obtain⟨_,h3⟩:=h3;exact(RP.mp h3).1
  refine wpAny_setField hT hdT hsz ?_;have other:∀b,b≠T->(s.heap.update T (Obj.mapFields (·.setIfInBounds 3 (fv.elim Value.none fun f=>rawInt f)))).get? b=s.heap.get? b:=fun b hb=>RO _ _ (Ne.symm hb);have nT:∀b∈fs,b≠T:=fun b hb q=>by obtain⟨o,e,z⟩:=hfs b hb;rw[q,hT] at e;cases e;exact z ts hdT
  refine h _ ⟨⟨[T],fun c z=>(by cases QI.mp z;exact⟨hnT,hTH,fun o e=>by rw[hT] at e;cases e;exact⟨ts,hdT⟩⟩),⟨fun b o e _ _ hx=>(other b fun q=>hx (by simp[q])).trans e,fun b o e _ hb _=>⟨o.slots,(other b (nT b hb)).trans e⟩,fun b o e hn _=>hn,fun b o e hx=>⟨o,(other b fun q=>hx (by simp[q])).trans e⟩,fun b xs e=>e,fun b o u e=>e,fun b ps e=>⟨#[],by rw[e];simp⟩⟩⟩,fun b o e=>?_,⟨⟨oe,vs,(other a (Ne.symm hTa)).trans he,hc,hd,.inr ⟨T,_,_,h1,hnT,hTa,hTH,SB _ hT (Obj.isFreed_of_fields (Obj.data_mapFields hdT _)),Obj.data_mapFields hdT _,?_⟩⟩,hge,hH⟩,US (Heap.size_after_update ..).symm⟩
  ·refine(ok b o e).stay (fun c u hc q=>(other c ?_).trans q) (fun c q=>q) fun c xs q=>q;rintro rfl;rcases hc with rfl|hc
   ·rw[hTH] at e;cases e
   ·rw[hTH] at hc;cases hc
  ·exact⟨(fv.elim Value.none fun f=>rawInt f),by simp[hsz]⟩
theorem Hu {fs:List Addr}{M:Model}{cenv:Env}(hfs:∀b∈fs,∃o,s.heap.get? b=some o/\∀vs,o.data≠.fields vs)(ok:HOk P w H s.heap)(f:Fly L n H s.heap a C)(bn:Been s.heap a)(h:∀h',Noted cenv.frame fs n P w H a C s.heap h'->E (.ref a) { s with heap:=h' }):wpAny M A (PySem.passOn what (.ref a) cenv:Sem Value) Q E s:=by
 obtain⟨oe,vs,T,b1,b2,b3⟩:=bn;unfold PySem.passOn;refine P4 (wpAny_field b1 b2 b3 ?_);rw[QC (show ¬((Value.ref T == Value.none)=true) from P5)];exact P4 (oo hfs ok f fun h2 nt=>wpAny_throw (h h2 nt))
theorem Noted.twice (x:Noted L fs n P w H a C h h1)(y:Noted L' fs n P w H a C h1 h2):Noted L' fs n P w H a C h h2:=by
 obtain⟨c1,k1,u1⟩:=x.un;obtain⟨c2,k2,u2⟩:=y.un;refine⟨⟨c1++c2,fun c hc=>?_,Un.twice u1 u2⟩,y.hok,y.fly,QP x.sz y.sz⟩;rcases Q5.mp hc with hc|hc
 ·exact k1 c hc
 ·obtain⟨p1,p2,p3⟩:=k2 c hc;refine⟨p1,p2,fun o e=>?_⟩;by_cases hc1:c∈c1
  ·exact(k1 c hc1).2.2 o e
  ·obtain⟨sl,z⟩:=u1.any e p2 hc1;obtain⟨vs,hv⟩:=p3 _ z;exact⟨vs,hv⟩
theorem wm {env:Env}{outer:List Env}{n:Heap}{M:Model}{Q:Unit->Shared->Prop}(hfr:A.frames=some (env::outer))(hl:s.heap.FunFrames base (env::outer))(hf:env.frame=some L)(frH:∀b∈frs (env::outer),H b=none)(ok:HOk P w H s.heap)(hns:n.objs.size<=s.heap.objs.size)(f:Fly (some L) n H s.heap a C)(h:∀h',Noted fv (frs (env::outer)) n P w H a C s.heap h'->Q () { s with heap:=h' }) :
  wpAny M A (noteFrame (.ref a) env) (fun _ s'=>wpAny M A (setFlight (.ref a) fv) Q E s') E s:=by
 refine BL hfr hl hf frH ok hns f fun h1 nt _=>?_;refine oo (fs:=frs (env::outer)) (fun b hb=>?_) nt.hok nt.fly fun h2 nt2=>h h2 (nt.twice nt2);obtain⟨_,o,ho,hnf⟩:=hl.mem hb;obtain⟨ch,hch,un⟩:=nt.un;have hbc:b ∉ ch:=fun z=>by obtain⟨vs,hv⟩:=(hch b z).2.2 o ho;exact hnf vs hv
 obtain⟨sl,z⟩:=un.any ho (frH b hb) hbc;exact⟨_,z,fun vs q=>hnf vs q⟩
end
theorem Un.noted (a:Un fs [] H0 H1 h0 h1)(b:Un fs' ch H1 H1 h1 h2)(hfs:∀x o,h0.get? x=some o->x∈fs'->x∈fs)(hsf:∀x∈fs,x∈fs')(hch:∀c∈ch,h0.get? c=none):Un fs [] H0 H1 h0 h2:=by
 have nc:∀x o,h0.get? x=some o->x ∉ ch:=fun x o e z=>by rw[hch x z] at e;cases e
 have nx:∀x:Addr,x ∉ ([]:List Addr):=fun x z=>by cases z
 refine⟨fun x o e n hx _=>?_,fun x o e n hx _=>?_,fun x o e n _=>a.free x o e n (nx x),fun x o e _=>?_,a.tups,a.frzs,a.tbls⟩
 ·exact b.keep x o (a.keep x o e n hx (nx x)) (a.free x o e n (nx x)) (fun z=>hx (hfs x o e z)) (nc x o e)
 ·obtain⟨sl,z⟩:=a.slot x o e n hx (nx x);obtain⟨sl',z'⟩:=b.slot x _ z (a.free x o e n (nx x)) (hsf x hx) (nc x o e);exact⟨sl',z'⟩
 ·obtain⟨o',z⟩:=a.there x o e (nx x);exact b.there x o' z (nc x o e)
noncomputable def CXe (P:Program)(w:World):CXT:=fun outer H s E e s'=>∃a C H',e=.ref a/\s'.os=s.os/\AllBare s'.gens/\s.heap.objs.size<=s'.heap.objs.size/\Un (frs outer) [] H H' s.heap s'.heap/\HOk P w H' s'.heap/\Fly none s.heap H' s'.heap a C/\E (.ref C) none H'
def xp (X:Cx)(Wx:Addr->Hp->Prop)(e:Value)(s':Shared):Prop:=∃a C pins σ H',e=.ref a/\L2.Inv X pins σ H' s'/\Fly (some X.env.locals) X.s₀.heap H' s'.heap a C/\Wx C H'
theorem DT {H:Hp}{E:XK}(h:xp (jk (CXe P w) P w K mg base N qual scope f cd A outer s H E) (fun C H'=>E (.ref C) none H') e s'):(jk (CXe P w) P w K mg base N qual scope f cd A outer s H E).xe e s':=by
 obtain⟨a,C,pins,σ,H',rfl,I,fl,q⟩:=h;show wpAny _ _ (leaving _ _) _ _ _;unfold leaving;have I':=I;refine P4 (wm (P:=P) (w:=w) (n:=s.heap) (base:=base) (I.ok.frames) I.stack rfl I.stkFree I.hok I.sz fl fun h' nt=>?_);obtain⟨⟨ch,hch,un⟩,hok,fl',sz⟩:=nt;refine⟨a,C,H',rfl,I.os,I.bare,QP I.sz sz,?_,hok,fl',q⟩;have bs:Un (frs outer) [] H H' s.heap s'.heap:=I.base;refine Un.noted bs un (fun x o e hx=>?_) (fun x hx=>QD _ hx) fun c hc=>(hch c hc).1;rcases QZ.mp hx with rfl|hx
 ·exact absurd (QF e) (UT.mpr I.ok.above)
 ·exact hx
theorem Ht {P:Program}{w:World}{X:Cx}{Wx:Addr->Hp->Prop}{σ:L2.St}(hP:X.prog=P)(hw:X.w=w)(hex:X.ex=[])(I:L2.Inv X pins σ H s)(h:CXe P w X.stack H s (fun v _ H'=>∃C,v=.ref C/\Wx C H') e s'):xp X Wx e s':=by subst hP hw;obtain⟨a,C,H',rfl,os,bare,sz,un,hok,fl,C',hC,q⟩:=h;cases hC;exact⟨a,C,pins,σ,H',rfl,I.call' os un hok bare (fun b z=>by cases z),(fl.le fun b o e=>I.base.there b o e (by rw[hex];intro z;cases z)).up,q⟩
theorem Inv.noted {σ:L2.St}(I:L2.Inv X pins σ H s)(hpn:X.pn=[])(hex:X.ex=[])(hst:X.stack=X.env::X.outer)(hfr:X.env.frame=some X.env.locals)(nt:Noted L (frs X.stack) X.s₀.heap X.prog X.w H a C s.heap h'):L2.Inv X [] σ H { s with heap:=h' }:=by
 obtain⟨ch,hch,un⟩:=nt.un;have bs:Un X.fs X.ex X.H₀ H X.s₀.heap h':=by
  have b0:=I.base;rw[hex] at b0 |-
  refine Un.noted b0 un (fun x o e hx=>?_) (fun x hx=>by rw[hst];exact R7.mpr (by obtain⟨v,z1,z2⟩:=R7.mp hx;exact⟨v,QD _ z1,z2⟩)) fun c hc=>(hch c hc).1;rw[hst] at hx;unfold frs at hx;rw[Q1,hfr] at hx;rcases QZ.mp hx with rfl|hx
  ·exact absurd (QF e) (UT.mpr I.ok.above)
  ·exact hx
 have cl:∀ {c:Addr}{v:Option Value},H c=none->s.heap.IsCell c v->h'.IsCell c v:=fun {c v} hc z=>by
  obtain⟨o,e,d⟩:=z;have hcc:c ∉ ch:=fun q=>by obtain⟨vs,hv⟩:=(hch c q).2.2 o e;rw[d] at hv;cases hv
  obtain⟨sl,e2⟩:=un.any e hc hcc;exact⟨_,e2,d⟩
 obtain⟨m,⟨o,es,ep,ho,hd,r⟩,lk⟩:=id I.loc;have hlc:X.env.locals ∉ ch:=fun q=>by obtain⟨vs,hv⟩:=(hch _ q).2.2 o ho;rw[hd] at hv;cases hv
 obtain⟨sl,hL⟩:=un.any ho I.free hlc;refine⟨I.ok,I.os,I.bare,bs,⟨m,⟨_,es,ep,hL,hd,r⟩,fun i x v e1 e2 e3=>?_⟩,fun x c e=>?_,I.free,I.freeC,(fun p hp=>by rw[hpn] at hp;cases hp),nt.hok,I.len⟩
 ·obtain⟨u,r1,q⟩:=lk i x v e1 e2 e3;refine⟨u,r1,?_⟩;rcases q with q|⟨k,c,e,z⟩
  ·exact .inl q
  ·exact .inr ⟨k,c,e,cl (I.freeC x c e) z⟩
 ·obtain⟨v,z⟩:=I.cell x c e;exact⟨v,cl (I.freeC x c e) z⟩
end FW
namespace FW
open L2 HX
noncomputable abbrev jO:List Value:=[.type "ValueError",.type "Exception",.type "BaseException",.type "object"]
theorem vP {K:W.Frag}{mg:Str->Option Value}(X:K.In h)(m:mg x=some (.ref C))(q:W.excIn K C bmB newId=true):OwnCls x C bmB newId mg h:=by
 refine⟨m,?_⟩;unfold W.excIn at q;split at q
 ·rename_i dd cd sl ho;split at q
  ·rename_i C' bm k0 k1 k2 k3 n k5 hm hs;simp only[Bool.and_eq_true,beq_iff_eq,Bool.not_eq_true'] at q;obtain⟨⟨⟨⟨⟨rfl,rfl⟩,hdel⟩,ht⟩,hok⟩,hni⟩:=q;obtain⟨nm,bs,mro,ns,qn,hd,sn,sub,ab,col,del⟩:=cd;dsimp only at hm hdel hok hni;subst hm hdel;have hsl:sl=#[k0,k1,k2,k3,some (.builtin n),k5]:=by obtain⟨l⟩:=sl;simp only at hs;rw[hs]
   subst hsl;exact⟨bm,ns,nm,qn,bs,hd,sn,sub,ab,col,dd,k0,k1,k2,k3,k5,_,X _ _ ho,.of_isNs (W.isNs_of_in X hok),W.nsMap_none_of_in X hok hni,W.tail_of_in X ht⟩
  ·cases q
 ·cases q
theorem ObjOk.obj (x:ObjOk P w H h a o):∃u,h.get? a=some u:=by
 cases o with
 | lst xs=>obtain⟨_,_,_,_,e⟩:=x;exact⟨_,e⟩
 | tup xs=>obtain⟨_,_,_,o,e,_⟩:=x;exact⟨_,e⟩
 | dK kvs=>obtain⟨_,_,_,_,o,_,_,e,_⟩:=x;exact⟨_,e⟩
 | dT kvs=>obtain⟨_,_,_,_,o,_,_,e,_⟩:=x;exact⟨_,e⟩
 | set S n=>obtain⟨o,_,_,_,e,_⟩:=x;exact⟨_,e⟩
 | ins C dx fs=>obtain⟨_,_,_,e,_⟩:=x;exact⟨_,e⟩
 | own y=>obtain⟨_,e⟩:=x;exact⟨_,e⟩
 | xd fs=>obtain⟨_,⟨_,_,_,e,_⟩,_⟩:=x;exact⟨_,e⟩
 | rng lo hi=>obtain⟨_,_,_,e⟩:=x;exact⟨_,e⟩
 | frz ob u=>obtain⟨e,_⟩:=x;exact⟨_,e⟩
 | tbl ps=>exact⟨_,show h.get? a=some _ from x⟩
 | met f y=>exact⟨_,show h.get? a=some _ from x⟩
 | ext φ=>obtain⟨_,⟨_,e⟩,_⟩:=x;exact⟨_,e⟩
section
variable {X:Cx}{pins:List (Addr × Obj)}{σ:L2.St}{H:Hp}{s:Shared}
theorem Me {Wx:Addr->Hp->Prop}(I:L2.Inv X pins σ H s)(hex:X.ex=[])(m:Heap.MadeExcOf s.heap h' e (.ref C) vs)(w:Wx C H):xp X Wx (.ref e) { s with heap:=h' }:=by
 refine⟨e,C,pins,σ,H,rfl,I.call' (ch:=[]) rfl (Un.kept m.keeps) (I.hok.kept m.keeps) I.bare (fun b z=>by cases z),⟨?_,?_,?_⟩,w⟩
 ·obtain⟨t,e1,_⟩:=m.there;exact⟨_,_,e1,rfl,rfl,.inl rfl⟩
 ·cases z:X.s₀.heap.get? e with
  | none=>rfl
  | some o =>obtain⟨o',z'⟩:=I.base.there e o z (by rw[hex];intro z;cases z);rw[m.new] at z';cases z'
 ·cases z:H e with
  | none=>rfl
  | some o =>obtain⟨u,z'⟩:=ObjOk.obj (I.hok e o z);rw[m.new] at z';cases z'
theorem FO {Wx:Addr->Hp->Prop}{D:L2.Ends}(I:L2.Inv X pins σ H s)(hc:X.calm=true)(hex:X.ex=[])(hg:Gl X x)(hdb:(x == ("__debug__":Str))=false)(hm:X.mg x=some (.ref C))(q:W.excIn X.K C jO "ValueError.__new__"=true)(w:Wx C H) :
  wpAny (model X.prog X.w) X.A (exec (.Raise (some (.Call (.Name x np) [.Constant (.str t) j ap] [] cp)) none pos) X.env) (SP X pins D) (xp X Wx) s:=by
 have FB:=PySem.F.excBase_ValueError;obtain⟨tl,N,nm,qn,bs,hdct,sn,sub,ab,col,dd,k0,k1,k2,k3,k5,mN,hC,hN,hni,T⟩:=(vP (x:=x) (mg:=X.mg) I.ok.mod.kin hm q).obj;have hplain:(backTo cp (starEach [.Constant (.str t) j ap] X.env)).any (·.1)=false:=iS (pos:=cp) (es:=[.Constant (.str t) j ap]) rfl;refine wpAny_Raise_call_subU (C:=C) (nm:=nm) (q:=qn) (N:=N) (bs:=bs) (bm:=tl) (hdct:=hdct) (sn:=sn) (sub:=sub) (ab:=ab) (col:=col) (dd:=dd) (k0:=k0) (k1:=k1) (k2:=k2) (k3:=k3) (k5:=k5) (mN:=mN)
  FB (by decide) FB (T.hasType FB.hasBase) (I.ok.hd hc) hplain hni (i7 I hg hm ⟨rfl,?_⟩ hdb)
 have hA:PA X.nox [.Constant (.str t) j ap] (fj (tC (.str t)) om):=pac v8 eg rfl;have st1:starEach [.Constant (.str t) j ap] X.env=(false,eval (.Constant (.str t) j ap) X.env)::starEach [] X.env:=av rfl;have h0:wpAny (model X.prog X.w) X.A (spliced (backTo cp (starEach [.Constant (.str t) j ap] X.env))) (AP X.nox pins σ (fun vs H1=>vs=[.str t]/\H1=H)) (fun _ _=>False) s:=hA cp pins s σ H _ (I.wish _) ⟨rfl,rfl⟩;rw[st1] at h0 |-
 refine Calls.evalArgs_plain (wpAny_mono h0 (fun us s2 ⟨vs,H1,I2,r,hv,hH⟩=>?_) fun _ _ z=>False.elim z);subst hv hH;have I3:=I2.unwish;refine⟨rfl,by rw[<-r.length];show 1<=sizeLine;decide,?_⟩;exact⟨I3.bk _ _ hC,hN.keeps I3.bk,T.keeps I3.bk,fun h' e m=>Me I3 hex m w⟩
end
end FW
namespace FW
open L2 HX
noncomputable abbrev XW:=Nat->AH->Prop
noncomputable abbrev okR (v:PV):PV:=.tup [.bl true,v]
noncomputable abbrev exR (k:Nat):PV:=.tup [.bl false,.int k]
noncomputable def oa (Q:EK)(Wx:XW):EK:=fun r st=>match r with
 | .tup [.bl true,v]=>Q v st
 | .tup [.bl false,.int k]=>Wx k.toNat st
 | _=>False
theorem kg:oa Q Wx (okR v) st=Q v st:=rfl
theorem cW {Q':EK}{W':XW}(hq:∀v st,Q v st->Q' v st)(hw:∀k st,Wx k st->W' k st):∀r st,oa Q Wx r st->oa Q' W' r st:=by
 intro r st h;unfold oa at h |-
 split at h
 ·exact hq _ _ h
 ·exact hw _ _ h
 ·exact h.elim
noncomputable def fP (sp:FSp)(chk:AH->Prop):List PV->List PV->AH->LK->XW->Prop
 | [],acc,st,Q,_=>chk st/\Q acc st
 | x::xs,acc,st,Q,W=>chk st/\sp [x] st (oa (fun v st'=>fP sp chk xs (acc++[v]) st' Q W) W)
theorem eL {sp:FSp}(ms:∀as st Q Q',(∀v st,Q v st->Q' v st)->sp as st Q->sp as st Q'){Q':LK}{W':XW}(hq:∀v st,Q v st->Q' v st)(hw:∀k st,W k st->W' k st):∀ {xs acc:List PV}{st:AH},fP sp chk xs acc st Q W->fP sp chk xs acc st Q' W'
 | [],acc,st,h=>⟨h.1,hq _ _ h.2⟩
 | x::xs,acc,st,h=>⟨h.1,ms _ _ _ _ (cW (fun v st' z=>eL ms hq hw z) hw) h.2⟩
mutual
inductive XS where
 | st (s:S)|ifX (t:E) (a b:XSs)|raise (k:Nat)|setX (i f:Nat) (es:Es)|setC (i f:Nat) (it:It) (y:Str)|retC (f:Nat) (it:It) (y:Str)
inductive XSs where
 | nil|cons (s:XS) (ss:XSs)
end
mutual
noncomputable def wpX (Γ ΓR:Nat->FSp):XS->Fr->AH->aK->XW->Prop
 | .st s,ρ,st,D,_=>wpS Γ s ρ st D
 | .ifX t a b,ρ,st,D,Wx=>wpT Γ t ρ st fun k st1=>if k=true then dR Γ ΓR a ρ st1 D Wx else dR Γ ΓR b ρ st1 D Wx
 | .raise k,_,st,_,Wx=>Wx k st
 | .setC i f it _,ρ,st,D,Wx=>fS Γ it ρ st fun xs chk st1=>xs.length<100000/\fP (ΓR f) chk xs [] st1 (fun vs st2=>D.nx (ρ.set i (some (.tup vs))) (st2++[.lst vs])) Wx
 | .retC f it _,ρ,st,D,Wx=>fS Γ it ρ st fun xs chk st1=>xs.length<100000/\fP (ΓR f) chk xs [] st1 (fun vs st2=>D.rt (.tup vs) (st2++[.lst vs])) Wx
 | .setX i f es,ρ,st,D,Wx=>cC Γ es ρ st fun vs st1=>ΓR f vs st1 (oa (fun v st2=>D.nx (ρ.set i (some v)) st2) Wx)
noncomputable def dR (Γ ΓR:Nat->FSp):XSs->Fr->AH->aK->XW->Prop
 | .nil,ρ,st,D,_=>D.nx ρ st
 | .cons s ss,ρ,st,D,Wx=>wpX Γ ΓR s ρ st { D with nx:=fun ρ1 st1=>dR Γ ΓR ss ρ1 st1 D Wx } Wx
end
section
variable {Γ ΓR:Nat->FSp}
mutual
theorem xR (G:aW Γ)(G':aW ΓR):∀(s:XS) {ρ:Fr}{st:AH}{D D':aK}{Wx W':XW},jt D D'->(∀k st,Wx k st->W' k st)->wpX Γ ΓR s ρ st D Wx->wpX Γ ΓR s ρ st D' W'
 | .st s,ρ,st,D,D',Wx,W',hD,hW,h=>by
  rw[wpX] at h |-
  exact j8 G s hD h
 | .ifX t a b,ρ,st,D,D',Wx,W',hD,hW,h=>by
  rw[wpX] at h |-
  refine aP G t (fun k st1 z=>?_) h;cases k with
  | true=>rw[QA rfl] at z |-;exact eH G G' a hD hW z
  | false=>rw[QC P5] at z |-;exact eH G G' b hD hW z
 | .raise k,ρ,st,D,D',Wx,W',hD,hW,h=>by
  rw[wpX] at h |-
  exact hW _ _ h
 | .setC i f it y,ρ,st,D,D',Wx,W',hD,hW,h=>by
  rw[wpX] at h |-
  exact cu G it (fun xs chk st1 z=>⟨z.1,eL (fun as st Q Q'=>G' f as st Q Q') (fun vs st2 q=>hD.nx _ _ q) hW z.2⟩) h
 | .retC f it y,ρ,st,D,D',Wx,W',hD,hW,h=>by
  rw[wpX] at h |-
  exact cu G it (fun xs chk st1 z=>⟨z.1,eL (fun as st Q Q'=>G' f as st Q Q') (fun vs st2 q=>hD.rt _ _ q) hW z.2⟩) h
 | .setX i f es,ρ,st,D,D',Wx,W',hD,hW,h=>by
  rw[wpX] at h |-
  exact aA G es (fun vs st1 z=>G' _ _ _ _ _ (cW (fun v st2 z=>hD.nx _ _ z) hW) z) h
theorem eH (G:aW Γ)(G':aW ΓR):∀(s:XSs) {ρ:Fr}{st:AH}{D D':aK}{Wx W':XW},jt D D'->(∀k st,Wx k st->W' k st)->dR Γ ΓR s ρ st D Wx->dR Γ ΓR s ρ st D' W'
 | .nil,ρ,st,D,D',Wx,W',hD,hW,h=>by
  rw[dR] at h |-
  exact hD.nx _ _ h
 | .cons s ss,ρ,st,D,D',Wx,W',hD,hW,h=>by
  rw[dR] at h |-
  exact xR G G' s (D:={ D with nx:=fun ρ1 st1=>dR Γ ΓR ss ρ1 st1 D Wx }) (D':={ D' with nx:=fun ρ1 st1=>dR Γ ΓR ss ρ1 st1 D' W' }) ⟨fun _ _ z=>eH G G' ss hD hW z,hD.rt,hD.bk,hD.ct⟩ hW h
end
end
structure Xf where
 xs:List Str
 rz:List Nat
noncomputable def LJ (x:Stmt)(f:Expr->Bool):Bool:=match x with | .Raise (some e) none _=>f e|_=>false
theorem Ds (h:LJ x f=true):∃e p,x=.Raise (some e) none p/\f e=true:=by
 cases x with
 | Raise o c p =>
  cases o with
  | none=>exact Bool.noConfusion h
  | some e=>cases c with|none=>exact⟨_,_,rfl,h⟩|some _=>exact Bool.noConfusion h
 | _=>exact Bool.noConfusion h
noncomputable def mv (x:Expr)(f:Str->List Expr->Bool):Bool:=aQ x fun g as _=>ay g fun y _=>f y as
theorem gZ (h:mv x f=true):∃g gp as p,x=.Call (.Name g gp) as [] p/\f g as=true:=by replace h:=aD h;obtain⟨g,as,p,rfl,h⟩:=h;replace h:=ai h;obtain⟨y,q,rfl,h⟩:=h;exact⟨_,_,_,_,rfl,h⟩
noncomputable def onRaise (x:Stmt)(f:Str->Bool):Bool:=LJ x fun e=>mv e fun y as=>on1 as fun a=>uo a fun _=>f y
theorem xj (h:onRaise x f=true):∃y np t j ap cp pos,x=.Raise (some (.Call (.Name y np) [.Constant (.str t) j ap] [] cp)) none pos/\f y=true:=by replace h:=Ds h;obtain⟨e,p,rfl,h⟩:=h;replace h:=gZ h;obtain⟨g,gp,as,cp,rfl,h⟩:=h;replace h:=bj h;obtain⟨a,rfl,h⟩:=h;replace h:=kG h;obtain⟨j,k,q,rfl,h⟩:=h;exact⟨_,_,_,_,_,_,_,rfl,h⟩
noncomputable def D7 (x:Stmt)(f:Str->Str->Expr->List Expr->Bool):Bool:=tQ x fun t v=>ay t fun y _=>mv v fun g as=>ir as fun a r=>f y g a r
theorem yN (h:D7 x f=true):∃y p g gp a as cp pos,x=.Assign [.Name y p] (.Call (.Name g gp) (a::as) [] cp) pos/\f y g a as=true:=by replace h:=iU h;obtain⟨t,v,p,rfl,h⟩:=h;replace h:=ai h;obtain⟨y,q,rfl,h⟩:=h;replace h:=gZ h;obtain⟨g,gp,as,cp,rfl,h⟩:=h;replace h:=aC h;obtain⟨a,r,rfl,h⟩:=h;exact⟨_,_,_,_,_,_,_,_,rfl,h⟩
noncomputable def pW (x:Expr)(f:Str->Expr->Bool):Bool:=mv x fun g as=>on1 as fun a=>f g a
theorem jK (h:pW x f=true):∃g gp a p,x=.Call (.Name g gp) [a] [] p/\f g a=true:=by replace h:=gZ h;obtain⟨g,gp,as,cp,rfl,h⟩:=h;replace h:=bj h;obtain⟨a,rfl,h⟩:=h;exact⟨_,_,_,_,rfl,h⟩
noncomputable def BR (c:Cfg)(F:Xf)(f:Nat)(it:It)(y:Str)(x:Expr):Bool:=Df x fun ex gs sc _=>on1 gs fun g=>g.is_async == 0 && Ay it g.target && gQ g.iter && c.block [y] [] sc && By c it g.iter && j6 (c.inner [y] [] sc) (.name 0) g.target && g.ifs.isEmpty && pW ex fun h a=>(c.inner [y] [] sc).fn f h && F.rz.contains f && aj a && ay a fun z _=>(c.inner [y] [] sc).N[0]? == some z && (c.inner [y] [] sc).vis z
mutual
noncomputable def xy (c:Cfg)(F:Xf):XS->Stmt->Bool
 | .st s,x=>Hh c s x
 | .ifX t a b,x=>MB x fun y ys zs=>zF c t y && jB c F a ys && jB c F b zs
 | .raise k,x=>onRaise x fun y=>F.xs[k]? == some y && c.glb y
 | .setC i f it y,x=>tQ x fun t v=>ay t fun z _=>c.N[i]? == some z && c.loc z && pW v fun q l=>q == ("tuple":Str) && c.blt q && aj l && BR c F f it y l
 | .retC f it y,x=>Bx x fun o=>jQ o fun v=>pW v fun q l=>q == ("tuple":Str) && c.blt q && aj l && BR c F f it y l
 | .setX i f es,x=>D7 x fun y g a as=>c.N[i]? == some y && c.loc y && c.fn f g && F.rz.contains f && aj a && as.all aj && eG c es (a::as)
noncomputable def jB (c:Cfg)(F:Xf):XSs->List Stmt->Bool
 | .nil,x=>x.isEmpty
 | .cons s ss,x=>ir x fun y ys=>xy c F s y && jB c F ss ys
end
noncomputable def O2 (K:W.Frag)(m:List Addr)(H:Hp)(ca:Nat->Addr)(E:XK):XW:=fun k st'=>∀m' H',Ext K m H m' H'->RH K m' H' st'->E (.ref (ca k)) none H'
noncomputable def jJ (K:W.Frag)(ca:Nat->Addr)(sp:FSp):Sp:=fun vs H Q E=>∃m st as,Rs K m H as vs/\RH K m H st/\sp as st (oa (post K m H Q) (O2 K m H ca E))
structure HasX (P:Program)(w:World)(K:W.Frag)(mg:Str->Option Value)(base:Heap)(k:Nat)(x:Str)(ps:List Str)(sp:Sp):Prop where
 ex:∃(f:Addr) (fd:FuncData),pB P w K mg base (CXe P w) k f fd ps sp/\mg x=some (.ref f)/\W.keepIn K (.ref f)=true/\Binds K fd ps []
structure XG (P:Program)(w:World)(K:W.Frag)(mg:Str->Option Value)(base:Heap)(c:Cfg)(F:Xf)(ΓR:Nat->FSp)(ca:Nat->Addr):Prop where
 fn:∀f x,f<c.lim->c.fns[f]?=some x->F.rz.contains f=true->∃ps,HasX P w K mg base (f+1) x ps (jJ K ca (ΓR f))
 cls:∀k x,F.xs[k]?=some x->mg x=some (.ref (ca k))/\W.excIn K (ca k) jO "ValueError.__new__"=true
 mono:aW ΓR
noncomputable def postW (K:W.Frag)(m:List Addr)(H:Hp)(ca:Nat->Addr)(Wx:Addr->Hp->Prop):XW:=fun k st'=>∀m' H',Ext K m H m' H'->RH K m' H' st'->Wx (ca k) H'
theorem postW.ext {ca:Nat->Addr}(x:Ext K m H m1 H1)(q:postW K m H ca Wx k st):postW K m1 H1 ca Wx k st:=fun m' H' e r=>q m' H' (x.trans e) r
noncomputable abbrev TX:=L2.Ends->(Addr->Hp->Prop)->L2.St->Hp->Prop
noncomputable def TXx (K:W.Frag)(ca:Nat->Addr)(w:Fr->AH->aK->XW->Prop):TX:=fun D Wx σ H=>∃m ρ st,RF K m H ρ σ/\RH K m H st/\w ρ st (AE K m H D) (postW K m H ca Wx)
def PX (X:Cx)(st:Stmt)(t:TX):Prop :=
 ∀(pins:List (Addr × Obj)) (s:Shared) (σ:L2.St) (H:Hp) (D:L2.Ends) (Wx:Addr->Hp->Prop),L2.Inv X pins σ H s->t D Wx σ H->wpAny (model X.prog X.w) X.A (exec st X.env) (SP X pins D) (xp X Wx) s
def PXs (X:Cx)(st:List Stmt)(t:TX):Prop :=
 ∀(pins:List (Addr × Obj)) (s:Shared) (σ:L2.St) (H:Hp) (D:L2.Ends) (Wx:Addr->Hp->Prop),L2.Inv X pins σ H s->t D Wx σ H->wpAny (model X.prog X.w) X.A (execs st X.env) (SP X pins D) (xp X Wx) s
section
variable {X:Cx}{c:Cfg}{F:Xf}{Γ ΓR:Nat->FSp}{ca:Nat->Addr}
theorem PA.to {E:Value->Shared->Prop}(h:PA X.nox es t):PA (X.wish E) es t:=fun pos pins s σ H Q I w =>
 wpAny_mono (h pos pins s σ H Q (I.unwish.wish _) w) (fun _ _ ⟨v,H',I',r,q⟩=>⟨v,H',I'.unwish.wish _,r,q⟩) fun _ _ z=>False.elim z
theorem Im (C:COk X.nox c Γ)(G:XG X.prog X.w X.K X.mg X.base c F ΓR ca)(hex:X.ex=[]){i:Nat}{as:List Expr}(h:(c.N[i]? == some y && c.loc y && c.fn f g && F.rz.contains f && aj a && as.all aj && eG c es (a::as))=true):PX X (.Assign [.Name y p] (.Call (.Name g gp) (a::as) [] cp) pos) (TXx X.K ca (wpX Γ ΓR (.setX i f es))):=by
 simp only[Bool.and_eq_true] at h;obtain⟨⟨⟨⟨⟨⟨h1,h2⟩,h3⟩,h4⟩,h5⟩,h6⟩,h7⟩:=h;obtain⟨g1,g2⟩:=C.locx h2;obtain⟨k1,k2,k3,_⟩:=C.fnx h3;have h3':=h3;unfold Cfg.fn at h3';simp only[Bool.and_eq_true,beq_iff_eq,decide_eq_true_eq] at h3';obtain⟨ps,HF⟩:=G.fn f g h3'.1.2 h3'.1.1 h4;obtain⟨fa,fd,Fn,fm,fk,fb⟩:=HF.ex;rintro pins s σ H D Wx I ⟨m,ρ,st,rf,rh,w⟩;rw[wpX] at w;have hps:qG (CXe X.prog X.w) (X.wish (xp X Wx)) (fun v _ H'=>∃C,v=.ref C/\Wx C H'):=fun pins σ H s e s' I q=>Ht (X:=X) rfl rfl hex I.unwish q;have hE:PE (X.wish (xp X Wx)) (.Call (.Name g gp) (a::as) [] cp) (mJ (jJ X.K ca (ΓR f)) [] (fun v _ H'=>∃C,v=.ref C/\Wx C H') (TAx X.K (cC Γ es))) :=
  BW (X:=X.wish (xp X Wx)) Fn k3 k1 fm fk fb .nil hps (PA.to (kZ es C _ h7)) k2 (av h5) (iS h6)
 refine wpAny_mono (qr (X:=X.wish (xp X Wx)) (i:=i) C.ndX (by have:=C.N;exact(Q0 (fun l=>l[i]?) this).trans (beq_iff_eq.mp h1)) g1 hE (cQ rfl) g2 pins s σ H D (I.wish _) ⟨m,ρ,st,rf,rh,aA C.mono es (fun vs st1 k m1 H1 xs1 e1 r1 r2=>⟨m1,st1,vs,lW r2,r1,G.mono _ _ _ _ _ (cW (fun v st2 q m2 H2 x2 e2 r3 r4=>?_) fun k st2 q m2 H2 e2 r3=>?_) k⟩) w⟩) (fun _ _ q=>q.unwish) fun _ _ q=>q
 ·exact q m2 H2 _ (e1.trans e2) r3 (((rf.mono e1).mono e2).set i r4)
 ·exact⟨ca k,rfl,q m2 H2 (e1.trans e2) r3⟩
theorem sX {R:Result->Shared->Prop}{s:Shared}{acc:Value}(I:Nat->Shared->Prop)(Ex:Value->Shared->Prop)(turn:∀n s,I n s->wpAny (model prog w) A (pyNext it) (fun r s₁=>match r with
   | none=>R (.ok .next) s₁
   | some v=>wpAny (model prog w) A (letOwnedTupleGo target it v) (fun _ s0=>wpAny (model prog w) A (assign target env v) (fun _ s₂ =>
      wpAny (model prog w) A (eval elt env) (fun x s₄ =>
       wpAny (model prog w) A (call (.builtin "list.append") [acc,x]) (fun _ s₅=>∃m,m<n/\I m s₅) (fun _ _=>False) s₄) Ex s₂) (fun _ _=>False) s0) (fun _ _=>False) s₁) (fun _ _=>False) s)(thrown:∀e s',Ex e s'->notedBy (model prog w) A env (fun x s''=>R (.error x) s'') e s')(n:Nat)(h:I n s):codeAny (model prog w) A (.compLoop (.ListComp elt [⟨target,iter,[],0⟩] scope pos) 0 it acc env) R s:=by
 refine codeAny_loop rfl I (fun n s hI=>?_) n h;show wpAny _ A ((compTurn (.ListComp elt [⟨target,iter,[],0⟩] scope pos) 0 it acc env).onRaise (fun x=>do noteFrame x env;theTreesLotGoes x)) _ _ s;refine wpAny_noted ?_;rw[compTurn_list];refine P4 (wpAny_standAt (P4 (wpAny_mono (turn n s hI) (fun r s₁ h₁=>?_) fun _ _ h'=>h'.elim)));cases r with
 | none=>exact QE h₁
 | some v =>refine P4 (wpAny_mono h₁ (fun _ s0 h₁=>?_) fun _ _ h'=>h'.elim);refine P4 (wpAny_mono h₁ (fun _ s₂ h₂=>P4 (QE ?_)) fun _ _ h'=>h'.elim);exact P4 (P4 (wpAny_mono h₂ (fun x s₄ h₄=>P4 (wpAny_mono h₄ (fun _ s₅ h₅=>QE (QE ⟨rfl,h₅⟩)) fun _ _ h'=>h'.elim)) thrown))
theorem Fly.but {D:Addr}(f:Fly L h0 H h a C)(sb:Heap.SameBut D h h')(hD:∀o,h.get? D=some o->∀vs,o.data≠.fields vs):Fly L h0 H h' a C:=by
 obtain⟨⟨oe,vs,h1,h2,h3,h4⟩,h5,h6⟩:=f;have ha:a≠D:=fun z=>hD oe (by rw[<-z];exact h1) vs h3;refine⟨⟨oe,vs,(sb.2 a ha).trans h1,h2,h3,?_⟩,h5,h6⟩;rcases h4 with h4|⟨T,oT,ts,a1,a2,a3,a4,a5,a6,a7⟩
 ·exact .inl h4
 ·have hT:T≠D:=fun z=>hD oT (by rw[<-z];exact a5) ts a6;exact .inr ⟨T,oT,ts,a1,a2,a3,a4,(sb.2 T hT).trans a5,a6,a7⟩
theorem Been.but {D:Addr}(f:Been h a)(sb:Heap.SameBut D h h')(hD:∀o,h.get? D=some o->∀vs,o.data≠.fields vs):Been h' a:=by obtain⟨oe,vs,T,h1,h2,h3⟩:=f;have ha:a≠D:=fun z=>hD oe (by rw[<-z];exact h1) vs h2;exact⟨oe,vs,T,(sb.2 a ha).trans h1,h2,h3⟩
section
variable {X:Cx}{Γ ΓR:Nat->FSp}{ca:Nat->Addr}{pins:List (Addr × Obj)}{σ:L2.St}{H:Hp}{s:Shared}
theorem Af {Wo:Addr->Hp->Prop}{fp:List Addr}{C:Addr}{D:Value}(hpn:X.pn=[])(hex:X.ex=[])(hst:X.stack=X.env::X.outer)(hfr:X.env.frame=some X.env.locals)(I2:L2.Inv X pins σ H2 s2)(f2:∀b∈fp,jX X pins H2 b)(hC:s2.heap.objs.size<=C){σ1:L2.St}(I1:L2.Inv (cxC X N s2 H2 fp scope C) pins1 σ1 H1 s1)(cx:CXe X.prog X.w X.stack H1 s1 (fun v _ H'=>∃C,v=.ref C/\Wo C H') e s') :
  notedBy (model X.prog X.w) X.A (compEnvC scope (iC X.env scope.names []) C X.env) (fun x s''=>compPost (model X.prog X.w) X.A (xp X Wo) use Qf D C (.error x) s'') e s':=by
 obtain⟨a,C0,H',rfl,os,bare,sz,un,hok,fl,C1,hC1,wq⟩:=cx;cases hC1;have IZ:L2.Inv (cxC X N s2 H2 fp scope C) pins1 σ1 H' s':=I1.call' (ch:=[]) os un hok bare fun b z=>by cases z
 have out:∀ {σ':L2.St}{H':Hp}{s':Shared}{ps:List (Addr × Obj)},L2.Inv (cxC X N s2 H2 fp scope C) ps σ' H' s'->L2.Inv X pins σ H' s':=fun {σ' H' s' ps} J=>I2.call' J.os J.base J.hok J.bare fun b hb=>⟨(f2 b hb).2.2.2.1,(f2 b hb).2.1,(f2 b hb).2.2.2.2.1,(f2 b hb).2.2.2.2.2⟩;have IX:=out IZ;have IX1:=out I1;have fX:Fly none X.s₀.heap H' s'.heap a C0:=fl.le fun b o e=>IX1.base.there b o e (by rw[hex];intro z;cases z);obtain⟨m,⟨oC,esC,epC,hoC,hdC,rC⟩,_⟩:=id IZ.loc;have hoC:s'.heap.get? C=some oC:=hoC;show wpAny _ _ (noteFrame (.ref a) X.env) _ _ _;refine BL (P:=X.prog) (w:=X.w) (n:=X.s₀.heap) (base:=X.base) (outer:=X.outer) (by rw[<-hst];exact IX.ok.frames) (by rw[<-hst];exact IX.stack) hfr (by rw[<-hst];exact IX.stkFree) IX.hok IX.sz fX.up fun h1 nt bn=>?_;rw[<-hst] at nt;have I5:=Inv.noted IX hpn hex hst hfr nt;obtain⟨ch,hch,un5⟩:=id nt.un;have hCc:C ∉ ch:=fun q=>by obtain⟨vs,hv⟩:=(hch C q).2.2 oC hoC;rw[hdC] at hv;cases hv
 have hCH:H' C=none:=IZ.free;obtain⟨sl,hC1⟩:=un5.any hoC hCH hCc;refine⟨m,⟨_,esC,epC,hC1,hdC,rC⟩,fun h' sb cenv _=>?_⟩;have noD:∀o,h1.get? C=some o->∀vs,o.data≠.fields vs:=fun o e vs z=>by rw[hC1] at e;cases e;have z:oC.data=_:=z;rw[hdC] at z;cases z
 have fC:=I2.fpOk (H':=H') hC hCH;have I6:L2.Inv X [] σ H' { s' with heap:=h' }:=I5.turned (t':=s'.toks) (fun b o hb e=>(sb.2 b hb).trans e) fC.1 fC.2.1 fC.2.2.2.1 fC.2.2.2.2.1 fun p hp=>by rw[hpn] at hp;cases hp
 refine Hu (P:=X.prog) (w:=X.w) (n:=X.s₀.heap) (s:={ s' with heap:=h' }) (fs:=frs X.stack) (fun b hb=>?_) I6.hok (nt.fly.but sb noD) (bn.but sb noD) fun h2 nt2=>?_
 ·obtain⟨_,o,ho,hnf⟩:=I6.stack.mem hb;exact⟨o,ho,hnf⟩
 ·exact⟨a,C0,[],σ,H',rfl,Inv.noted I6 hpn hex hst hfr nt2,nt2.fly.up,wq⟩
variable {f:Nat}
theorem zf (G:aW Γ)(ms:∀as st Q Q',(∀v st,Q v st->Q' v st)->ΓR f as st Q->ΓR f as st Q')(hcalm:X.calm=true){y:Str}{cn:List Str}{Fin:Addr->Hp->Prop}(hpn:X.pn=[])(hex:X.ex=[])(hst:X.stack=X.env::X.outer)(hfr:X.env.frame=some X.env.locals)(S:CScope X scope)(hcn:cn=([]:List Nat).filterMap (X.N[·]?))(hset:gQ iterx=true)(hI:PI X.nox tgx iterx wi)(hG:∀s2 H2 fp C,PG (cxC X ([y]++cn) s2 H2 fp scope C) tgx (TGx X.K (eN Γ (.name 0))))(hE:∀s2 H2 fp C pins s σ H Q (Eq:XK),L2.Inv (cxC X ([y]++cn) s2 H2 fp scope C) pins σ H s->(∃x,σ[0]?=some (some x)/\jJ X.K ca (ΓR f) [x] H Q Eq)->wpAny (model X.prog X.w) X.A (eval eltx (compEnvC scope (iC X.env scope.names []) C X.env)) (EP (cxC X ([y]++cn) s2 H2 fp scope C) pins σ Q) (fun e s'=>∃s1 H1 pins1,L2.Inv (cxC X ([y]++cn) s2 H2 fp scope C) pins1 σ H1 s1/\CXe X.prog X.w X.stack H1 s1 Eq e s') s)(I:L2.Inv X pins σ H s)(h:wi σ H fun J H1=>∃m ρ st1 xs chk,RF X.K m H1 ρ σ/\RH X.K m H1 st1/\qK X.K J xs chk m H1/\xs.length<100000/\fP (ΓR f) chk xs [] st1 (cf X.K m H1 Fin) (postW X.K m H1 ca Wo))(fin:∀C D H' s' m',L2.Inv X pins σ H' s'->s'.heap.Ns C m'->jX X pins H' C->Fin D H'->compPost (model X.prog X.w) X.A (xp X Wo) use Qf (.ref D) C (.ok .next) s') :
  wpAny (model X.prog X.w) X.A (comprehension (.ListComp eltx [⟨tgx,iterx,[],0⟩] scope pos) scope X.env p0 (newList []) false (eval iterx X.env) use) Qf (xp X Wo) s:=by
 refine wpAny_comprehension_free (use:=use) rfl (qh hset) (lG (S.cells I)) S.kind S.nms ?_;refine wpAny_mono (hI pins s σ H _ (I.wish _) h) (fun v s1 h1=>wpAny_mono h1 (fun itv s2 h2=>?_) fun _ _ z=>False.elim z) fun _ _ z=>False.elim z;obtain⟨it,fp,tn,J,H2,e,I2,T,st2,f2,m,ρ,st1,xs,chk,rf,rh,W,hxs,w⟩:=h2;subst e;have I2:=I2.unwish;have f2:∀b∈fp,jX X pins H2 b:=f2;have fl:∀b∈fp,b<s2.heap.objs.size:=fun b hb=>by obtain⟨o,e,_⟩:=T.obj 0 _ st2 b hb;exact QF e
 refine wpAny_newObj_type (wpAny_newFunctionEnv S.nocell (by intro y hy;simp at hy) (fun h₁ hns₁ hsb₁=>?_) S.kind);dsimp only at hns₁ hsb₁ |-
 generalize hD:s2.heap.objs.size=D at *;generalize hH3:s2.heap.push { cls:=.type "list",dict:=none,data:=.seq ([]:List Value).toArray }=P3 at hns₁ hsb₁ |-
 generalize hCC:P3.objs.size=C at *;have hC1:C=D+1:=by rw[<-hCC,<-hH3,SK,hD]
 have ltDC:D<C:=by rw[hC1];exact S1 D
 have neC:∀b,b<D->b≠C:=fun b hb=>QU (RQ hb ltDC);have hDn:H2 D=none:=by rw[<-hD];exact I2.hok.fresh (P6 _)
 have hCn:H2 C=none:=I2.hok.fresh (by rw[hD];exact Q_ ltDC);have old3:∀b o,s2.heap.get? b=some o->P3.get? b=some o:=fun b o e=>hH3 ▸ P2 _ e;have old:∀b o,s2.heap.get? b=some o->h₁.get? b=some o:=fun b o e=>hsb₁.extBut b o (neC b (hD ▸ QF e)) (P2 _ (old3 b o e));have newD:h₁.get? D=some { cls:=.type "list",data:=.seq #[] }:=hsb₁.extBut _ _ (QU ltDC) (P2 _ (by rw [<-hH3,<-hD];exact QG _ rfl));have un:Un (frs X.stack) fp H2 (upd H2 D (.lst [])) s2.heap h₁:=Un.laid old (by rw[hD];exact P6 _) hDn;have hok:HOk X.prog X.w (upd H2 D (.lst [])) h₁:=I2.hok.laid old (by rw[hD];exact P6 _) ⟨Q8 _,[],0,.nil,newD⟩;have I4:=yw (nt:=[y]) (tk:=s2.toks+([]:List (Str × Value)).length) S I2 f2 (by rw[hD];exact fl) (C:=C) (by rw[hD];exact Q_ ltDC) un hok (by simpa using hns₁) (by rw[ak (TN ltDC)];exact hCn) old
  (fun b o e n=>by rw[ak (QU (hD ▸ QF e))];exact n) hcn (fun i z=>nomatch z) (fun x z=>by rw[hcn] at z;cases z) (fun x z=>by rw[hcn] at z;cases z)
 generalize (([y]:List Str).map (fun _=>none)++([]:List Nat).map fun i=>(σ[i]?).join:L2.St)=σ0 at I4;have hcn0:cn=[]:=hcn;have rfN:∀ {m':List Addr}{H':Hp}{σ':L2.St},σ'.length=([y]++cn).length->RF X.K m' H' [none] σ':=fun {m' H' σ'} e=>⟨by rw[e,hcn0];rfl,fun i v z=>by
  cases i with
  | zero=>cases z
  | succ i=>cases z⟩
 have loop:codeAny (model X.prog X.w) X.A (.compLoop (.ListComp eltx [⟨tgx,iterx,[],0⟩] scope pos) 0 (.ref it) (.ref D) (compEnvC scope (iC X.env scope.names []) C X.env)) (compPost (model X.prog X.w) X.A (xp X Wo) use Qf (.ref D) C)
   { s2 with heap:=h₁,toks:=s2.toks+([]:List (Str × Value)).length }:=by
  refine sX (fun n s'=>∃(i:Nat),∃σ' H' m' st' acc ys,n+i=xs.length/\L2.Inv (cxC X ([y]++cn) s2 H2 fp scope C) [] σ' H' s'/\tn i s'.heap/\(∀b∈fp,H' b=none)/\Ext X.K m H2 m' H'/\RH X.K m' H' st'/\D ∉ m'/\H' D=some (.lst ys)/\Rs X.K m' H' acc ys/\ys.length<=i /\
   fP (ΓR f) chk (xs.drop i) acc st' (cf X.K m H2 Fin) (postW X.K m H2 ca Wo)) (fun e s'=>∃s1 H1 pins1 σ1,L2.Inv (cxC X ([y]++cn) s2 H2 fp scope C) pins1 σ1 H1 s1/\CXe X.prog X.w X.stack H1 s1 (fun v _ H'=>∃C,v=.ref C/\Wo C H') e s') ?_ ?_ xs.length
   ⟨0,σ0,_,m,st1,[],[],rfl,I4,T.keep 0 _ _ st2 (fun b _ o e=>old b o e),fun b hb=>by rw[ak (QU (fl b hb))];exact(f2 b hb).1,Ext.newT rh hDn,rh.newT hDn,rh.fresh hDn,bY,Rs_nil.mpr rfl,P6 _,by simpa using w⟩
  case refine_2 =>rintro e s' ⟨s1,H1,pins1,σ1,J,cx⟩;exact Af hpn hex hst hfr I2 f2 (by rw[hD];exact Q_ ltDC) J cx
  rintro n s' ⟨i,σ',H',m',st',acc,ys,hn,I',tni,fpn,x',rh',Dm,hDl,rys,hly,k⟩;have stat:∀ {H'':Hp},(∀b∈fp,H'' b=none)->∀b∈fp,jX (cxC X ([y]++cn) s2 H2 fp scope C) [] H'' b:=fun hz b hb=>⟨hz b hb,(I'.ok.exf b hb).1,I'.ok.exfs b hb,.inl hb,(I'.ok.exf b hb).2,fun p hp=>absurd (show p∈([]:List (Addr × Obj)) from hp) (by simp)⟩;cases q:xs.drop i with
  | nil =>
   rw[q] at k;have hi:i=xs.length:=by have:=Q0 List.length q;simp at this;omega
   subst hi;refine thn (T.done (cxC X ([y]++cn) s2 H2 fp scope C) rfl rfl rfl hcalm _ [] s' σ' H' (fun _ _=>False) I' (stat fpn) tni (W.stop m' H' st' x' rh' k.1)) fun r s1 ⟨hr,I1⟩=>?_;subst hr;have IX:L2.Inv X pins σ H' s1:=I2.call' I1.os I1.base I1.hok I1.bare fun b hb=>⟨(f2 b hb).2.2.2.1,(f2 b hb).2.1,(f2 b hb).2.2.2.2.1,(f2 b hb).2.2.2.2.2⟩;obtain⟨mm,hns,_⟩:=I1.loc;exact fin C D H' s1 mm IX hns (I2.fpOk (by rw[hD];exact Q_ ltDC) I1.free) (k.2 m' H' D ys x' rh' Dm hDn hDl rys)
  | cons v rest =>
   rw[q] at k;have hi:i<xs.length:=by have:=Q0 List.length q;simp at this;omega
   have ev:xs[i]?=some v:=by have:=Q0 List.head? q;rw[UY] at this;exact this
   have er:rest=xs.drop (i+1):=by have:=Q0 List.tail q;rw[U2] at this;exact this.symm
   subst er;obtain⟨kc,k⟩:=k;obtain⟨go,yl⟩:=W.item i v m' H' st' x' rh' kc ev;refine thn (T.item (cxC X ([y]++cn) s2 H2 fp scope C) rfl rfl rfl hcalm i [] s' σ' H' (fun _ _=>False) I' (stat fpn) tni go) fun r s4 ⟨u,hr,h4⟩=>?_;subst hr;refine thn h4 fun _ s5 ⟨x,H5,I5,r5,y5,tn5,fr5⟩=>?_;obtain⟨x5,rh5,rv5⟩:=yl x H5 y5;have I5':=I5.pinned (stat fr5) (T.obj _ _ tn5);have again:∀ {σ7:L2.St}{H7:Hp}{s7:Shared}{m7:List Addr}{st7:AH}{acc7:List PV}{ys7:List V},L2.Inv (cxC X ([y]++cn) s2 H2 fp scope C) ([]++n6 fp s5.heap) σ7 H7 s7->Ext X.K m H2 m7 H7->RH X.K m7 H7 st7->D ∉ m7->H7 D=some (.lst ys7) ->
     Rs X.K m7 H7 acc7 ys7->ys7.length<=i+1->fP (ΓR f) chk (xs.drop (i+1)) acc7 st7 (cf X.K m H2 Fin) (postW X.K m H2 ca Wo) ->
     ∃n',n'<n/\∃(i:Nat),∃σ' H' m' st' acc ys,n'+i=xs.length/\L2.Inv (cxC X ([y]++cn) s2 H2 fp scope C) [] σ' H' s7/\tn i s7.heap/\(∀b∈fp,H' b=none)/\Ext X.K m H2 m' H'/\RH X.K m' H' st'/\D ∉ m'/\H' D=some (.lst ys)/\Rs X.K m' H' acc ys/\ys.length<=i /\
      fP (ΓR f) chk (xs.drop i) acc st' (cf X.K m H2 Fin) (postW X.K m H2 ca Wo):=fun {σ7 H7 s7 m7 st7 acc7 ys7} I7 g1 g2 g4 g5 g6 g7 g8=>by
    refine⟨n-1,by omega,i+1,σ7,H7,m7,st7,acc7,ys7,by omega,I7.unpinned,T.keep _ _ _ tn5 fun b hb o e=>(I7.pin (b,o) (QX _ (QX _ (eY hb e)))).1,fun b hb=>?_,g1,g2,g4,g5,g6,g7,g8⟩;obtain⟨o,e,d⟩:=T.obj _ _ tn5 b hb;exact(I7.pin (b,o) (QX _ (QX _ (eY hb e)))).2.1
   refine thn (hG s2 H2 fp C _ s5 σ' H5 x u (fun σ6 H6=>∃m6 st6 x6,Ext X.K m' H5 m6 H6/\RH X.K m6 H6 st6/\σ6[0]?=some (some x6)/\R X.K m6 H6 v x6/\ΓR f [v] st6 (oa (fun vv st8=>fP (ΓR f) chk (xs.drop (i+1)) (acc++[vv]) st8 (cf X.K m H2 Fin) (postW X.K m H2 ca Wo)) (postW X.K m H2 ca Wo))) I5' r5
    ⟨m',[none],st',v,rfN I'.len,rh5,rv5,fun m6 H6 σ6 e6 rh6 rf6=>?_⟩) fun _ s6 ⟨σ6,H6,I6,m6,st6,x6,e6,rh6,hx6,rx6,w6⟩=>?_
   ·obtain⟨x6,hx,rx⟩:=rf6.at_ 0 v rfl;exact⟨m6,st',x6,e6,rh6,hx,rx,k⟩
   have xx6:Ext X.K m' H' m6 H6:=x5.trans e6;refine wpAny_mono (hE s2 H2 fp C _ s6 σ6 H6 (fun yv H8=>∃m8 st8 vv,Ext X.K m6 H6 m8 H8/\RH X.K m8 H8 st8/\R X.K m8 H8 vv yv/\fP (ΓR f) chk (xs.drop (i+1)) (acc++[vv]) st8 (cf X.K m H2 Fin) (postW X.K m H2 ca Wo)) (fun v _ H'=>∃C,v=.ref C/\Wo C H') I6
    ⟨x6,hx6,m6,st6,[v],Rs_cons'.mpr ⟨rx6,Rs_nil.mpr rfl⟩,rh6,ms _ _ _ _ (cW (fun vv st8 z m8 H8 yv x8 rh8 r8=>⟨m8,st8,vv,x8,rh8,r8,z⟩) fun kk st8 z m8 H8 x8 rh8=>⟨_,rfl,z m8 H8 (((x'.trans xx6)).trans x8) rh8⟩) w6⟩) (fun uy s8 ⟨yv,H8,I8,ry,m8,st8,vv,x8,rh8,r8,w8⟩=>?_) fun e s8 ⟨s1,H1,pins1,J,cx⟩=>⟨s1,H1,pins1,σ6,J,cx⟩
   have xx8:Ext X.K m' H' m8 H8:=xx6.trans x8;have hD8:H8 D=some (.lst ys):=xx8.fr D _ Dm hDl fun _ z=>nomatch z;have Dm8:D ∉ m8:=fun z=>by
    rcases xx8.new D z with z|z
    ·exact Dm z
    ·rw[hDl] at z;cases z
   refine thn (n_ (X:=cxC X ([y]++cn) s2 H2 fp scope C) _ s8 σ6 H8 (.ref D) [yv] (.ref D) [uy] (fun _ H9=>H9=upd H8 D (.lst (ys++[yv]))) I8 rfl (.cons ry .nil) ⟨D,ys,yv,rfl,rfl,hD8,vj (by omega),rfl⟩) fun _ s9 ⟨_,H9,I9,_,e9⟩=>?_;subst e9;exact again I9 ((x'.trans xx8).away hDn hD8) (rh8.away Dm8 hD8) Dm8 bY (((rys.mono xx8).app (.one r8)).mono0 (iZ hD8) (iX hD8)) (by simp;omega) w8
 exact codeAny_compStart_list loop (T.self X.A 0 _ _ _ (T.keep 0 _ _ st2 fun b _ o e=>old b o e) loop)
end
section
variable {Y:Cx}{CX:CXT}{k:Nat}{f:Addr}{fd:FuncData}{ps:List Str}{sp:Sp}{dvs:List V}{ds:List Value}{Ex:XK}{x:Str}{p pos:Pos}{e:Expr}{es:List Expr}{t:TA}{σ:L2.St}
theorem wF (F:pB Y.prog Y.w Y.K Y.mg Y.base CX k f fd ps sp)(hr:Room k Y.A)(hg:Gl Y x)(hm:Y.mg x=some (.ref f))(hk:W.keepIn Y.K (.ref f)=true)(hb:Binds Y.K fd ps ds)(hd:Vals dvs ds)
  (hx:∀pins H s e s',L2.Inv Y pins σ H s->CX Y.stack H s Ex e s'->Y.xe e s')
  (ha:PA Y (e::es) t) (hdb:(x == ("__debug__":Str))=false) (he:starEach (e::es) Y.env=(false,eval e Y.env)::starEach es Y.env) (hpl:(backTo pos (starEach es Y.env)).any (·.1)=false) :
  PE Y (.Call (.Name x p) (e::es) [] pos) (fun σ' H Q=>σ'=σ/\mJ sp dvs Ex t σ' H Q):=by
 rintro pins s σ' H Q I ⟨rfl,h⟩;refine wpAny_Call_Name_kw (i7 I hg hm ?_ hdb);refine U4 (h₀:=Y.base) I.ok.mod.kin hk (thn (ha pos pins s σ' H _ I h) fun us s1 ⟨vs,H1,I1,r,q⟩=>⟨I1.kIn,?_⟩) he hpl;have r2:Vals (vs++dvs) (us++ds):=r.append hd;have hl:(us++ds).length=ps.length:=by rw[<-r2.length];exact F.len _ _ _ _ q
 refine wpAny_call (codeAny_mono (F.run Y.A Y.stack s1 H1 ⟨us,[]⟩ (us++ds) (vs++dvs) Q Ex hr I1.env0 (hb s1 us I1.kIn hl) r2 q) fun r s' hq=>?_);cases r with
 | error e=>exact hx pins H1 s1 e s' I1 hq
 | ok fl =>
  cases fl with
  | ret u=>exact I1.after hq
  | next=>exact False.elim hq
  | brk=>exact False.elim hq
  | cont=>exact False.elim hq
end
theorem LC (C:COk X.nox c Γ)(G:XG X.prog X.w X.K X.mg X.base c F ΓR ca)(hex:X.ex=[])(hpn:X.pn=[])(hst:X.stack=X.env::X.outer)(hfr:X.env.frame=some X.env.locals)(h:BR c F f it y x=true)(Wo:Addr->Hp->Prop) :
  PE (X.wish (xp X Wo)) x (fun σ H Q=>∃m ρ st,RF X.K m H ρ σ/\RH X.K m H st/\fS Γ it ρ st fun xs chk st1=>xs.length<100000/\fP (ΓR f) chk xs [] st1 (fun vs st2=>post X.K m H Q (.ref st2.length) (st2++[.lst vs])) (postW X.K m H ca Wo)):=by
 replace h:=jI h;obtain⟨ex,gs,sc,pos,rfl,h⟩:=h;replace h:=bj h;obtain⟨g,rfl,h⟩:=h;obtain⟨tx,ix,fx,ia⟩:=g;dsimp only at h;simp only[Bool.and_eq_true,beq_iff_eq] at h;obtain⟨⟨⟨⟨⟨⟨⟨h1,h0⟩,h2⟩,h4⟩,h5⟩,h6⟩,h7⟩,h8⟩:=h;subst h1;cases fx with
 | cons _ _=>cases h7
 | nil =>
 replace h8:=jK h8;obtain⟨gn,gp,ax,cp,rfl,h8⟩:=h8;simp only[Bool.and_eq_true] at h8;obtain⟨⟨⟨a1,a2⟩,a3⟩,a4⟩:=h8;replace a4:=ai a4;obtain⟨z,zp,rfl,a4⟩:=a4;obtain⟨S,k1,k2,k3,k4⟩:=mV C h4;have hC:∀s2 H2 fp A,COk (cxC X ([y]++([]:List Nat).filterMap (X.N[·]?)) s2 H2 fp sc A) (c.inner [y] [] sc) Γ:=fun s2 H2 fp A=>Ai C h4;have a1':=a1;unfold Cfg.fn at a1';simp only[Bool.and_eq_true,beq_iff_eq,decide_eq_true_eq] at a1';obtain⟨ps,HF⟩:=G.fn f gn a1'.1.2 a1'.1.1 a2;obtain⟨fa,fd,Fn,fm,fk,fb⟩:=HF.ex;rintro pins s σ H Q I ⟨m,ρ,st,rf,rh,w⟩;rw[eval_ListComp];refine zf (X:=X) (ca:=ca) (f:=f) (y:=y) (use:=none) (Wo:=Wo) (Fin:=fun D H'=>Q (.ref D) H') (wi:=TIx X.K (fS Γ it)) C.mono (fun as st Q Q'=>G.mono f as st Q Q') C.calm hpn hex hst hfr ⟨S.kind,S.nocell,S.nms,S.free⟩ rfl h2 (BI it C ix h0 h5) (fun s2 H2 fp A=>rV (.name 0) (hC s2 H2 fp A) _ h6) ?_ I.unwish ?_ ?_
 ·rintro s2 H2 fp CC pins s σ H Q Eq I ⟨x,hx,q⟩;have CZ:=hC s2 H2 fp CC;obtain⟨b1,b2,b3,_⟩:=CZ.fnx a1;simp only[Bool.and_eq_true,beq_iff_eq] at a4;obtain⟨v1,v2,v3⟩:=CZ.visx a4.2;have hA:PA ((cxC X ([y]++([]:List Nat).filterMap (X.N[·]?)) s2 H2 fp sc CC).wish (fun e s'=>∃s1 H1 pins1,L2.Inv (cxC X ([y]++([]:List Nat).filterMap (X.N[·]?)) s2 H2 fp sc CC) pins1 σ H1 s1/\CXe X.prog X.w X.stack H1 s1 Eq e s')) [.Name z zp] (fj (Nv 0) om) :=
   pac (yP (by have:=CZ.N;exact(Q0 (fun l=>l[0]?) this).trans a4.1) v1 v2 v3) eg a3
  exact wpAny_mono (wF (Y:=(cxC X ([y]++([]:List Nat).filterMap (X.N[·]?)) s2 H2 fp sc CC).wish (fun e s'=>∃s1 H1 pins1,L2.Inv (cxC X ([y]++([]:List Nat).filterMap (X.N[·]?)) s2 H2 fp sc CC) pins1 σ H1 s1/\CXe X.prog X.w X.stack H1 s1 Eq e s')) (σ:=σ) (Ex:=Eq) (p:=gp) (pos:=cp) Fn b3 b1 fm fk fb .nil (fun ps H1 s1 e s' I1 z=>⟨s1,H1,ps,I1.unwish,z⟩) hA b2 (av a3) rfl pins s σ H Q (I.wish _) ⟨rfl,x,hx,q⟩) (fun _ _ ⟨v,H',I',r,q⟩=>⟨v,H',I'.unwish,r,q⟩) fun _ _ z=>z
 ·refine⟨m,ρ,st,rf,rh,cu C.mono it (fun xs chk st1 z m1 H1 J e1 r1 W=>⟨m1,ρ,st1,xs,chk,rf.mono e1,r1,W,z.1,?_⟩) w⟩;refine eL (fun as st Q Q'=>G.mono f as st Q Q') (fun vs st2 k m2 H2 D ys e2 r2 Dm hD0 hD ry=>?_) (fun _ _ q=>q.ext e1) z.2;have hD1:H D=none:=by
   cases q:H D with
   | none=>rfl
   | some o =>
    by_cases hm:D∈m
    ·exact absurd ((e1.trans e2).pre.subset hm) Dm
    ·exact absurd hD0 (e1.ne hm q)
  exact k _ _ _ ((e1.trans e2).addD hD1) (r2.addD Dm hD ry) (R.last r2.len)
 ·intro C' D H' s' m' I' ns fp F;refine⟨m',ns,fun h' hs'=>?_⟩;exact⟨.ref D,H',(I'.turned (t':=s'.toks) (fun b o hb e=>hs'.extBut b o hb e) fp.1 fp.2.1 fp.2.2.2.1 fp.2.2.2.2.1 fp.2.2.2.2.2).wish _,rfl,F⟩
theorem Ek (C:COk X.nox c Γ)(G:XG X.prog X.w X.K X.mg X.base c F ΓR ca)(hex:X.ex=[])(hpn:X.pn=[])(hst:X.stack=X.env::X.outer)(hfr:X.env.frame=some X.env.locals){q:Str}(h:(q == ("tuple":Str) && c.blt q && aj l && BR c F f it y l)=true)(Wo:Addr->Hp->Prop) :
  PE (X.wish (xp X Wo)) (.Call (.Name q qp) [l] [] cp) (fun σ H Q=>∃m ρ st,RF X.K m H ρ σ/\RH X.K m H st/\fS Γ it ρ st fun xs chk st1=>xs.length<100000/\fP (ΓR f) chk xs [] st1 (fun vs st2=>post X.K m H Q (.tup vs) (st2++[.lst vs])) (postW X.K m H ca Wo)):=by
 simp only[Bool.and_eq_true,beq_iff_eq] at h;obtain⟨⟨⟨h1,h2⟩,h3⟩,h4⟩:=h;subst h1;obtain⟨b1,b2,b3,b4⟩:=C.bltx h2;have hA:PA (X.wish (xp X Wo)) [l] (fj _ om):=pac (LC C G hex hpn hst hfr h4 Wo) eg h3;have hc:=Em (X:=X.wish (xp X Wo)) C.calm C.room.gd C.room.units .tuple1;intro pins s σ H Q I ⟨m,ρ,st,rf,rh,w⟩;refine rF (X:=X.wish (xp X Wo)) hc b1 b4 (JZ .tuple1) hA b3 b2 h3 rfl pins s σ H Q I ?_;refine⟨m,ρ,st,rf,rh,cu C.mono it (fun xs chk st1 z=>⟨z.1,eL (fun as st Q Q'=>G.mono f as st Q Q') (fun vs st2 k m2 H2 x2 e2 r2 rx=>?_) (fun _ _ q=>q) z.2⟩) w⟩;exact⟨m2,st2++[.lst vs],[.ref st2.length],r2,Rs_cons'.mpr ⟨rx,Rs_nil.mpr rfl⟩,vs,(by simp[bN,bG]),k.ext e2⟩
mutual
theorem Pl (C:COk X.nox c Γ)(G:XG X.prog X.w X.K X.mg X.base c F ΓR ca)(hex:X.ex=[])(hc:X.calm=true)(hpn:X.pn=[])(hst:X.stack=X.env::X.outer)(hfr:X.env.frame=some X.env.locals):∀(e:XS) (x:Stmt),xy c F e x=true->PX X x (TXx X.K ca (wpX Γ ΓR e))
 | .st e,x,h=>by rw[xy] at h;rintro pins s σ H D Wx I ⟨m,ρ,st,rf,rh,w⟩;rw[wpX] at w;exact wpAny_mono (L1 C e x h pins s σ H D (I.wish _) ⟨m,ρ,st,rf,rh,w⟩) (fun _ _ q=>q.unwish) fun _ _ z=>False.elim z
 | .ifX t a b,x,h=>by
  rw[xy] at h;replace h:=xl h;obtain⟨x,ys,zs,p,rfl,h⟩:=h;simp only[Bool.and_eq_true] at h;obtain⟨⟨h1,h2⟩,h3⟩:=h;rintro pins s σ H D Wx I ⟨m,ρ,st,rf,rh,w⟩;rw[wpX] at w;refine wpAny_If (wpAny_mono (qF t C _ h1 pins s σ H (fun k H1=>if k=true then TXx X.K ca (dR Γ ΓR a) D Wx σ H1 else TXx X.K ca (dR Γ ΓR b) D Wx σ H1) (I.wish _) ⟨m,ρ,st,rf,rh,aP C.mono t (fun k st1 z m1 H1 e1 r1=>?_) w⟩) (fun d s1 ⟨H1,I1,q1⟩=>?_) fun _ _ z=>False.elim z)
  ·cases k with
   | true=>rw[QA rfl] at z |-;exact⟨m1,ρ,st1,rf.mono e1,r1,eH C.mono G.mono a (AE.ext e1) (fun _ _ q=>q.ext e1) z⟩
   | false=>rw[QC P5] at z |-;exact⟨m1,ρ,st1,rf.mono e1,r1,eH C.mono G.mono b (AE.ext e1) (fun _ _ q=>q.ext e1) z⟩
  ·cases d with
   | true=>exact Bb C G hex hc hpn hst hfr a _ h2 pins s1 σ H1 D Wx I1.unwish q1
   | false=>exact Bb C G hex hc hpn hst hfr b _ h3 pins s1 σ H1 D Wx I1.unwish q1
 | .raise k,x,h=>by rw[xy] at h;obtain⟨y,np,t,j,ap,cp,pos,rfl,h⟩:=xj h;have h:=Bool.and_eq_true_iff.mp h;obtain⟨g1,g2,g3⟩:=C.glbx h.2;rintro pins s σ H D Wx I ⟨m,ρ,st,rf,rh,w⟩;rw[wpX] at w;obtain⟨e1,e2⟩:=G.cls k y (beq_iff_eq.mp h.1);exact FO I hc hex g1 g2 e1 e2 (w m H (Ext.refl _ _ _) rh)
 | .setC i f it y,x,h=>by rw[xy] at h;replace h:=iU h;obtain⟨tg,v,p,rfl,h⟩:=h;replace h:=ai h;obtain⟨z,zp,rfl,h⟩:=h;simp only[Bool.and_eq_true,beq_iff_eq] at h;obtain⟨⟨h1,h2⟩,h3⟩:=h;replace h3:=jK h3;obtain⟨q,qp,l,cp,rfl,h3⟩:=h3;obtain⟨g1,g2⟩:=C.locx h2;rintro pins s σ H D Wx I ⟨m,ρ,st,rf,rh,w⟩;rw[wpX] at w;refine wpAny_mono (qr (X:=X.wish (xp X Wx)) (i:=i) C.ndX (by have:=C.N;exact(Q0 (fun l=>l[i]?) this).trans h1) g1 (Ek C G hex hpn hst hfr h3 Wx) (cQ rfl) g2 pins s σ H D (I.wish _) ⟨m,ρ,st,rf,rh,cu C.mono it (fun xs chk st1 z=>⟨z.1,eL (fun as st Q Q'=>G.mono f as st Q Q') (fun vs st2 k m2 H2 x2 e2 r2 rx=>?_) (fun _ _ q=>q) z.2⟩) w⟩) (fun _ _ q=>q.unwish) fun _ _ q=>q;exact k m2 H2 _ e2 r2 ((rf.mono e2).set i rx)
 | .retC f it y,x,h=>by rw[xy] at h;replace h:=oB h;obtain⟨o,p,rfl,h⟩:=h;replace h:=gJ h;obtain⟨v,rfl,h⟩:=h;replace h:=jK h;obtain⟨q,qp,l,cp,rfl,h⟩:=h;rintro pins s σ H D Wx I ⟨m,ρ,st,rf,rh,w⟩;rw[wpX] at w;exact wpAny_mono (D5 (X:=X.wish (xp X Wx)) (Ek C G hex hpn hst hfr h Wx) pins s σ H D (I.wish _) ⟨m,ρ,st,rf,rh,w⟩) (fun _ _ q=>q.unwish) fun _ _ q=>q
 | .setX i f es,x,h=>by rw[xy] at h;obtain⟨y,p,g,gp,a,as,cp,pos,rfl,h⟩:=yN h;exact Im C G hex h
theorem Bb (C:COk X.nox c Γ)(G:XG X.prog X.w X.K X.mg X.base c F ΓR ca)(hex:X.ex=[])(hc:X.calm=true)(hpn:X.pn=[])(hst:X.stack=X.env::X.outer)(hfr:X.env.frame=some X.env.locals):∀(e:XSs) (x:List Stmt),jB c F e x=true->PXs X x (TXx X.K ca (dR Γ ΓR e))
 | .nil,x,h=>by
  rw[jB] at h;cases x with
  | nil =>rintro pins s σ H D Wx I ⟨m,ρ,st,rf,rh,w⟩;rw[dR] at w;exact wpAny_execs_nil ⟨_,_,I,postF.here w rh rf⟩
  | cons _ _=>cases h
 | .cons e es,x,h=>by
  rw[jB] at h;replace h:=aC h;obtain⟨y,ys,rfl,h⟩:=h;simp only[Bool.and_eq_true] at h;rintro pins s σ H D Wx I ⟨m,ρ,st,rf,rh,w⟩;rw[dR] at w;refine wpAny_execs_cons (thn (Pl C G hex hc hpn hst hfr e _ h.1 pins s σ H { D with nx:=fun σ1 H1=>TXx X.K ca (dR Γ ΓR es) D Wx σ1 H1 } Wx I ⟨m,ρ,st,rf,rh,xR C.mono G.mono e (D:={ AE X.K m H D with nx:=fun ρ1 st1=>dR Γ ΓR es ρ1 st1 (AE X.K m H D) (postW X.K m H ca Wx) }) (D':=AE X.K m H { D with nx:=fun σ1 H1=>TXx X.K ca (dR Γ ΓR es) D Wx σ1 H1 }) ⟨fun ρ1 st1 k m1 H1 σ1 e1 r1 f1=>⟨m1,ρ1,st1,f1,r1,eH C.mono G.mono es (AE.ext e1) (fun _ _ q=>q.ext e1) k⟩,fun _ _ q=>q,fun _ _ q=>q,fun _ _ q=>q⟩ (fun _ _ q=>q) w⟩) fun f s1 q=>?_);cases f with
  | next =>obtain⟨σ',H',I',q⟩:=q;exact Bb C G hex hc hpn hst hfr es _ h.2 pins s1 σ' H' D Wx I' q
  | ret v=>exact q
  | brk=>exact q
  | cont=>exact q
end
end
end FW
namespace FW
open L2 HX
noncomputable def me (st:AH)(Q:EK):aK:={ nx:=fun _ st'=>Ret st (fun v s=>Q (okR v) s) .non st',rt:=Ret st (fun v s=>Q (okR v) s) }
noncomputable def qS (st:AH)(Q:EK):XW:=fun k st'=>Ret st (fun _ s=>Q (exR k) s) .non st'
def okO (sp:FSp):FSp:=fun as st Q=>sp as st (oa Q fun _ _=>False)
section
variable {P:Program}{w:World}{K:W.Frag}{mg:Str->Option Value}{base:Heap}{c:Cfg}{F:Xf}{Γ ΓR:Nat->FSp}{ca:Nat->Addr}
theorem HE {code:XSs}(A0:At K mg x st ps)(S:ah N ps (aa st))(hN:c.N=N)(hn:c.names=(aa st).names)(hc:jB c F code (af st)=true)(G:GOk P w K mg base c Γ)(GX:XG P w K mg base c F ΓR ca)(len:∀as st Q,sp as st Q->as.length=ps.length)(ms:∀as st Q Q',(∀v st,Q v st->Q' v st)->sp as st Q->sp as st Q')(h:∀as st Q,sp as st Q->dR Γ ΓR code (frame N.length as) st (me st Q) (qS st Q))(hpc:c.pc=false:=by rfl)(hhm:c.hm=none:=by rfl):HasX P w K mg base (c.lim+1) x ps (jJ K ca sp):=by
 obtain⟨f,fd,Ff,fm,fb⟩:=A0.ex;have kp:=Ff.kp;obtain⟨oc,od,kV,doc,pm,an,cdv,ct,osl,rfl,lk,hcd⟩:=Ff.ex;refine⟨f,_,Eb lk hcd S (fun vs H Q E ⟨m,st,as,r1,r2,q⟩=>by rw[<-r1.len];exact len as st _ q) fun A outer s H vs Q E hr ⟨m,st',as,r1,r2,q⟩=>?_,fm,kp,fb⟩;have C:COk (jk (CXe P w) P w K mg base N x (aa st) f cdv A outer s H E).nox c Γ:=oy (E:=E) (H:=H) (outer:=outer) (Γ:=Γ) S hN hn hr G (fun z=>by rw[hpc] at z;cases z) fun k z=>by rw[hhm] at z;cases z
 refine⟨fun D σ H1=>TXx K ca (dR Γ ΓR code) D (fun C H'=>E (.ref C) none H') σ H1,fun pins s1 σ H1 D I w=>wpAny_mono (Bb C GX rfl rfl rfl rfl rfl code _ hc pins s1 σ H1 D _ I w) (fun _ _ q=>q) fun e s' q=>DT q,m,frame N.length as,st',iJ r1,r2,eH G.mono GX.mono code ?_ ?_ (h as st' _ q)⟩
 ·exact⟨fun ρ st2 k m' H' σ' e r f=>cq r2 k m' H' .non e r (R_non.mpr rfl),fun v st2 k=>cq r2 k,fun _ _ k=>k.elim,fun _ _ k=>k.elim⟩
 ·intro k st2 z m' H' e r;rcases z with z|z
  ·exact z m' H' e r
  ·obtain⟨st1,q,e2,r3,_⟩:=pS r2 e r (R_non.mpr rfl) z;exact q m H' e2 r3
theorem HasX.ok {sp:FSp}(ms:∀as st Q Q',(∀v st,Q v st->Q' v st)->sp as st Q->sp as st Q')(h:HasX P w K mg base k x ps (jJ K ca sp)):Has P w K mg base k x ps (bZ K (okO sp)):=by
 obtain⟨f,fd,Fn,fm,fk,fb⟩:=h.ex;have imp:∀vs H Q E,bZ K (okO sp) vs H Q E->jJ K ca sp vs H Q E0:=fun vs H Q E ⟨m,st,as,r1,r2,q⟩=>⟨m,st,as,r1,r2,ms _ _ _ _ (cW (fun _ _ z=>z) fun _ _ z=>z.elim) q⟩;refine⟨f,fd,⟨fun vs H Q E q=>Fn.len vs H Q E0 (imp _ _ _ _ q),fun A outer s H args us vs Q E hr he hb hv hs=>codeAny_mono (Fn.run A outer s H args us vs Q E0 hr he hb hv (imp _ _ _ _ hs)) fun r s' z=>?_⟩,fm,fk,fb⟩;cases r with
 | error e =>obtain⟨_,_,_,_,_,_,_,_,_,_,z⟩:=z;exact z
 | ok fl=>cases fl <;> exact z
end
end FW
namespace FW
open L2 HX
noncomputable abbrev Cx.pin (X:Cx)(pins:List (Addr × Obj))(E:Value->Shared->Prop):Cx:={ X with pn:=X.pn++pins,xe:=E }
section
variable {X:Cx}{pins:List (Addr × Obj)}{σ:L2.St}{H:Hp}{s:Shared}{E:Value->Shared->Prop}
theorem Inv.pinned (I:L2.Inv X pins σ H s)(E:Value->Shared->Prop):L2.Inv (Cx.pin X pins E) [] σ H s :=
 ⟨⟨I.ok.mod,I.ok.kind,I.ok.glob,I.ok.blt,I.ok.above,I.ok.inj,I.ok.has,I.ok.cab,I.ok.hd,I.ok.frames,I.ok.stk,I.ok.exf,I.ok.bs,I.ok.bsz,I.ok.noex,I.ok.exfs,I.ok.funs,I.ok.frf⟩,I.os,I.bare,I.base,I.loc,I.cell,I.free,I.freeC,fun p hp=>I.pin p (by rw[SD] at hp;exact hp),I.hok,I.len⟩
theorem Inv.unpin (I:L2.Inv (Cx.pin X pins E) ps σ H s):L2.Inv X pins σ H s :=
 ⟨⟨I.ok.mod,I.ok.kind,I.ok.glob,I.ok.blt,I.ok.above,I.ok.inj,I.ok.has,I.ok.cab,I.ok.hd,I.ok.frames,I.ok.stk,I.ok.exf,I.ok.bs,I.ok.bsz,I.ok.noex,I.ok.exfs,I.ok.funs,I.ok.frf⟩,I.os,I.bare,I.base,I.loc,I.cell,I.free,I.freeC,fun p hp=>I.pin p (RY _ hp),I.hok,I.len⟩
theorem SP.unpin {D:L2.Ends}(h:SP (Cx.pin X pins E) ps D f s'):SP X pins D f s':=by
 cases f with
 | next=>obtain⟨σ',H',I,q⟩:=h;exact⟨σ',H',Inv.unpin I,q⟩
 | brk=>obtain⟨σ',H',I,q⟩:=h;exact⟨σ',H',Inv.unpin I,q⟩
 | cont=>obtain⟨σ',H',I,q⟩:=h;exact⟨σ',H',Inv.unpin I,q⟩
 | ret u=>obtain⟨v,σ',H',I,r,q⟩:=h;exact⟨v,σ',H',Inv.unpin I,r,q⟩
noncomputable abbrev Cx.hnd (X:Cx)(pins:List (Addr × Obj))(a:Addr)(o:Obj):Cx:={ X with A:=X.A.mark (some (.ref a)),calm:=false,pn:=(a,o)::(X.pn++pins),xe:=fun _ _=>False }
theorem Inv.hnd (I:L2.Inv X pins σ H s)(e:s.heap.get? a=some o)(n:H a=none)(hl:a≠X.env.locals)(hf:a ∉ X.fs)(hd:∀v,o.data≠.cell v):L2.Inv (Cx.hnd X pins a o) [] σ H s :=
 ⟨⟨I.ok.mod,I.ok.kind,I.ok.glob,I.ok.blt,I.ok.above,I.ok.inj,I.ok.has,I.ok.cab,(fun z=>by cases z),I.ok.frames,I.ok.stk,I.ok.exf,I.ok.bs,I.ok.bsz,I.ok.noex,I.ok.exfs,I.ok.funs,I.ok.frf⟩,I.os,I.bare,I.base,I.loc,I.cell,I.free,I.freeC,fun p hp=>by
  rw[SD] at hp;rcases QZ.mp hp with rfl|hp
  ·exact⟨e,n,hl,hf,hd⟩
  ·exact I.pin p hp,I.hok,I.len⟩
theorem Inv.unhnd (ok:X.Ok)(I:L2.Inv (Cx.hnd X pins a o) ps σ H s):L2.Inv X pins σ H s :=
 ⟨ok,I.os,I.bare,I.base,I.loc,I.cell,I.free,I.freeC,fun p hp=>I.pin p (RY _ (QD _ hp)),I.hok,I.len⟩
end
theorem yt {M:Model}{E:Value->Shared->Prop}{K:W.Frag}{s:Shared}{Q:Bool->Shared->Prop}(O:OwnCls x C jO "ValueError.__new__" mg s.heap)(O':OwnCls y C' jO "ValueError.__new__" mg s.heap)(he:s.heap.get? a=some oe)(hcls:oe.cls=.ref C)(hin:∀o cd,s.heap.get? C=some o->o.data=.cls cd->cd.mro.contains (.ref C')=true)(hq:Q true s):wpAny M A (excMatches (.ref a) (.ref C')) Q E s:=by
 obtain⟨bm,N,nm,qn,bs,hdct,sn,sub,ab,col,dd,k0,k1,k2,k3,k5,mN,hC,hN,hni,T⟩:=O.obj;obtain⟨bm',N',nm',qn',bs',hdct',sn',sub',ab',col',dd',l0,l1,l2,l3,l5,mN',hC',hN',hni',T'⟩:=O'.obj;have hcC:=hin _ _ hC rfl;dsimp only at hcC;have hcB:(Value.ref C'::bm').contains (.type "BaseException")=true:=by rw [List.contains_cons,T'.hasType PySem.F.excBase_ValueError.hasBase,Bool.or_true]
 have f:=tc_notTuple;obtain⟨h,g,d,t,os⟩:=s;unfold excMatches
 repeat (first|(with_reducible refine wpAny_loadPart_at he ?_;rw[hcls])|with_reducible refine wpAny_loadPart_at hC' ?_|(with_reducible refine wpAny_isSubtype_exc hC' ?_;rw[hcB])|(with_reducible refine wpAny_isSubtype_exc hC ?_;rw[hcC])|wp_step)
 exact hq
theorem CS {σ:L2.St}{Wx:Addr->Hp->Prop}{D:L2.Ends}{b₀:Stmt}{suite:List Stmt}{rest:List ExceptHandler}(I:L2.Inv X pins σ H1 s1)(q:CXe X.prog X.w X.stack H1 s1 (fun v _ H'=>∃C,v=.ref C/\Wx C H') e s')(hst:X.stack=X.env::X.outer)(hfr:X.env.frame=some X.env.locals)(hg:Gl X y)(hdb:(y == ("__debug__":Str))=false)(hy:X.mg y=some (.ref C'))(hy2:W.excIn X.K C' jO "ValueError.__new__"=true)(hW:∀C H',Wx C H'->∃x,X.mg x=some (.ref C)/\W.excIn X.K C jO "ValueError.__new__"=true/\∃o cd,X.K.lookup C=some o/\o.data=.cls cd/\cd.mro.contains (.ref C')=true)(hs:∀a C H' o s2,Wx C H'->o.cls=.ref C->L2.Inv (Cx.hnd X pins a o) [] σ H' s2->wpAny (model X.prog X.w) (X.A.mark (some (.ref a))) (execs (b₀::suite) X.env) (SP (Cx.hnd X pins a o) [] D) (fun _ _=>False) s2) :
  wpAny (model X.prog X.w) X.A (noteFrame e X.env) (fun _ s₂=>wpAny (model X.prog X.w) X.A (setFlight e none) (fun _ s₃=>wpAny (model X.prog X.w) X.A (handleBy e X.env (.ExceptHandler (some (.Name y np)) none (b₀::suite) pos::rest)) (SP X pins D) Ex s₃) Ex s₂) Ex s':=by
 obtain⟨a,C,H',rfl,os,bare,sz,un,hok,fl,C0,hC0,wq⟩:=q;cases hC0;have I':L2.Inv X pins σ H' s':=I.call' (ch:=[]) os un hok bare fun b z=>by cases z
 have aL:a≠X.env.locals:=fun z=>by obtain⟨m,⟨o,_,_,ho,_⟩,_⟩:=I.loc;have:=fl.ge;rw[z,ho] at this;cases this
 have aF:a ∉ frs X.stack:=fun z=>by obtain⟨_,o,ho,_⟩:=I.stack.mem z;have:=fl.ge;rw[ho] at this;cases this
 have aF':a ∉ X.fs:=fun z=>aF (by rw[hst];exact R7.mpr (by obtain⟨v,h1,h2⟩:=R7.mp z;exact⟨v,QD _ h1,h2⟩));refine wm (P:=X.prog) (w:=X.w) (n:=s1.heap) (base:=X.base) (env:=X.env) (outer:=X.outer) (fv:=none) (by rw[<-hst];exact I'.ok.frames) (by rw[<-hst];exact I'.stack) hfr (by rw[<-hst];exact I'.stkFree) hok sz fl.up fun h2 nt=>?_;obtain⟨⟨ch,hch,un2⟩,hok2,fl2,sz2⟩:=nt;rw[<-hst] at un2;have un3:Un (frs X.stack) [] H1 H' s1.heap h2:=Un.noted un un2 (fun _ _ _ z=>z) (fun _ z=>z) fun c hc=>(hch c hc).1;have I2:L2.Inv X pins σ H' { s' with heap:=h2 }:=I.call' (s':={ s' with heap:=h2 }) (ch:=[]) os un3 hok2 bare fun b z=>by cases z
 obtain⟨oe,vs,he,hc,hd,_⟩:=id fl2.obj;have nc:∀v,oe.data≠.cell v:=fun v z=>by rw[hd] at z;cases z
 have J2:=Inv.hnd I2 he fl2.fr aL aF' nc;obtain⟨x,hx,hx2,o,cd,hKl,hcd,hmro⟩:=hW C H' wq;refine wpAny_handleBy_cons (codeAny_handlers_test (i7 (X:=Cx.hnd X pins a oe) J2 hg hy ?_ hdb)) (by intro q;cases q);refine yt (K:=X.K) (mg:=X.mg) (x:=x) (y:=y) (vP I2.kIn hx hx2) (vP I2.kIn hy hy2) he hc (fun o' cd' e1 e2=>?_) ?_
 ·have:=I2.kIn _ _ hKl;rw[this] at e1;cases e1;rw[hcd] at e2;cases e2;exact hmro
 show codeAny _ _ _ _ _;refine codeAny_handlers_suite ?_;refine oo (P:=X.prog) (w:=X.w) (fs:=frs X.stack) (n:=s1.heap) (fv:=none) (fun b z=>?_) hok2 fl2 fun h3 nt3=>?_
 ·obtain⟨_,o,ho,hnf⟩:=I2.stack.mem z;exact⟨o,ho,hnf⟩
 obtain⟨⟨ch3,hch3,un4⟩,hok3,fl3,sz3⟩:=nt3;have un5:Un (frs X.stack) [] H1 H' s1.heap h3:=Un.noted un3 un4 (fun _ _ _ z=>z) (fun _ z=>z) fun c hc=>(hch3 c hc).1;have I3:L2.Inv X pins σ H' { s' with heap:=h3 }:=I.call' (s':={ s' with heap:=h3 }) (ch:=[]) os un5 hok3 bare fun b z=>by cases z
 obtain⟨oe3,vs3,he3,hc3,hd3,_⟩:=id fl3.obj;have nc3:∀v,oe3.data≠.cell v:=fun v z=>by rw[hd3] at z;cases z
 have J3:=Inv.hnd I3 he3 fl3.fr aL aF' nc3;refine wpAny_mono (hs a C H' oe3 _ wq hc3 J3) (fun f s5 z=>?_) fun _ _ z=>False.elim z;cases f with
 | next=>obtain⟨σ5,H5,J5,z⟩:=z;exact⟨σ5,H5,Inv.unhnd I3.ok J5,z⟩
 | brk=>obtain⟨σ5,H5,J5,z⟩:=z;exact⟨σ5,H5,Inv.unhnd I3.ok J5,z⟩
 | cont=>obtain⟨σ5,H5,J5,z⟩:=z;exact⟨σ5,H5,Inv.unhnd I3.ok J5,z⟩
 | ret u=>obtain⟨v5,σ5,H5,J5,r,z⟩:=z;exact⟨v5,σ5,H5,Inv.unhnd I3.ok J5,r,z⟩
end FW
namespace FW
open L2 HX
open PySem.W (findIn mroIn typeIn clsIn looks_findIn looks_mroIn looks_typeIn)
structure XCl (K:W.Frag)(C:Addr):Prop where
 ga:findIn K (.ref C) "__getattribute__"=some (some (.builtin "BaseException.__getattribute__"))
 gt:findIn K (.ref C) "__getattr__"=some none
 cl:findIn K (.ref C) "__class__"=some (some (.builtin "object.__class__"))
 ob:mroIn K C (.type "object")=some true
 be:mroIn K C (.type "BaseException")=some true
 ty:typeIn K (.ref C)=some (.type "type")
 cd:∃cd,clsIn K C=some cd
section
variable {prog:Program}{w:World}{A:Around}{E:Value->Shared->Prop}{h:Heap}{g:Array GenState}{d:Drawn}{t:Nat}{os:OsState}{a C:Addr}{o:Obj}{K:W.Frag}
variable {s:Shared}{Q:Value->Shared->Prop}
end
end FW
namespace FW
open L2 HX
open PySem.W (findIn mroIn typeIn clsIn)
structure XT (K:W.Frag)(mg:Str->Option Value)(xs ys:List Str)(ca da:Nat->Addr)(rel:Nat->Nat->Bool):Prop where
 y:∀i x,ys[i]?=some x->mg x=some (.ref (da i))/\XCl K (da i)
 x:∀k,k<xs.length->XCl K (ca k)/\mroIn K (ca k) (.type "ValueError")=some true
 rl:∀k i,k<xs.length->i<ys.length->mroIn K (ca k) (.ref (da i))=some (rel k i)/\(rel k i=false->ca k≠da i)
inductive HA where
 | str (x:Str)|bl (b:Bool)|var (i:Nat)|isv|iso (i:Nat)|isos (is:List Nat)
inductive HT where
 | is (a:HA)|no (a:HA)|both (a b:HA)
inductive HS where
 | set (i:Nat) (a:HA)|OV (i:Nat) (as:List HA)|guard (t:HT) (a:HS)
noncomputable def hv (rel:Nat->Bool)(ρ:Fr):HA->Option PV
 | .str x=>some (.str x)
 | .bl b=>some (.bl b)
 | .var i=>ρ[i]?.join
 | .isv=>some (.bl true)
 | .iso i=>some (.bl (rel i))
 | .isos is=>some (.bl (is.any rel))
noncomputable def hb (rel:Nat->Bool):HA->Bool
 | .isv=>true
 | .iso i=>rel i
 | .isos is=>is.any rel
 | _=>false
noncomputable def isT:HA->Bool
 | .isv=>true
 | .iso _=>true
 | .isos _=>true
 | _=>false
noncomputable def ht (rel:Nat->Bool):HT->Bool
 | .is a=>hb rel a
 | .no a=>!hb rel a
 | .both a b=>hb rel a && hb rel b
section
variable {X:Cx}{c:Cfg}{Γ:Nat->FSp}{xs ys:List Str}{ca da:Nat->Addr}{rel:Nat->Nat->Bool}{k j:Nat}{pins:List (Addr × Obj)}{ad:Addr}{o:Obj}
end
end FW
namespace FW
open L2 HX
open PySem.W (findIn mroIn typeIn clsIn)
inductive TSs where
 | nil|st (s:S) (r:TSs)
 | trE (f:Nat) (es:Es) (i:Nat) (b:Bool) (r:TSs)
noncomputable def fw (Γ ΓR:Nat->FSp)(n:Nat)(rel:Nat->Nat->Bool):TSs->Fr->AH->aK->Prop
 | .nil,ρ,st,D=>D.nx ρ st
 | .st s r,ρ,st,D=>wpS Γ s ρ st { D with nx:=fun ρ1 st1=>fw Γ ΓR n rel r ρ1 st1 D }
 | .trE f es i b r,ρ,st,D=>cC Γ es ρ st fun vs st1=>ΓR f vs st1 (oa (fun v st2=>fw Γ ΓR n rel r ρ st2 D) fun k st2=>k<n/\rel k 0=true/\fw Γ ΓR n rel r (ρ.set i (some (.bl b))) st2 D)
theorem eV {Γ ΓR:Nat->FSp}{rel:Nat->Nat->Bool}(G:aW Γ)(G':aW ΓR):∀(s:TSs) {ρ:Fr}{st:AH}{D D':aK},jt D D'->fw Γ ΓR n rel s ρ st D->fw Γ ΓR n rel s ρ st D'
 | .nil,ρ,st,D,D',hD,h=>hD.nx _ _ h
 | .st s r,ρ,st,D,D',hD,h=>by
  rw[fw] at h |-
  exact j8 G s (D:={ D with nx:=fun ρ1 st1=>fw Γ ΓR n rel r ρ1 st1 D }) (D':={ D' with nx:=fun ρ1 st1=>fw Γ ΓR n rel r ρ1 st1 D' }) ⟨fun _ _ z=>eV G G' r hD z,hD.rt,hD.bk,hD.ct⟩ h
 | .trE f es i b r,ρ,st,D,D',hD,h=>by
  rw[fw] at h |-
  exact aA G es (fun vs st1 z=>G' _ _ _ _ _ (cW (fun v st2 z=>eV G G' r hD z) fun k st2 ⟨a,b,d⟩=>⟨a,b,eV G G' r hD d⟩) z) h
noncomputable def GD (x:Stmt)(f:List Stmt->List ExceptHandler->Bool):Bool:=match x with | .Try b hs [] [] _=>f b hs|_=>false
theorem CD (h:GD x f=true):∃b hs p,x=.Try b hs [] [] p/\f b hs=true:=by
 cases x with
 | Try b hs o c p =>
  cases o with
  | cons _ _=>exact Bool.noConfusion h
  | nil=>cases c with|nil=>exact⟨_,_,_,rfl,h⟩|cons _ _=>exact Bool.noConfusion h
 | _=>exact Bool.noConfusion h
noncomputable def LP (x:ExceptHandler)(f:Expr->Option Str->List Stmt->Bool):Bool:=match x with | .ExceptHandler (some e) n ss _=>f e n ss|_=>false
theorem EU (h:LP x f=true):∃e n ss p,x=.ExceptHandler (some e) n ss p/\f e n ss=true:=by
 obtain⟨o,n,ss,p⟩:=x;cases o with|none=>exact Bool.noConfusion h|some e=>exact⟨_,_,_,_,rfl,h⟩
noncomputable def Dq (x:Stmt)(f:Expr->Expr->Stmt->Bool):Bool:=GD x fun b hs=>on1 b fun b=>Mq b fun v=>on1 hs fun k=>LP k fun e n ss=>n.isNone && on1 ss fun s=>f v e s
theorem ze (h:Dq x f=true):∃v vp e s hp pos,x=.Try [.Expr v vp] [.ExceptHandler (some e) none [s] hp] [] [] pos/\f v e s=true:=by replace h:=CD h;obtain⟨b,hs,p,rfl,h⟩:=h;replace h:=bj h;obtain⟨b,rfl,h⟩:=h;replace h:=xf h;obtain⟨v,vp,rfl,h⟩:=h;replace h:=bj h;obtain⟨k,rfl,h⟩:=h;replace h:=EU h;obtain⟨e,n,ss,q,rfl,h⟩:=h;rw[QB] at h;obtain⟨hn,h⟩:=h;obtain rfl:=Option.isNone_iff_eq_none.mp hn;replace h:=bj h;obtain⟨s,rfl,h⟩:=h;exact⟨_,_,_,_,_,_,rfl,h⟩
noncomputable def Bp (x:Expr)(f:Str->Expr->List Expr->Bool):Bool:=mv x fun g as=>ir as fun a r=>f g a r
theorem xY (h:Bp x f=true):∃g gp a as p,x=.Call (.Name g gp) (a::as) [] p/\f g a as=true:=by replace h:=gZ h;obtain⟨g,gp,as,cp,rfl,h⟩:=h;replace h:=aC h;obtain⟨a,r,rfl,h⟩:=h;exact⟨_,_,_,_,_,rfl,h⟩
noncomputable def mB (c:Cfg)(F:Xf)(ys:List Str):TSs->List Stmt->Bool
 | .nil,x=>x.isEmpty
 | .st s r,x=>ir x fun y z=>Hh c s y && mB c F ys r z
 | .trE f es i b r,x=>ir x fun y z=>Dq y (fun v e s=>ay e (fun q _=>ys[0]? == some q && c.glb q) && tQ s (fun t u=>ay t (fun y _=>c.N[i]? == some y && c.loc y) && Ma u fun k=>b == k)
   && Bp v fun g a as=>c.fn f g && F.rz.contains f && aj a && as.all aj && eG c es (a::as)) && mB c F ys r z
section
variable {X:Cx}{c:Cfg}{F:Xf}{Γ ΓR:Nat->FSp}{ca da:Nat->Addr}{rel:Nat->Nat->Bool}{ys:List Str}{pins:List (Addr × Obj)}{E:Value->Shared->Prop}
theorem Inv.pinTo {σ:L2.St}(I:L2.Inv (Cx.pin X pins E) ps σ H s):L2.Inv X.nox (pins++ps) σ H s :=
 ⟨⟨I.ok.mod,I.ok.kind,I.ok.glob,I.ok.blt,I.ok.above,I.ok.inj,I.ok.has,I.ok.cab,I.ok.hd,I.ok.frames,I.ok.stk,I.ok.exf,I.ok.bs,I.ok.bsz,I.ok.noex,I.ok.exfs,I.ok.funs,I.ok.frf⟩,I.os,I.bare,I.base,I.loc,I.cell,I.free,I.freeC,fun p hp=>I.pin p (by rw[QY];exact hp),I.hok,I.len⟩
theorem Inv.pinOf {ps:List (Addr × Obj)}{σ:L2.St}(I:L2.Inv X.nox (pins++ps) σ H s):L2.Inv (Cx.pin X pins E) ps σ H s :=
 ⟨⟨I.ok.mod,I.ok.kind,I.ok.glob,I.ok.blt,I.ok.above,I.ok.inj,I.ok.has,I.ok.cab,I.ok.hd,I.ok.frames,I.ok.stk,I.ok.exf,I.ok.bs,I.ok.bsz,I.ok.noex,I.ok.exfs,I.ok.funs,I.ok.frf⟩,I.os,I.bare,I.base,I.loc,I.cell,I.free,I.freeC,fun p hp=>I.pin p (by rw[<-QY];exact hp),I.hok,I.len⟩
theorem PA.pin (h:PA X.nox es t):PA (Cx.pin X pins E) es t:=fun pos ps s σ H Q I w =>
 wpAny_mono (h pos (pins++ps) s σ H Q (Inv.pinTo I) w) (fun _ _ ⟨v,H',I',r,q⟩=>⟨v,H',Inv.pinOf I',r,q⟩) fun _ _ z=>False.elim z
theorem Il (C:COk X.nox c Γ)(G:XG X.prog X.w X.K X.mg X.base c F ΓR ca)(T:XT X.K X.mg F.xs ys ca da rel)(hE:W.excIn X.K (da 0) jO "ValueError.__new__"=true)(hst:X.stack=X.env::X.outer)(hfr:X.env.frame=some X.env.locals){i:Nat}{as:List Expr}(h0:ys[0]?=some q)(h1:c.glb q=true)(h5:c.N[i]?=some y)(h6:c.loc y=true)(a1:c.fn f g=true)(a2:F.rz.contains f=true)(a3:aj a=true)(a4:as.all aj=true)(a5:eG c es (a::as)=true) :
  ∀(pins:List (Addr × Obj)) (s:Shared) (σ:L2.St) (H:Hp) (D:L2.Ends),L2.Inv X pins σ H s->(∃m ρ st,RF X.K m H ρ σ/\RH X.K m H st/\cC Γ es ρ st fun vs st1=>ΓR f vs st1 (oa (fun v st2=>postF X.K m H D.nx ρ st2)
   fun k st2=>k<F.xs.length/\rel k 0=true/\postF X.K m H D.nx (ρ.set i (some (.bl b))) st2)) ->
   wpAny (model X.prog X.w) X.A (exec (.Try [.Expr (.Call (.Name g p0) (a::as) [] p1) p2] [.ExceptHandler (some (.Name q p4)) none [.Assign [.Name y p3] (.Constant (.bool b) bk p7) p8] p5] [] [] p6) X.env) (SP X pins D) E s:=by
 rintro pins s σ H D I ⟨m,ρ,st,rf,rh,wq⟩;obtain⟨g1,g2⟩:=C.locx h6;obtain⟨k1',k2,k3,_⟩:=C.fnx a1;have a1':=a1;unfold Cfg.fn at a1';simp only[Bool.and_eq_true,beq_iff_eq,decide_eq_true_eq] at a1';obtain⟨ps,HF⟩:=G.fn f g a1'.1.2 a1'.1.1 a2;obtain⟨fa,fd,Fn,fm,fk,fb⟩:=HF.ex;obtain⟨q1,q2,q3⟩:=C.glbx h1;let Wx:Addr->Hp->Prop:=fun Cl H'=>∃k m' st',Cl=ca k/\k<F.xs.length/\rel k 0=true/\Ext X.K m H m' H'/\RH X.K m' H' st'/\postF X.K m H D.nx (ρ.set i (some (.bl b))) st';let Xe:Value->Shared->Prop:=fun e s'=>∃s1 H1,L2.Inv X pins σ H1 s1/\CXe X.prog X.w X.stack H1 s1 (fun v _ H'=>∃C,v=.ref C/\Wx C H') e s';have hy:=T.y 0 q h0;have hN:X.N=c.N:=C.N;refine wpAny_Try_except (wpAny_mono (wpAny_execs_cons (thn (Q:=SP (Cx.pin X pins Xe) [] D) (E:=Xe) ?_ fun fl s1 z=>?_)) (fun _ _ z=>z) fun e s1 z=>?_)
 ·have hE1:PE (Cx.pin X pins Xe) (.Call (.Name g p0) (a::as) [] p1) (fun σ' H Q=>σ'=σ/\mJ (jJ X.K ca (ΓR f)) [] (fun v _ H'=>∃C,v=.ref C/\Wx C H') (TAx X.K (cC Γ es)) σ' H Q) :=
   wF (Y:=Cx.pin X pins Xe) Fn k3 k1' fm fk fb .nil (fun ps H1 s1 e s' I1 z=>⟨s1,H1,Inv.unpin I1,z⟩) (PA.pin (kZ es C _ a5)) k2 (av a3) (iS a4)
  refine AL (X:=Cx.pin X pins Xe) hE1 (cQ rfl) [] s σ H D (Inv.pinned I _) ?_;refine⟨rfl,m,ρ,st,rf,rh,aA C.mono es (fun vs st1 k m1 H1 xs1 e1 r1 r2=>⟨m1,st1,vs,lW r2,r1,G.mono _ _ _ _ _ (cW (fun v st2 z m2 H2 x2 e2 r3 r4=>?_) fun k st2 ⟨z1,z2,z4⟩ m2 H2 e2 r3=>?_) k⟩) wq⟩
  ·exact z m2 _ _ (e1.trans e2) r3 (rf.mono (e1.trans e2))
  ·exact⟨ca k,rfl,k,m2,st2,rfl,z1,z2,e1.trans e2,r3,z4⟩
 ·cases fl with
  | next=>exact wpAny_execs_nil (wpAny_execs_nil (SP.unpin z))
  | brk=>exact SP.unpin z
  | cont=>exact SP.unpin z
  | ret u=>exact SP.unpin z
 ·obtain⟨s2,H2,I2,cx⟩:=z;refine CS (Wx:=Wx) I2 cx hst hfr q1 q2 hy.1 hE (fun Cl H' z=>?_) fun ad Cl H' o s3 z oc J=>?_
  ·obtain⟨k,m',st',rfl,z1,z2,_⟩:=z;obtain⟨e1,e2⟩:=G.cls k _ (P9 z1);refine⟨_,e1,e2,?_⟩;have hr:=(T.rl k 0 z1 (P8.mp h0).1).1;rw[z2] at hr;unfold mroIn at hr;obtain⟨cd,e3,e4⟩:=Option.bind_eq_some_iff.mp hr;unfold clsIn at e3;split at e3
   ·rename_i ho;cases e3;refine⟨_,_,ho,rfl,?_⟩;split at e4
    ·cases e4
    ·exact Q2 e4
   ·cases e3
  ·obtain⟨k,m',st',rfl,z1,z2,z3,z4,z6⟩:=z;refine wM (qr (X:=Cx.hnd X pins ad o) (i:=i) C.ndX (by rw[hN];exact h5) g1 Kw (cQ rfl) g2) BX [] s3 σ H' D J ?_;exact z6 m' H' _ z3 z4 ((rf.mono z3).set i (R_bl.mpr rfl))
theorem FU (C:COk X.nox c Γ)(G:XG X.prog X.w X.K X.mg X.base c F ΓR ca)(T:XT X.K X.mg F.xs ys ca da rel)(hE:W.excIn X.K (da 0) jO "ValueError.__new__"=true)(hst:X.stack=X.env::X.outer)(hfr:X.env.frame=some X.env.locals) :
  ∀(e:TSs) (x:List Stmt),mB c F ys e x=true->PSs X.nox x (TSx X.K (fw Γ ΓR F.xs.length rel e))
 | .nil,x,h=>by
  rw[mB] at h;cases x with
  | nil =>rintro pins s σ H D I ⟨m,ρ,st,rf,rh,w⟩;exact wpAny_execs_nil ⟨_,_,I,postF.here w rh rf⟩
  | cons _ _=>cases h
 | .st e es,x,h=>by
  rw[mB] at h;replace h:=aC h;obtain⟨y,ys,rfl,h⟩:=h;simp only[Bool.and_eq_true] at h;rintro pins s σ H D I ⟨m,ρ,st,rf,rh,w⟩;rw[fw] at w;refine wpAny_execs_cons (thn (L1 C e _ h.1 pins s σ H { D with nx:=fun σ1 H1=>TSx X.K (fw Γ ΓR F.xs.length rel es) D σ1 H1 } I ⟨m,ρ,st,rf,rh,j8 C.mono e (D:={ AE X.K m H D with nx:=fun ρ1 st1=>fw Γ ΓR F.xs.length rel es ρ1 st1 (AE X.K m H D) }) (D':=AE X.K m H { D with nx:=fun σ1 H1=>TSx X.K (fw Γ ΓR F.xs.length rel es) D σ1 H1 }) ⟨fun ρ1 st1 k m1 H1 σ1 e1 r1 f1=>⟨m1,ρ1,st1,f1,r1,eV C.mono G.mono es (AE.ext e1) k⟩,fun _ _ q=>q,fun _ _ q=>q,fun _ _ q=>q⟩ w⟩) fun f s1 q=>?_);cases f with
  | next =>obtain⟨σ',H',I',q⟩:=q;exact FU C G T hE hst hfr es _ h.2 pins s1 σ' H' D I' q
  | ret v=>exact q
  | brk=>exact q
  | cont=>exact q
 | .trE f es i b r,x,h=>by
  rw[mB] at h;replace h:=aC h;obtain⟨y,zs,rfl,h⟩:=h;rw[QB] at h;obtain⟨h,hr⟩:=h;replace h:=ze h;obtain⟨v,vp,e,s₀,hp,pos,rfl,h⟩:=h;simp only[Bool.and_eq_true] at h;obtain⟨⟨h1,h5⟩,h7⟩:=h;replace h1:=ai h1;obtain⟨q,qp,rfl,h1⟩:=h1;rw[QB,TZ] at h1;replace h5:=iU h5;obtain⟨tg,u,ap,rfl,h5⟩:=h5;rw[QB] at h5;obtain⟨h5,h6⟩:=h5;replace h5:=ai h5;obtain⟨yn,yp,rfl,h5⟩:=h5;rw[QB,TZ] at h5;replace h6:=wB h6;obtain⟨b',bk,bp,rfl,h6⟩:=h6;rw[TZ] at h6;subst h6;replace h7:=xY h7;obtain⟨g,gp,a,as,cp,rfl,h7⟩:=h7;simp only[Bool.and_eq_true] at h7;obtain⟨⟨⟨⟨a1,a2⟩,a3⟩,a4⟩,a5⟩:=h7;rintro pins s σ H D I ⟨m,ρ,st,rf,rh,wq⟩;rw[fw] at wq;refine wpAny_execs_cons (thn (Il (X:=X.nox) (E:=fun _ _=>False) C G T hE hst hfr h1.1 h1.2 h5.1 h5.2 a1 a2 a3 a4 a5 pins s σ H { D with nx:=fun σ1 H1=>TSx X.K (fw Γ ΓR F.xs.length rel r) D σ1 H1 } I ⟨m,ρ,st,rf,rh,aA C.mono es (fun vs st1 z=>G.mono _ _ _ _ _ (cW (fun v st2 z m1 H1 σ1 e1 r1 f1=>?_) fun k st2 ⟨z1,z2,z4⟩=>⟨z1,z2,fun m1 H1 σ1 e1 r1 f1=>?_⟩) z) wq⟩) fun fl s1 q=>?_)
  ·exact⟨m1,_,st2,f1,r1,eV C.mono G.mono r (AE.ext e1) z⟩
  ·cases fl with
   | next =>obtain⟨σ',H',I',q⟩:=q;exact FU C G T hE hst hfr r _ hr pins s1 σ' H' D I' q
   | ret v=>exact q
   | brk=>exact q
   | cont=>exact q
  ·exact⟨m1,_,st2,f1,r1,eV C.mono G.mono r (AE.ext e1) z4⟩
end
theorem Hb {code:TSs}{c:Cfg}{Γ ΓR:Nat->FSp}{ca da:Nat->Addr}{rel:Nat->Nat->Bool}(F:At K mg x st ps)(S:ah N ps (aa st))(hN:c.N=N)(hn:c.names=(aa st).names)(hc:mB c Fx ys code (af st)=true)(G:GOk P w K mg base c Γ)(GX:XG P w K mg base c Fx ΓR ca)(T:XT K mg Fx.xs ys ca da rel)(hE:W.excIn K (da 0) jO "ValueError.__new__"=true)(len:∀as st Q,sp as st Q->as.length=ps.length)(h:∀as st Q,sp as st Q->fw Γ ΓR Fx.xs.length rel code (frame N.length as) st (ag st Q))(hpc:c.pc=false:=by rfl)(hhm:c.hm=none:=by rfl):Has P w K mg base (c.lim+1) x ps (bZ K sp):=by
 refine F.ok S (fun vs H Q E ⟨m,st,as,r1,r2,q⟩=>by rw[<-r1.len];exact len as st _ q) fun f cdv A outer s H vs Q E hr ⟨m,st',as,r1,r2,q⟩=>?_;have C:=oy (E:=E) (H:=H) (outer:=outer) (Γ:=Γ) S hN hn hr G (fun z=>by rw[hpc] at z;cases z) fun k z=>by rw[hhm] at z;cases z
 refine⟨_,FU C GX T hE rfl rfl code _ hc,m,frame N.length as,st',iJ r1,r2,eV G.mono GX.mono code ?_ (h as st' _ q)⟩;exact⟨fun ρ st2 k m' H' σ' e r f=>cq r2 k m' H' .non e r (R_non.mpr rfl),fun v st2 k=>cq r2 k,fun _ _ k=>k.elim,fun _ _ k=>k.elim⟩
end FW
namespace FW
open L2 HX
open PySem.W (findIn mroIn typeIn clsIn)
structure JX (P:Program)(w:World)(K:W.Frag)(mg:Str->Option Value)(base:Heap)(c:Cfg)(F:Xf)(Γ ΓR:Nat->FSp)(ca:Nat->Addr):Prop where
 g:GOk P w K mg base c Γ
 x:XG P w K mg base c F ΓR ca
section
variable {P:Program}{w:World}{K:W.Frag}{mg:Str->Option Value}{base h:Heap}{Γ ΓR:Nat->FSp}{c c':Cfg}{F:Xf}{ca da:Nat->Addr}{rel:Nat->Nat->Bool}{ys:List Str}{x:Str}{st:Stmt}{N ps:List Str}{sp:FSp}
theorem XG.skip (G:XG P w K mg base c F ΓR ca)(h1:c'.fns=c.fns)(h2:c'.lim=c.lim+1)(hr:F.rz.contains c.lim=false):XG P w K mg base c' F ΓR ca :=
 ⟨fun f x hf e r=>by
  rw[h2] at hf;rw[h1] at e;by_cases z:f=c.lim
  ·subst z;rw[hr] at r;cases r
  ·exact G.fn f x (by omega) e r,G.cls,G.mono⟩
theorem XG.next (G:XG P w K mg base c F ΓR ca)(h1:c'.fns=c.fns)(h2:c'.lim=c.lim+1)(hx:c.fns[c.lim]?=some x)(H:HasX P w K mg base (c.lim+1) x ps (jJ K ca (ΓR c.lim))):XG P w K mg base c' F ΓR ca :=
 ⟨fun f y hf e r=>by
  rw[h2] at hf;rw[h1] at e;by_cases z:f=c.lim
  ·subst z;rw[hx] at e;cases e;exact⟨ps,H⟩
  ·exact G.fn f y (by omega) e r,G.cls,G.mono⟩
theorem JX.nx {code:Ss}(J:JX P w K mg base c F Γ ΓR ca)(X:K.In h)(Gn:h.Ns mainGlobals mg)(d:DI K x st)(S:ah N ps (aa st))(hc:ar c code (af st)=true)
  (len:∀ {as st Q},sp as st Q->as.length=ps.length) (hw:∀ {as st Q},sp as st Q->aw Γ code (frame N.length as) st (ag st Q))
  (hb:∀(kV doc pm:Value) (an:Option Addr) (cdv ct:Value) (us:List Value),us.length=ps.length->bindArgs (W.fnOf x x (bC st) (af st) (aa st) .none kV doc pm an cdv ct) ⟨us,[]⟩=pure (ps.zip us))
  (hN:c.N=N:=by rfl) (hn:c.names=(aa st).names:=by rfl) (hpc:c.pc=false:=by rfl) (hhm:c.hm=none:=by rfl) (h1:c'.fns=c.fns:=by rfl) (h2:c'.lim=c.lim+1:=by rfl) (h3:c'.blts=c.blts:=by rfl) (h4:c'.gl=c.gl:=by rfl) (hx:c.fns[c.lim]?=some x:=by rfl) (hs:Γ c.lim=sp:=by rfl) (hr:F.rz.contains c.lim=false:=by rfl):JX P w K mg base c' F Γ ΓR ca :=
 ⟨J.g.nx X Gn d S hc len hw hb hN hn hpc hhm h1 h2 h3 h4 hx hs,J.x.skip h1 h2 hr⟩
theorem JX.nxX {code:XSs}(J:JX P w K mg base c F Γ ΓR ca)(X:K.In h)(Gn:h.Ns mainGlobals mg)(d:DI K x st)(S:ah N ps (aa st))(hc:jB c F code (af st)=true)
  (len:∀ {as st Q},sp as st Q->as.length=ps.length) (ms:∀ {as st Q Q'},(∀v st,Q v st->Q' v st)->sp as st Q->sp as st Q') (hw:∀ {as st Q},sp as st Q->dR Γ ΓR code (frame N.length as) st (me st Q) (qS st Q))
  (hb:∀(kV doc pm:Value) (an:Option Addr) (cdv ct:Value) (us:List Value),us.length=ps.length->bindArgs (W.fnOf x x (bC st) (af st) (aa st) .none kV doc pm an cdv ct) ⟨us,[]⟩=pure (ps.zip us))
  (hN:c.N=N:=by rfl) (hn:c.names=(aa st).names:=by rfl) (hpc:c.pc=false:=by rfl) (hhm:c.hm=none:=by rfl) (h1:c'.fns=c.fns:=by rfl) (h2:c'.lim=c.lim+1:=by rfl) (h3:c'.blts=c.blts:=by rfl) (h4:c'.gl=c.gl:=by rfl) (hx:c.fns[c.lim]?=some x:=by rfl) (hs:Γ c.lim=okO sp:=by rfl) (hs2:ΓR c.lim=sp:=by rfl):JX P w K mg base c' F Γ ΓR ca:=by
 obtain⟨f,oc,od,kV,dc,pm,an,cd,ct,sl,a,l,cc,k⟩:=d;have HX:=HE (sp:=sp) (At.mk' X Gn hb a l cc k) S hN hn hc J.g J.x (fun as st Q z=>len z) (fun as st Q Q' z z2=>ms z z2) (fun as st Q z=>hw z) hpc hhm;refine⟨J.g.next h1 h2 h3 h4 hx (by rw[hs];exact HX.ok fun _ _ _ _ z z2=>ms z z2),J.x.next h1 h2 hx (by rw[hs2];exact HX)⟩
theorem JX.nxT {code:TSs}(J:JX P w K mg base c F Γ ΓR ca)(T:XT K mg F.xs ys ca da rel)(hE:W.excIn K (da 0) jO "ValueError.__new__"=true)(X:K.In h)(Gn:h.Ns mainGlobals mg)(d:DI K x st)(S:ah N ps (aa st))(hc:mB c F ys code (af st)=true)
  (len:∀ {as st Q},sp as st Q->as.length=ps.length) (hw:∀ {as st Q},sp as st Q->fw Γ ΓR F.xs.length rel code (frame N.length as) st (ag st Q))
  (hb:∀(kV doc pm:Value) (an:Option Addr) (cdv ct:Value) (us:List Value),us.length=ps.length->bindArgs (W.fnOf x x (bC st) (af st) (aa st) .none kV doc pm an cdv ct) ⟨us,[]⟩=pure (ps.zip us))
  (hN:c.N=N:=by rfl) (hn:c.names=(aa st).names:=by rfl) (hpc:c.pc=false:=by rfl) (hhm:c.hm=none:=by rfl) (h1:c'.fns=c.fns:=by rfl) (h2:c'.lim=c.lim+1:=by rfl) (h3:c'.blts=c.blts:=by rfl) (h4:c'.gl=c.gl:=by rfl) (hx:c.fns[c.lim]?=some x:=by rfl) (hs:Γ c.lim=sp:=by rfl) (hr:F.rz.contains c.lim=false:=by rfl):JX P w K mg base c' F Γ ΓR ca:=by
 obtain⟨f,oc,od,kV,dc,pm,an,cd,ct,sl,a,l,cc,k⟩:=d;subst hs;exact⟨J.g.next h1 h2 h3 h4 hx (Hb (At.mk' X Gn hb a l cc k) S hN hn hc J.g J.x T hE (fun _ _ _=>len) (fun _ _ _=>hw) hpc hhm),J.x.skip h1 h2 hr⟩
theorem JX.nxG (J:JX P w K mg base c F Γ ΓR ca)(H:Has P w K mg base (c.lim+1) x ps (bZ K sp))(h1:c'.fns=c.fns:=by rfl)(h2:c'.lim=c.lim+1:=by rfl)(h3:c'.blts=c.blts:=by rfl)(h4:c'.gl=c.gl:=by rfl)(hx:c.fns[c.lim]?=some x:=by rfl)(hs:Γ c.lim=sp:=by rfl)(hr:F.rz.contains c.lim=false:=by rfl):JX P w K mg base c' F Γ ΓR ca :=
 ⟨J.g.next h1 h2 h3 h4 hx (by rw[hs];exact H),J.x.skip h1 h2 hr⟩
abbrev CI (K:W.Frag)(x:Str)(C:Addr):Prop:=W.nsIn K mainGlobals x=some (some (.ref C))/\findIn K (.ref C) "__getattribute__"=some (some (.builtin "BaseException.__getattribute__"))/\findIn K (.ref C) "__getattr__"=some none/\findIn K (.ref C) "__class__"=some (some (.builtin "object.__class__"))/\mroIn K C (.type "object")=some true/\mroIn K C (.type "BaseException")=some true/\typeIn K (.ref C)=some (.type "type")/\(∃cd,clsIn K C=some cd)
theorem CI_mk (a:W.nsIn K mainGlobals x=some (some (.ref C)))(b:findIn K (.ref C) "__getattribute__"=some (some (.builtin "BaseException.__getattribute__")))(c:findIn K (.ref C) "__getattr__"=some none)(d:findIn K (.ref C) "__class__"=some (some (.builtin "object.__class__")))(e:mroIn K C (.type "object")=some true)(f:mroIn K C (.type "BaseException")=some true)(g:typeIn K (.ref C)=some (.type "type"))(h:clsIn K C=some cd):CI K x C:=⟨a,b,c,d,e,f,g,cd,h⟩
theorem CI.cl (c:CI K x C):XCl K C:=⟨c.2.1,c.2.2.1,c.2.2.2.1,c.2.2.2.2.1,c.2.2.2.2.2.1,c.2.2.2.2.2.2.1,c.2.2.2.2.2.2.2⟩
end
end FW
namespace FW
open PySem L2 HX
noncomputable def HN (Γ ΓR:Nat->FSp)(ss:XSs)(D:aK)(Wx:XW):aK:={ D with nx:=fun ρ1 st1=>dR Γ ΓR ss ρ1 st1 D Wx }
noncomputable def Hf (Γ ΓR:Nat->FSp)(n:Nat)(rel:Nat->Nat->Bool)(ss:TSs)(D:aK):aK:={ D with nx:=fun ρ1 st1=>fw Γ ΓR n rel ss ρ1 st1 D }
section
variable {Γ ΓR:Nat->FSp}{ρ:Fr}{st:AH}{D:aK}{Wx:XW}{Q:EK}{n:Nat}{rel:Nat->Nat->Bool}
theorem KU:(HN Γ ΓR ss D Wx).nx ρ st=dR Γ ΓR ss ρ st D Wx:=rfl
theorem JQ:(HN Γ ΓR ss D Wx).rt v st=D.rt v st:=rfl
theorem D4:(HN Γ ΓR ss D Wx).rt=D.rt:=rfl
theorem J6:(Hf Γ ΓR n rel ss D).nx ρ st=fw Γ ΓR n rel ss ρ st D:=rfl
theorem Jn:(Hf Γ ΓR n rel ss D).rt v st=D.rt v st:=rfl
theorem Eu:(Hf Γ ΓR n rel ss D).rt=D.rt:=rfl
theorem JE:dR Γ ΓR .nil ρ st D Wx=D.nx ρ st:=rfl
theorem DM:dR Γ ΓR (.cons s ss) ρ st D Wx=wpX Γ ΓR s ρ st (HN Γ ΓR ss D Wx) Wx:=rfl
theorem Oq:wpX Γ ΓR (.st s) ρ st D Wx=wpS Γ s ρ st D:=rfl
theorem NQ:wpX Γ ΓR (.ifX t a b) ρ st D Wx=wpT Γ t ρ st fun k st1=>if k=true then dR Γ ΓR a ρ st1 D Wx else dR Γ ΓR b ρ st1 D Wx:=rfl
theorem Gu:wpX Γ ΓR (.setC i f it y) ρ st D Wx=fS Γ it ρ st fun xs chk st1=>xs.length<100000/\fP (ΓR f) chk xs [] st1 (fun vs st2=>D.nx (ρ.set i (some (.tup vs))) (st2++[.lst vs])) Wx:=rfl
theorem Dy:wpX Γ ΓR (.retC f it y) ρ st D Wx=fS Γ it ρ st fun xs chk st1=>xs.length<100000/\fP (ΓR f) chk xs [] st1 (fun vs st2=>D.rt (.tup vs) (st2++[.lst vs])) Wx:=rfl
theorem Av:wpX Γ ΓR (.raise k) ρ st D Wx=Wx k st:=rfl
theorem J7:wpX Γ ΓR (.setX i f es) ρ st D Wx=cC Γ es ρ st fun vs st1=>ΓR f vs st1 (oa (fun v st2=>D.nx (ρ.set i (some v)) st2) Wx):=rfl
theorem JT:(me st0 Q).nx ρ st=Ret st0 (fun v s=>Q (okR v) s) .non st:=rfl
theorem Kq {v:PV}:(me st0 Q).rt v st=Ret st0 (fun v s=>Q (okR v) s) v st:=rfl
theorem GB:(me st0 Q).rt=Ret st0 (fun v s=>Q (okR v) s):=rfl
theorem J4:qS st0 Q k st=Ret st0 (fun _ s=>Q (exR k) s) .non st:=rfl
theorem EN:fw Γ ΓR n rel .nil ρ st D=D.nx ρ st:=rfl
theorem KM:fw Γ ΓR n rel (.st s r) ρ st D=wpS Γ s ρ st (Hf Γ ΓR n rel r D):=rfl
theorem DQ:fw Γ ΓR n rel (.trE f es i b r) ρ st D=cC Γ es ρ st fun vs st1=>ΓR f vs st1 (oa (fun v st2=>fw Γ ΓR n rel r ρ st2 D) fun k st2=>k<n/\rel k 0=true/\fw Γ ΓR n rel r (ρ.set i (some (.bl b))) st2 D):=rfl
end
theorem mX {sp:FSp}(ms:∀ {as st Q Q'},(∀v st,Q v st->Q' v st)->sp as st Q->sp as st Q'){st:AH}{Q':EK}(h:∀v st,Q v st->Q' v st)(q:okO sp as st Q):okO sp as st Q':=ms (cW h fun _ _ z=>z) q
end FW
namespace My
open PySem L2 HX FW
noncomputable def top (i:Nat):Stmt:=PySem.Challenge.pw_hourstairs_k25_texts_there_and_back.main.body.getD i (.Pass ⟨0,0,0,0⟩)
theorem bo {st:AH}{v:PV}(h:v.bel st.length=true):∃n,bW st v=some n:=by
 cases v with
 | ref k =>
  rw[PV.bel] at h;have hk:=RB h;have e:st[k]?=some st[k]:=P9 hk;cases q:st[k] with
  | lst xs=>exact ⟨"list",by simp [bW,e,q]⟩
  | dk xs=>exact ⟨"dict",by simp [bW,e,q]⟩
  | fz xs=>exact ⟨"dict",by simp [bW,e,q]⟩
 | fn a=>rw[PV.bel] at h;cases h
 | _=>exact⟨_,rfl⟩
noncomputable def iu:PV->Bool
 | .int _=>true
 | _=>false
theorem sf (h:bW st v=some n):iu v=(bH "int" n && !bH "bool" n):=by
 cases v with
 | ref k =>unfold bW at h;simp only at h;split at h <;> cases h <;> rfl
 | fn a=>cases h
 | _=>cases h;rfl
noncomputable def bP:PV->Bool
 | .tup [.int n,.int d]=>decide (0<=n/\1<=d/\Nat.gcd n.natAbs d.natAbs=1)
 | _=>false
theorem qO (h:bW st v=some n):(bH "tuple" n=true->∃xs,v=.tup xs)/\(bH "tuple" n=false->bP v=false):=by
 cases v with
 | tup xs=>cases h;exact⟨fun _=>⟨xs,rfl⟩,fun z=>absurd z (by decide)⟩
 | ref k =>unfold bW at h;simp only at h;split at h <;> cases h <;> exact⟨fun z=>absurd z (by decide),fun _=>rfl⟩
 | fn a=>cases h
 | _=>cases h;exact⟨fun z=>absurd z (by decide),fun _=>rfl⟩
theorem mH {x:PV}:bP (.tup [x,y])=(match x,y with | .int n,.int d=>decide (0<=n/\1<=d/\Nat.gcd n.natAbs d.natAbs=1)|_,_=>false):=by cases x <;> cases y <;> rfl
theorem xG {xs:List PV}(hl:xs.length≠2):bP (.tup xs)=false:=by
 match xs,hl with
 | [],_=>rfl
 | [x],_=>cases x <;> rfl
 | [_,_],hl=>exact absurd rfl hl
 | x::y::_::_,_=>cases x <;> cases y <;> rfl
theorem kb:∀ {xs:List PV}{x:PV},PV.bels k xs=true->x∈xs->x.bel k=true
 | [],x,_,h=>nomatch h
 | y::ys,x,z,h=>by
  rw[PV.bels,QB] at z;rcases QZ.mp h with rfl|h
  ·exact z.1
  ·exact kb z.2 h
theorem xX {n d:Int}(h0:0<=n)(h1:1<=d):decide (((Nat.gcd n.toNat d.toNat:Nat):Int)=1)=decide (0<=n/\1<=d/\Nat.gcd n.natAbs d.natAbs=1):=by
 have e1:n.natAbs=n.toNat:=by omega
 have e2:d.natAbs=d.toNat:=by omega
 rw[e1,e2];simp[h0,h1];omega
theorem qb {d:Nat}(h:0<d)(h2:d<2 ^ 8000):CBig (Nat.gcd n d:Nat):=by have h3:0<Nat.gcd n d:=S8 _ h;have h4:Nat.gcd n d<=d:=Nat.gcd_le_right _ h;refine⟨by omega,?_⟩;have h5:((Nat.gcd n d:Nat):Int).natAbs=Nat.gcd n d:=rfl;rw[h5];have:Nat.gcd n d<2 ^ 8000:=Q3 h4 h2;have:=(UK (by omega)).mpr this;omega
noncomputable abbrev pc (q r:Int):Cell:=.lst [.int q,.int r]
theorem LR:(pc q r).bel k=true:=by simp[pc,Cell.bel,PV.bels,PV.bel]
theorem Kr:yZ 10 12:=⟨by decide,by decide,by decide⟩
theorem Nx:yZ 10 18:=⟨by decide,by decide,by decide⟩
theorem vE {j:Int}(h:0<j)(h2:j<2 ^ 200):CBig j:=CBig.of h (Int.lt_of_lt_of_le h2 (by
 have:((2:Int) ^ 200)=((2 ^ 200:Nat):Int):=by rw[UW];rfl
 have e2:((2:Int) ^ 8999)=((2 ^ 8999:Nat):Int):=by rw[UW];rfl
 rw[this,e2];exact Int.ofNat_le.mpr (RE (by decide) (by decide))))
theorem AK {i:Int}(h1:-(2 ^ 64)<i)(h2:i<2 ^ 64):CMB i j:=.inr (.inl ⟨h1,h2⟩)
theorem rS {j:Int}(h1:-(2 ^ 64)<j)(h2:j<2 ^ 64):CMB i j:=.inr (.inr ⟨h1,h2⟩)
theorem Od {ns:List Int}(h:ns.length<=63):kM (ns.map PV.int) none (some 63)=ns.map PV.int:=by
 unfold kM;have e:HT.sIx (ns.map PV.int).length (ns.map PV.int).length (some (63:Int))=(ns.map PV.int).length:=by have:=HT.sIx_nat (ns.map PV.int).length (ns.map PV.int).length 63;rw[show ((63:Nat):Int)=(63:Int) from rfl] at this;rw[this,QO];omega
 rw[HT.sIx_none,e,R8,Nat.sub_zero,SJ]
theorem EC {ns:List Int}{k:Nat}(h:k<ns.length):atI (ns.map PV.int) (k:Int)=some (.int (ns.getD k 0)):=by refine de ?_;rw[QK,R_,P9 h];rfl
theorem JR:(10:Nat) ^ 12<2 ^ 8000:=P7 (by decide:(10:Nat) ^ 12<2 ^ 64) (RE (by decide) (by decide))
theorem H_ {n d:Nat}(h:0<d):Nat.gcd (n/Nat.gcd n d) (d/Nat.gcd n d)=1:=Nat.gcd_div_gcd_div_gcd_of_pos_right h
theorem HW {d:Nat}(h:0<d):0<d/Nat.gcd n d:=Nat.div_pos (Nat.gcd_le_right _ h) (S8 _ h)
theorem zX (n d:Nat):n/Nat.gcd n d*d=n*(d/Nat.gcd n d):=by
 obtain⟨a,ha⟩:=Nat.gcd_dvd_left n d;obtain⟨b,hb⟩:=Nat.gcd_dvd_right n d;by_cases h:Nat.gcd n d=0
 ·rw[h,Nat.div_zero,Nat.div_zero,U7,Nat.mul_zero]
 ·have e1:n/Nat.gcd n d=a:=by rw[Nat.div_eq_of_eq_mul_right (by omega) ha]
  have e2:d/Nat.gcd n d=b:=by rw[Nat.div_eq_of_eq_mul_right (by omega) hb]
  rw[e1,e2];generalize Nat.gcd n d=g at *;subst ha hb;rw[<-Nat.mul_assoc,T_ a g]
theorem qt {n i:Nat}(h:(dH 0 ((n:Int).toNat))[i]?=some v):v=.int i/\i<n:=by
 unfold dH at h;rw[QK] at h;have hi:i<n:=by
  by_cases hi:i<n
  ·exact hi
  ·rw[RW (by simp;omega)] at h;cases h
 rw[SI (by simpa using hi)] at h;cases h;exact⟨by simp,hi⟩
theorem uc:sh st (.tup [.int a,.int b])=some (.tuple [.int a,.int b]):=by simp[sh,PV.toD,PV.toDs]
theorem oV (a b:Int):SeqAt.shaped (.tuple [.int a,.int b])=true:=by simp[SeqAt.shaped,PyData.canLay0,PyData.canLayAll0,PyData.depth,PyData.depthAll]
theorem E6 (a b c d:Int):PyData.eqv (.tuple [.int a,.int b]) (.tuple [.int c,.int d])=(decide (a=c) && decide (b=d)):=by simp[PyData.eqv,PyData.eqvAll,Bool.beq_eq_decide_eq]
theorem ym {a b c d:Int}{k:Bool->Prop}(h:k (decide (a=c) && decide (b=d))):eqW st (.tup [.int a,.int b]) (.tup [.int c,.int d]) k :=
 ⟨_,_,uc,uc,oV _ _,oV _ _,by rw[E6];exact h⟩
def a9:FSp:=fun as st Q=>∃v,as=[v]/\v.bel st.length=true/\Q (.bl (iu v)) st
theorem k_ {as st Q Q'}(h:∀v st,Q v st->Q' v st)(q:a9 as st Q):a9 as st Q':=by obtain⟨v,e,b,q⟩:=q;exact⟨v,e,b,h _ _ q⟩
theorem nh {as st Q}(q:a9 as st Q):as.length=1:=by obtain⟨v,rfl,_⟩:=q;rfl
noncomputable abbrev c9:=a9
theorem lM {as st Q Q'}(h:∀v st,Q v st->Q' v st)(q:a9 as st Q):a9 as st Q':=k_ h q
theorem mh {as st Q}(q:a9 as st Q):as.length=1:=nh q
def aO:FSp:=fun as st Q=>∃n d:Nat,as=[.int n,.int d]/\Q (.int (Nat.gcd n d:Nat)) st
theorem kH {as st Q Q'}(h:∀v st,Q v st->Q' v st)(q:aO as st Q):aO as st Q':=by obtain⟨n,d,e,q⟩:=q;exact⟨n,d,e,h _ _ q⟩
theorem lH {as st Q}(q:aO as st Q):as.length=2:=by obtain⟨n,d,rfl,_⟩:=q;rfl
def bB:FSp:=fun as st Q=>∃v,as=[v]/\v.bel st.length=true/\Q (.bl (bP v)) st
theorem nV {as st Q Q'}(h:∀v st,Q v st->Q' v st)(q:bB as st Q):bB as st Q':=by obtain⟨v,e,b,q⟩:=q;exact⟨v,e,b,h _ _ q⟩
theorem pI {as st Q}(q:bB as st Q):as.length=1:=by obtain⟨v,rfl,_⟩:=q;rfl
noncomputable abbrev low (n d:Nat):PV:=.tup [.int (n/Nat.gcd n d:Nat),.int (d/Nat.gcd n d:Nat)]
def cM:FSp:=fun as st Q=>∃n d:Nat,as=[.int n,.int d]/\0<d/\d<2 ^ 8000/\Q (low n d) st
theorem sO {as st Q Q'}(h:∀v st,Q v st->Q' v st)(q:cM as st Q):cM as st Q':=by obtain⟨n,d,e,h1,h2,q⟩:=q;exact⟨n,d,e,h1,h2,h _ _ q⟩
theorem vb {as st Q}(q:cM as st Q):as.length=2:=by obtain⟨n,d,rfl,_⟩:=q;rfl
noncomputable abbrev fr (p:Nat × Nat):PV:=.tup [.int p.1,.int p.2]
noncomputable def cj (n d:Nat):Nat × Nat:=(n/Nat.gcd n d,d/Nat.gcd n d)
theorem uN (n d:Nat):low n d=fr (cj n d):=rfl
theorem Ar (n d:Nat):(cj n d).1*d=n*(cj n d).2:=zX n d
theorem fo {d:Nat}(h:0<d):0<(cj n d).2:=HW h
theorem xF {d:Nat}(h:0<d):Nat.gcd (cj n d).1 (cj n d).2=1:=H_ h
theorem q_ (n d:Nat):(cj n d).1<=n:=Nat.div_le_self _ _
theorem sk (n d:Nat):(cj n d).2<=d:=Nat.div_le_self _ _
theorem Mu (h1:Nat.gcd a b=1)(h2:Nat.gcd c d=1)(hb:0<b)(hd:0<d)(h:a*d=c*b):a=c/\b=d:=by
 have hbd:b ∣ d:=by have:b ∣ a*d:=⟨c,by rw[h,T_]⟩;exact Nat.Coprime.dvd_of_dvd_mul_left (show Nat.Coprime b a by unfold Nat.Coprime;rw[TR];exact h1) this
 have hdb:d ∣ b:=by have:d ∣ c*b:=⟨a,by rw[<-h,T_]⟩;exact Nat.Coprime.dvd_of_dvd_mul_left (show Nat.Coprime d c by unfold Nat.Coprime;rw[TR];exact h2) this
 have e:b=d:=Nat.dvd_antisymm hbd hdb;subst e;exact⟨Nat.eq_of_mul_eq_mul_right hb h,rfl⟩
noncomputable def bF (p q:Nat × Nat):Nat × Nat:=cj (p.1*q.2-q.1*p.2) (p.2*q.2)
noncomputable def Ct (p q:Nat × Nat):Nat × Nat:=cj (p.1*q.1) (p.2*q.2)
noncomputable def ik (p q:Nat × Nat):Nat × Nat:=cj (p.1*q.2) (p.2*q.1)
structure Cop (p:Nat × Nat):Prop where
 pos:0<p.2
 one:Nat.gcd p.1 p.2=1
theorem Cop.low {d:Nat}(h:0<d):Cop (cj n d):=⟨fo h,xF h⟩
theorem Cop.ext (h1:Cop p)(h2:Cop q)(h:p.1*q.2=q.1*p.2):p=q:=by obtain⟨e1,e2⟩:=Mu h1.one h2.one h1.pos h2.pos h;exact Prod.ext e1 e2
theorem Cop.isFr (h:Cop p):bP (fr p)=true:=by show bP (.tup [.int _,.int _])=true;rw[mH];refine QM ⟨Int.natCast_nonneg _,Int.ofNat_le.mpr h.pos,?_⟩;rw[UE,UE];exact h.one
theorem en {p q:Nat × Nat}(hp:0<p.2)(hq:0<q.2):Cop (bF p q):=.low (RM hp hq)
theorem wN {p q:Nat × Nat}(hp:0<p.2)(hq:0<q.2):Cop (Ct p q):=.low (RM hp hq)
theorem wR {p q:Nat × Nat}(hp:0<p.2)(hq:0<q.1):Cop (ik p q):=.low (RM hp hq)
structure Sz (k:Nat)(p:Nat × Nat):Prop where
 a:p.1<2 ^ k
 b:p.2<2 ^ k
 pos:0<p.2
theorem Sz.mono {k:Nat}(h:Sz j p)(hk:j<=k):Sz k p:=⟨P7 h.a (RE (by decide) hk),P7 h.b (RE (by decide) hk),h.pos⟩
theorem eC {a b:Nat}(h1:a<2 ^ j)(h2:b<2 ^ k):a*b<2 ^ (j+k):=by
 rw[Nat.pow_add];by_cases hb:b=0
 ·subst hb;simp only[Nat.mul_zero];exact RM (by omega) (by omega)
 ·exact P7 (Nat.mul_lt_mul_of_pos_right h1 (by omega)) (Nat.mul_le_mul_left _ (Q_ h2))
theorem kr (hp:Sz j p)(hq:Sz k q):Sz (j+k) (bF p q):=by have h1:=eC hp.a hq.b;have h3:=eC hp.b hq.b;refine⟨Q3 (q_ _ _) (by omega),Q3 (sk _ _) (by omega),fo (RM hp.pos hq.pos)⟩
def PR (p q:Nat × Nat):Prop:=p.1*q.2<q.1*p.2
noncomputable instance (p q:Nat × Nat):Decidable (PR p q):=inferInstanceAs (Decidable (_<_))
mutual
noncomputable def aY:Nat->PV->Bool
 | _,.int _=>true
 | _,.non=>true
 | 0,.tup _=>false
 | n+1,.tup xs=>dD n xs
 | _,.bl _=>false
 | _,.str _=>false
 | _,.ref _=>false
 | _,.rdl _=>false
 | _,.fn _=>false
noncomputable def dD:Nat->List PV->Bool
 | _,[]=>true
 | n,x::xs=>aY n x && dD n xs
end
mutual
theorem j_:∀ {n:Nat}{v:PV},aY n v=true->∃d,v.toD=some d/\d.canLay0=true/\d.depth<=n+1
 | n,.int i,_=>⟨.int i,by simp[PV.toD],by simp[PyData.canLay0],by simp[PyData.depth]⟩
 | n,.non,_=>⟨.none,by simp[PV.toD],by simp[PyData.canLay0],by simp[PyData.depth]⟩
 | 0,.tup xs,h=>by simp[aY] at h
 | n+1,.tup xs,h=>by rw[aY] at h;obtain⟨ds,e,h1,h2⟩:=cA h;exact⟨.tuple ds,by simp[PV.toD,e],by simp[PyData.canLay0,h1],by simp[PyData.depth];omega⟩
 | n,.bl _,h=>by cases n <;> simp[aY] at h
 | n,.str _,h=>by cases n <;> simp[aY] at h
 | n,.ref _,h=>by cases n <;> simp[aY] at h
 | n,.rdl _,h=>by cases n <;> simp[aY] at h
 | n,.fn _,h=>by cases n <;> simp[aY] at h
theorem cA:∀ {n:Nat}{vs:List PV},dD n vs=true->∃ds,PV.toDs vs=some ds/\PyData.canLayAll0 ds=true/\PyData.depthAll ds<=n+1
 | n,[],_=>⟨[],by simp[PV.toDs],by simp[PyData.canLayAll0],by simp[PyData.depthAll]⟩
 | n,x::xs,h=>by rw[dD,QB] at h;obtain⟨d,e1,h1,h2⟩:=j_ h.1;obtain⟨ds,e2,h3,h4⟩:=cA h.2;exact⟨d::ds,by simp[PV.toDs,e1,e2],by simp[PyData.canLayAll0,h1,h3],by simp[PyData.depthAll];omega⟩
end
mutual
theorem tP:∀ {n:Nat}{v w:PV}{d e:PyData},aY n v=true->aY n w=true->v.toD=some d->w.toD=some e->PyData.eqv d e=v.same w
 | n,.int i,w,d,e,_,hw,hd,he=>by
  simp[PV.toD] at hd;subst hd;cases w with
  | int j=>simp[PV.toD] at he;subst he;simp[PyData.eqv,PV.same,Bool.beq_eq_decide_eq]
  | non=>simp[PV.toD] at he;subst he;simp[PyData.eqv,PV.same]
  | tup ys =>
   cases n with
   | zero=>simp[aY] at hw
   | succ n =>rw[aY] at hw;obtain⟨ds,e1,h1,h2⟩:=cA hw;simp[PV.toD,e1] at he;subst he;simp[PyData.eqv,PV.same]
  | _=>cases n <;> simp[aY] at hw
 | n,.non,w,d,e,_,hw,hd,he=>by
  simp[PV.toD] at hd;subst hd;cases w with
  | int j=>simp[PV.toD] at he;subst he;simp[PyData.eqv,PV.same]
  | non=>simp[PV.toD] at he;subst he;simp[PyData.eqv,PV.same]
  | tup ys =>
   cases n with
   | zero=>simp[aY] at hw
   | succ n =>rw[aY] at hw;obtain⟨ds,e1,h1,h2⟩:=cA hw;simp[PV.toD,e1] at he;subst he;simp[PyData.eqv,PV.same]
  | _=>cases n <;> simp[aY] at hw
 | 0,.tup xs,w,d,e,hv,_,_,_=>by simp[aY] at hv
 | n+1,.tup xs,w,d,e,hv,hw,hd,he=>by
  rw[aY] at hv;obtain⟨ds,e1,h1,h2⟩:=cA hv;simp[PV.toD,e1] at hd;subst hd;cases w with
  | int j=>simp[PV.toD] at he;subst he;simp[PyData.eqv,PV.same]
  | non=>simp[PV.toD] at he;subst he;simp[PyData.eqv,PV.same]
  | tup ys =>rw[aY] at hw;obtain⟨es,e2,h3,h4⟩:=cA hw;simp[PV.toD,e2] at he;subst he;simp only[PyData.eqv,PV.same];exact rM hv hw e1 e2
  | _=>simp[aY] at hw
 | n,.bl _,_,_,_,h,_,_,_=>by cases n <;> simp[aY] at h
 | n,.str _,_,_,_,h,_,_,_=>by cases n <;> simp[aY] at h
 | n,.ref _,_,_,_,h,_,_,_=>by cases n <;> simp[aY] at h
 | n,.rdl _,_,_,_,h,_,_,_=>by cases n <;> simp[aY] at h
 | n,.fn _,_,_,_,h,_,_,_=>by cases n <;> simp[aY] at h
theorem rM:∀ {n:Nat}{vs ws:List PV}{ds es:List PyData},dD n vs=true->dD n ws=true->PV.toDs vs=some ds->PV.toDs ws=some es->PyData.eqvAll ds es=PV.sames vs ws
 | n,[],ws,ds,es,_,hw,hd,he=>by
  simp[PV.toDs] at hd;subst hd;cases ws with
  | nil=>simp[PV.toDs] at he;subst he;simp[PyData.eqvAll,PV.sames]
  | cons y ys =>
   obtain⟨zs,e1,h1,h2⟩:=cA hw;rw[e1] at he;cases he;cases es with
   | nil =>rw[PV.toDs] at e1;split at e1 <;> simp at e1
   | cons=>simp[PyData.eqvAll,PV.sames]
 | n,x::xs,ws,ds,es,hv,hw,hd,he=>by
  rw[dD,QB] at hv;obtain⟨d1,a1,b1,c1⟩:=j_ hv.1;obtain⟨ds1,a2,b2,c2⟩:=cA hv.2;simp[PV.toDs,a1,a2] at hd;subst hd;cases ws with
  | nil=>simp[PV.toDs] at he;subst he;simp[PyData.eqvAll,PV.sames]
  | cons y ys =>rw[dD,QB] at hw;obtain⟨d3,a3,b3,c3⟩:=j_ hw.1;obtain⟨ds4,a4,b4,c4⟩:=cA hw.2;simp[PV.toDs,a3,a4] at he;subst he;rw[PyData.eqvAll,PV.sames,tP hv.1 hw.1 a1 a3,rM hv.2 hw.2 a2 a4]
end
theorem yB {v:PV}(h:v.toD=some d):sh st v=some d:=by
 cases v with
 | ref n=>simp[PV.toD] at h
 | _=>exact h
theorem eh {n:Nat}{k:Bool->Prop}(hn:n<=60)(hv:aY n v=true)(hw:aY n w=true)(h:k (v.same w)):eqW st v w k:=by
 obtain⟨d,e1,h1,h2⟩:=j_ hv;obtain⟨e,e2,h3,h4⟩:=j_ hw;have big:∃d e,sh st v=some d/\sh st w=some e/\SeqAt.shaped d=true/\SeqAt.shaped e=true/\k (PyData.eqv d e):=by
  refine⟨d,e,yB e1,yB e2,?_,?_,?_⟩
  ·simp[SeqAt.shaped,h1];omega
  ·simp[SeqAt.shaped,h3];omega
  ·rw[tP hv hw e1 e2];exact h
 cases v with
 | int i =>
  cases w with
  | int j =>show k (decide (i=j));simp only[PV.same,Bool.beq_eq_decide_eq] at h;exact h
  | _=>exact big
 | bl i=>cases n <;> simp[aY] at hv
 | str i=>cases n <;> simp[aY] at hv
 | _=>exact big
mutual
theorem b7:∀(v:PV),v.same v=true
 | .non=>by simp[PV.same]
 | .bl _=>by simp[PV.same]
 | .int _=>by simp[PV.same]
 | .str _=>by simp[PV.same]
 | .ref _=>by simp[PV.same]
 | .fn _=>by simp[PV.same]
 | .tup xs=>by rw[PV.same];exact i6 xs
 | .rdl xs=>by rw[PV.same];exact i6 xs
theorem i6:∀(vs:List PV),PV.sames vs vs=true
 | []=>by simp[PV.sames]
 | x::xs=>by rw[PV.sames,b7 x,i6 xs];rfl
end
theorem kn:∀ {vs:List PV},(∀v∈vs,aY n v=true)->dD n vs=true
 | [],_=>by rw[dD]
 | x::xs,h=>by rw[dD,h x (by simp),kn fun v hv=>h v (by simp[hv])];rfl
theorem CL {vs:List PV}(h:∀v∈vs,aY n v=true):aY (n+1) (.tup vs)=true:=by rw[aY];exact kn h
def ej:FSp:=fun as st Q=>∃p q,as=[fr p,fr q]/\Sz 3000 p/\Sz 3000 q/\q.1*p.2<=p.1*q.2/\Q (fr (bF p q)) st
theorem uf {as st Q Q'}(h:∀v st,Q v st->Q' v st)(q:ej as st Q):ej as st Q':=by obtain⟨a,b,e,h1,h2,h3,q⟩:=q;exact⟨a,b,e,h1,h2,h3,h _ _ q⟩
theorem xS {as st Q}(q:ej as st Q):as.length=2:=by obtain⟨n,d,rfl,_⟩:=q;rfl
def gF:FSp:=fun as st Q=>∃p q,as=[fr p,fr q]/\Sz 3000 p/\Sz 3000 q/\Q (fr (Ct p q)) st
theorem zH {as st Q Q'}(h:∀v st,Q v st->Q' v st)(q:gF as st Q):gF as st Q':=by obtain⟨a,b,e,h1,h2,q⟩:=q;exact⟨a,b,e,h1,h2,h _ _ q⟩
theorem B0 {as st Q}(q:gF as st Q):as.length=2:=by obtain⟨n,d,rfl,_⟩:=q;rfl
def ja:FSp:=fun as st Q=>∃p q,as=[fr p,fr q]/\Sz 3000 p/\Sz 3000 q/\0<q.1/\Q (fr (ik p q)) st
theorem CN {as st Q Q'}(h:∀v st,Q v st->Q' v st)(q:ja as st Q):ja as st Q':=by obtain⟨a,b,e,h1,h2,h3,q⟩:=q;exact⟨a,b,e,h1,h2,h3,h _ _ q⟩
theorem Fw {as st Q}(q:ja as st Q):as.length=2:=by obtain⟨n,d,rfl,_⟩:=q;rfl
def a8:FSp:=fun as st Q=>∃p q,as=[fr p,fr q]/\Sz 3000 p/\Sz 3000 q/\Q (.bl (decide (p.1*q.2<q.1*p.2))) st
theorem lg {as st Q Q'}(h:∀v st,Q v st->Q' v st)(q:a8 as st Q):a8 as st Q':=by obtain⟨a,b,e,h1,h2,q⟩:=q;exact⟨a,b,e,h1,h2,h _ _ q⟩
theorem mO {as st Q}(q:a8 as st Q):as.length=2:=by obtain⟨n,d,rfl,_⟩:=q;rfl
theorem dS {j k:Nat}(h:j<=k):(2:Nat) ^ j<=2 ^ k:=RE (by decide) h
theorem fE {a b:Nat}(h1:a<2 ^ 3000)(h2:b<2 ^ 3000):CMB (a:Int) (b:Int):=.inl ⟨P7 h1 (dS (by decide)),P7 h2 (dS (by decide))⟩
theorem Iy {a b:Nat}(h1:a<2 ^ 3000)(h2:b<2 ^ 3000):a*b<2 ^ 8000:=P7 (eC h1 h2) (dS (by decide))
theorem FT:(fr p).bel k=true:=by simp[fr,PV.bel,PV.bels]
theorem ji {p q:Nat × Nat}{k:Bool->Prop}(h:k (decide (p=q))):eqW st (fr p) (fr q) k:=by
 refine ym ?_;have:(decide ((p.1:Int)=q.1) && decide ((p.2:Int)=q.2))=decide (p=q):=by
  rw[SR];simp only[Bool.and_eq_true,decide_eq_true_eq];constructor
  ·rintro⟨h1,h2⟩;exact Prod.ext (by omega) (by omega)
  ·rintro rfl;exact⟨rfl,rfl⟩
 rw[this];exact h
def PK (q r:Int):Prop:=0<=q/\0<=r/\r<8589934592
def Pot (st:AH)(p:Nat):Prop:=∃q r,st[p]?=some (pc q r)/\PK q r
theorem Pot.lt (h:Pot st p):p<st.length:=by obtain⟨q,r,e,_⟩:=h;exact km e
theorem Pot.app {g:AH}(h:Pot st p):Pot (st++g) p:=by obtain⟨q,r,e,z⟩:=h;exact⟨q,r,f9 e,z⟩
structure Gr (st:AH)(p:Nat)(st':AH):Prop where
 len:st.length<=st'.length
 old:∀i,i<st.length->i≠p->st'[i]?=st[i]?
 pot:Pot st' p
 was:p<st.length
theorem Gr.refl (h:Pot st p):Gr st p st:=⟨P6 _,fun _ _ _=>rfl,h,h.lt⟩
theorem Gr.trans (a:Gr st p s1)(b:Gr s1 p s2):Gr st p s2:=⟨QP a.len b.len,fun i h1 h2=>(b.old i (P7 h1 a.len) h2).trans (a.old i h1 h2),b.pot,a.was⟩
theorem Gr.app {g:AH}(a:Gr st p s1):Gr st p (s1++g) :=
 ⟨by rw[QS];exact QP a.len (TY _ _),fun i h1 h2=>by rw[QT (P7 h1 a.len)];exact a.old i h1 h2,a.pot.app,a.was⟩
theorem Gr.set (a:Gr st p s1)(z:PK q r):Gr st p (s1.set p (pc q r)) :=
 ⟨by rw[UV];exact a.len,fun i h1 h2=>by rw[Q7 (Ne.symm h2)];exact a.old i h1 h2,⟨q,r,Q6 a.pot.lt,z⟩,a.was⟩
theorem Gr.setN {n:Nat}(a:Gr st p s1)(h:st.length<=n):Gr st p (s1.set n c):=by
 have hn:n≠p:=fun e=>by have:=a.was;omega
 refine⟨by rw[UV];exact a.len,fun i h1 h2=>by rw[Q7 (by omega)];exact a.old i h1 h2,?_,a.was⟩;obtain⟨q,r,e,z⟩:=a.pot;exact⟨q,r,by rw[Q7 hn];exact e,z⟩
theorem Gr.get {n:Nat}(a:Gr st p s1)(h:st[n]?=some c)(hn:n≠p):s1[n]?=some c:=(a.old n (km h) hn).trans h
theorem Gr.tmp {v:PV}{Q:EK}(a:Gr st p s1)(hv:v.bel st.length=true)(k:∀s2,Gr st p s2->s2.length=st.length->Q v s2):Tmp st Q v s1:=by
 have hl:(s1.take st.length).length=st.length:=by rw[RI];exact Nat.min_eq_left a.len
 have hg:∀i,i<st.length->(s1.take st.length)[i]?=s1[i]?:=fun i hi=>by rw[SH hi]
 obtain⟨q,r,e,z⟩:=a.pot;refine⟨s1.take st.length,s1.drop st.length,(List.take_append_drop _ _).symm,hl,fun i hi=>?_,hv,k _ ⟨by omega,fun i h1 h2=>(hg i h1).trans (a.old i h1 h2),⟨q,r,(hg p a.was).trans e,z⟩,a.was⟩ hl⟩;by_cases hp:i=p
 ·subst hp;exact .inr ⟨pc q r,(hg i a.was).trans e,LR⟩
 ·exact .inl ((hg i hi).trans (a.old i hi hp))
theorem NU:yZ 10 9:=⟨by decide,by decide,by decide⟩
theorem Kd {L:List PV}{P:PV->Prop}(h:∀v∈L,P v){y:Int}(y0:0<=y)(y1:y<L.length):∃v,atI L y=some v/\P v:=by
 obtain⟨m,rfl⟩:∃m:Nat,y=m:=⟨y.toNat,by omega⟩;have hm:m<L.length:=by omega
 exact⟨L[m],de (P9 hm),h _ (UP hm)⟩
theorem Gr.ne (a:Gr st p s1):s1.length≠p:=fun e=>by have:=a.pot.lt;omega
theorem dZ {xs:List PV}{v:PV}:atI (xs++[v]) (-1)=some v:=by
 have e:(-1+((xs.length:Int)+1)).toNat=xs.length:=by omega
 simp only[atI,ixN,List.length_append,List.length_singleton];simp;rw[QA (by omega),e];simp
theorem rT:iF st (.ref n) st'=(st'[n]?=st[n]?):=rfl
theorem O_ {L:List PV}:kM L (some 1) none=L.drop 1:=by
 unfold kM;have:=HT.sIx_nat L.length 0 1;rw[show ((1:Nat):Int)=(1:Int) from rfl] at this;rw[HT.sIx_none,this];cases L with
 | nil=>rfl
 | cons x xs =>
  have:min 1 (x::xs).length=1:=by simp only[List.length_cons];omega
  rw[this];exact TU (by simp)
theorem Ca (h:bP v=true):∃n d:Nat,v=fr (n,d)/\0<d:=by
 unfold bP at h;split at h
 ·rename_i n d;have:=RB h;refine⟨n.toNat,d.toNat,?_,by omega⟩;show PV.tup [.int n,.int d]=PV.tup [.int (n.toNat:Int),.int (d.toNat:Int)];rw[RL this.1,RL (by omega)]
 ·cases h
noncomputable def val (p:Nat × Nat):Rat:=(p.1:Rat)/(p.2:Rat)
theorem cb {d:Nat}(h:0<d):(0:Rat)<(d:Rat):=by have:((0:Nat):Rat)<(d:Rat):=TV.mpr h;simpa using this
theorem aU {d:Nat}(h:0<d):val (cj n d)=(n:Rat)/(d:Rat):=by
 have c:=Ar n d;have p:=fo (n:=n) h;unfold val;generalize cj n d=z at *;have e:(z.1:Rat)*d=n*z.2:=by have:=Q0 (fun k:Nat=>(k:Rat)) c;simpa using this
 have p1:=cb p;have p2:=cb h;grind
theorem gD {p:Nat × Nat}(hp:0<p.2):0<=val p:=by unfold val;rw[<-SA,UF (cb hp),Rat.zero_mul,SA];exact Rat.natCast_nonneg
theorem A_ {p q:Nat × Nat}(hp:0<p.2)(hq:0<q.2):val (Ct p q)=val p*val q:=by unfold Ct;rw[aU (RM hp hq)];unfold val;have p1:=cb hp;have p2:=cb hq;simp only[Rat.natCast_mul];grind
theorem dm {p q:Nat × Nat}(hp:0<p.2)(hq:0<q.2):p.1*q.2<q.1*p.2↔val p<val q:=by
 have p1:=cb hp;have p2:=cb hq;have e:(p.1*q.2<q.1*p.2)↔((p.1:Rat)*q.2<q.1*p.2):=by rw[<-TV];simp
 rw[e];unfold val;rw[UF p1];have e2:(q.1:Rat)/q.2*p.2=q.1*p.2/q.2:=by grind
 rw[e2,Rat.lt_div_iff p2]
theorem jf {p q:Nat × Nat}(hp:0<p.2)(hq:0<q.2):p.1*q.2<=q.1*p.2↔val p<=val q:=by rw[<-UT,<-SA,dm hq hp]
theorem gg {p q:Nat × Nat}(hp:0<p.2)(hq:0<q.2)(h:val q<=val p):val (bF p q)=val p-val q:=by
 have h':=(jf hq hp).mpr h;unfold bF;rw[aU (RM hp hq)];unfold val;have p1:=cb hp;have p2:=cb hq;obtain⟨e,he⟩:∃e,p.1*q.2=q.1*p.2+e:=⟨p.1*q.2-q.1*p.2,by omega⟩;have e2:p.1*q.2-q.1*p.2=e:=by omega
 rw[e2];have e3:(p.1:Rat)*q.2=q.1*p.2+e:=by have:=Q0 (fun k:Nat=>(k:Rat)) he;simpa using this
 simp only[Rat.natCast_mul];grind
theorem pY {p:Nat × Nat}(hp:0<p.2):0<p.1↔0<val p:=by
 have:=dm (p:=(0,1)) (q:=p) (by decide) hp;simp only[Nat.zero_mul,Nat.mul_one] at this;rw[this];have e:val (0,1)=0:=by unfold val;grind
 rw[e]
theorem Bm {p q:Nat × Nat}(hp:0<p.2)(hq:0<q.2)(h:0<val q):val (ik p q)=val p/val q:=by have h0:=(pY hq).mpr h;unfold ik;rw[aU (RM hp h0)];unfold val;have p1:=cb hp;have p2:=cb hq;have p3:=cb h0;simp only[Rat.natCast_mul];grind
theorem hJ (hp:Cop p)(hq:Cop q)(h:val p=val q):p=q:=by refine hp.ext hq ?_;have a:=(jf hp.pos hq.pos).mpr (by rw[h];exact SX);have b:=(jf hq.pos hp.pos).mpr (by rw[h];exact SX);omega
theorem val_nought:val (0,1)=0:=by unfold val;grind
structure Pc where
 e:Nat × Nat
 l:Nat × Nat
 h:Nat × Nat
noncomputable abbrev Pc.E (p:Pc):Rat:=val p.e
noncomputable abbrev Pc.L (p:Pc):Rat:=val p.l
noncomputable abbrev Pc.H (p:Pc):Rat:=val p.h
noncomputable abbrev Pc.mg (a p:Pc):Pc:=⟨p.e,a.l,p.h⟩
noncomputable def gB (b:Nat × Nat)(a p:Pc):Bool:=decide (p.l=a.h) && decide (Ct (bF a.h a.l) (bF p.e a.e)=Ct (bF p.h p.l) (bF a.e b))
noncomputable def aS (b:Nat × Nat)(a:Pc):List Pc->List Pc
 | []=>[a]
 | p::r=>if gB b a p=true then aS b (a.mg p) r else a::aS a.e p r
noncomputable def eF:List Pc->List Pc
 | []=>[]
 | p::r=>aS (0,1) p r
structure Pc.Ok (p:Pc):Prop where
 e:Cop p.e
 l:Cop p.l
 h:Cop p.h
noncomputable def Ch (b:Rat):List Pc->Prop
 | []=>True
 | p::r=>p.Ok/\b<p.E/\p.L<=p.H/\Ch p.E r
def Sl (b:Rat)(p:Pc)(s:Rat):Prop:=p.H-p.L=s*(p.E-b)
theorem Sl.ex {b:Rat}{p:Pc}(h:b<p.E):∃s,Sl b p s:=⟨(p.H-p.L)/(p.E-b),by unfold Sl;grind⟩
theorem nN {a p:Pc}{s:Rat}(hb:Cop b)(ha:a.Ok)(hp:p.Ok)(h1:val b<=a.E)(h2:a.E<p.E)(h3:a.L<=a.H)(h4:p.L<=p.H)(hs:Sl a.E p s):gB b a p=true↔p.l=a.h/\Sl (val b) a s:=by
 have q1:=gg ha.h.pos ha.l.pos h3;have q2:=gg hp.e.pos ha.e.pos (RR h2);have q3:=gg hp.h.pos hp.l.pos h4;have q4:=gg ha.e.pos hb.pos h1;have c1:=en ha.h.pos ha.l.pos;have c2:=en hp.e.pos ha.e.pos;have c3:=en hp.h.pos hp.l.pos;have c4:=en ha.e.pos hb.pos;have e1:=A_ c1.pos c2.pos;have e2:=A_ c3.pos c4.pos;rw[q1,q2] at e1;rw[q3,q4] at e2;unfold gB;rw[QB,decide_eq_true_eq,decide_eq_true_eq];unfold Sl at *;constructor
 ·rintro⟨g1,g2⟩;refine⟨g1,?_⟩;have:=Q0 val g2;rw[e1,e2] at this;have w:p.E-a.E≠0:=by grind
  have:(a.H-a.L-s*(a.E-val b))*(p.E-a.E)=0:=by grind
  have:=Rat.mul_eq_zero.mp this;grind
 ·rintro⟨g1,g2⟩;refine⟨g1,hJ (wN c1.pos c2.pos) (wN c3.pos c4.pos) ?_⟩;rw[e1,e2];grind
theorem Aw {a p:Pc}(ha:a.Ok)(hp:p.Ok):(a.mg p).Ok:=⟨hp.e,ha.l,hp.h⟩
noncomputable def NG:Nat × Nat->List Pc->Prop
 | _,[]=>True
 | _,[_]=>True
 | b,a::p::r=>gB b a p=false/\NG a.e (p::r)
theorem A9:∀ {b:Nat × Nat}{a:Pc}{r:List Pc},NG b (a::r)->aS b a r=a::r
 | b,a,[],h=>rfl
 | b,a,p::r,h=>by rw[aS,QC (by rw[h.1];decide),A9 h.2]
theorem AB:∀ {b:Nat × Nat}{a:Pc}{r:List Pc},Cop b->a.Ok->val b<a.E->a.L<=a.H->Ch a.E r->∃e' h' r',aS b a r=⟨e',a.l,h'⟩::r'/\Cop e'/\Cop h'/\a.E<=val e'/\a.L<=val h'/\∀s,Sl (val b) a s->val h'-a.L=s*(val e'-val b)
 | b,a,[],hb,ha,h1,h3,_=>⟨a.e,a.h,[],rfl,ha.e,ha.h,SX,h3,fun s hs=>hs⟩
 | b,a,p::r,hb,ha,h1,h3,⟨hp,h2,h4,hr⟩=>by
  rw[aS];by_cases g:gB b a p=true
  ·rw[QA g];obtain⟨s,hs⟩:=Sl.ex h2;obtain⟨g1,g2⟩:=(nN hb ha hp (RR h1) h2 h3 h4 hs).mp g;have ev:p.L=a.H:=by unfold Pc.L Pc.H;rw[g1]
   obtain⟨e',h',r',k1,k2,k3,k4,k5,k6⟩:=AB (a:=a.mg p) hb (Aw ha hp) (by show val b<p.E;grind) (by show a.L<=p.H;grind) hr;refine⟨e',h',r',k1,k2,k3,?_,k5,fun t ht=>?_⟩
   ·show a.E<=val e';have:p.E<=val e':=k4;grind
   ·refine k6 t ?_;unfold Sl at *;show p.H-a.L=t*(p.E-val b);have:(s-t)*(a.E-val b)=0:=by grind
    have:=Rat.mul_eq_zero.mp this;grind
  ·rw[QC g];exact⟨a.e,a.h,_,rfl,ha.e,ha.h,SX,h3,fun s hs=>hs⟩
theorem Dj:∀ {b:Nat × Nat}{a:Pc}{r:List Pc},Cop b->a.Ok->val b<=a.E->a.L<=a.H->Ch a.E r->NG b (aS b a r)
 | b,a,[],hb,ha,h1,h3,_=>trivial
 | b,a,p::r,hb,ha,h1,h3,⟨hp,h2,h4,hr⟩=>by
  rw[aS];by_cases g:gB b a p=true
  ·rw[QA g];obtain⟨s,hs⟩:=Sl.ex h2;obtain⟨g1,g2⟩:=(nN hb ha hp h1 h2 h3 h4 hs).mp g;have ev:p.L=a.H:=by unfold Pc.L Pc.H;rw[g1]
   exact Dj hb (Aw ha hp) (by show val b<=p.E;grind) (by show a.L<=p.H;grind) hr
  ·rw[QC g];have ng:=Dj (b:=a.e) (a:=p) ha.e hp (RR h2) h4 hr;obtain⟨e',h',r',k1,k2,k3,k4,k5,k6⟩:=AB (b:=a.e) (a:=p) ha.e hp h2 h4 hr;rw[k1] at ng |-
   refine⟨?_,ng⟩;rw[SW];intro z;obtain⟨s,hs⟩:=Sl.ex h2;have hs':Sl a.E ⟨e',p.l,h'⟩ s:=k6 s hs;obtain⟨z1,z2⟩:=(nN (p:=⟨e',p.l,h'⟩) hb ha ⟨k2,hp.l,k3⟩ h1 (show a.E<val e' by grind) h3 k5 hs').mp z;exact g ((nN hb ha hp h1 h2 h3 h4 hs).mpr ⟨z1,z2⟩)
inductive Fg:Nat × Nat->List Pc->List Pc->Prop
 | nil {b}:Fg b [] []
 | keep {b p r' r}:Fg p.e r' r->Fg b (p::r') (p::r)
 | cut {b p m c s r' r}:Cop m->Cop c->val b<val m->val m<p.E->p.L<=val c->val c<=p.H->Sl (val b) p s->val c-p.L=s*(val m-val b)->p.H-val c=s*(p.E-val m)->Fg p.e r' r->Fg b (⟨m,p.l,c⟩::⟨p.e,c,p.h⟩::r') (p::r)
noncomputable def cm (b:Rat):List Pc->Rat->Option Rat
 | [],_=>none
 | p::r,t=>if t<=p.E then some (if b=p.E then p.L else p.L+(p.H-p.L)*((t-b)/(p.E-b))) else cm p.E r t
noncomputable def Rt (b hh:Rat):List Pc->Prop
 | []=>True
 | p::r=>p.Ok/\b<p.E/\hh<=p.L/\p.L<=p.H/\p.E<=p.H/\Rt p.E p.H r
theorem Rt.ch:∀ {r:List Pc}{b hh:Rat},Rt b hh r->Ch b r
 | [],_,_,_=>trivial
 | p::r,b,hh,⟨h1,h2,h3,h4,h5,h6⟩=>⟨h1,h2,h4,h6.ch⟩
noncomputable def RtF:List Pc->Prop
 | []=>True
 | p::r=>p.Ok/\p.L<=p.H/\p.E<=p.H/\(0=p.E->p.L=p.H)/\Rt p.E p.H r
theorem Dp:∀ {r:List Pc}{b:Nat × Nat}{a:Pc}{hh:Rat},Cop b->a.Ok->val b<a.E->hh<=a.L->a.L<=a.H->a.E<=a.H->Rt a.E a.H r->Rt (val b) hh (aS b a r)
 | [],b,a,hh,hb,ha,h1,h2,h3,h4,_=>⟨ha,h1,h2,h3,h4,trivial⟩
 | p::r,b,a,hh,hb,ha,h1,h2,h3,h4,⟨hp,k1,k2,k3,k4,hr⟩=>by
  rw[aS];by_cases g:gB b a p=true
  ·rw[QA g];exact Dp hb (Aw ha hp) (by show val b<p.E;grind) h2 (by show a.L<=p.H;grind) k4 hr
  ·rw[QC g];exact⟨ha,h1,h2,h3,h4,Dp ha.e hp k1 k2 k3 k4 hr⟩
theorem AA:Cop (0,1):=⟨by decide,by decide⟩
theorem D3:∀ {r:List Pc}{a:Pc},a.Ok->a.L<=a.H->a.E<=a.H->(0=a.E->a.L=a.H)->Rt a.E a.H r->RtF (aS (0,1) a r)
 | [],a,ha,h1,h2,h3,_=>⟨ha,h1,h2,h3,trivial⟩
 | p::r,a,ha,h1,h2,h3,⟨hp,k1,k2,k3,k4,hr⟩=>by
  have e0:0<=a.E:=gD ha.e.pos;rw[aS];by_cases g:gB (0,1) a p=true
  ·rw[QA g];exact D3 (Aw ha hp) (by show a.L<=p.H;grind) k4 (by show 0=p.E->a.L=p.H;grind) hr
  ·rw[QC g];exact⟨ha,h1,h2,h3,Dp ha.e hp k1 k2 k3 k4 hr⟩
theorem xU (h:RtF L):RtF (eF L):=by
 cases L with
 | nil=>trivial
 | cons a r=>exact D3 h.1 h.2.1 h.2.2.1 h.2.2.2.1 h.2.2.2.2
theorem qH (h:RtF L):NG (0,1) (eF L):=by
 cases L with
 | nil=>trivial
 | cons a r =>have e0:0<=a.E:=gD h.1.e.pos;exact Dj AA h.1 (by rw[val_nought];exact e0) h.2.1 h.2.2.2.2.ch
theorem yy (h:NG (0,1) L):eF L=L:=by
 cases L with
 | nil=>rfl
 | cons a r=>exact A9 h
theorem D9 {as st Q Q'}(h:∀v st,Q v st->Q' v st)(q:kW as st Q):kW as st Q':=by obtain⟨n,e,h1,q⟩:=q;exact⟨n,e,h1,fun z=>h _ _ (q z)⟩
theorem HD {as st Q}(q:kW as st Q):as.length=1:=by obtain⟨n,rfl,_⟩:=q;rfl
noncomputable abbrev pcV (p:Pc):PV:=.tup [fr p.e,fr p.l,fr p.h]
noncomputable abbrev bf (L:List Pc):PV:=.tup (L.map pcV)
structure Pc.Sz (k:Nat)(p:Pc):Prop where
 e:My.Sz k p.e
 l:My.Sz k p.l
 h:My.Sz k p.h
def SzL (k:Nat)(L:List Pc):Prop:=∀p∈L,p.Sz k
theorem Pc.Sz.mono {k:Nat}{p:Pc}(h:p.Sz j)(hk:j<=k):p.Sz k:=⟨h.e.mono hk,h.l.mono hk,h.h.mono hk⟩
theorem SzL.mono {k:Nat}(h:SzL j L)(hk:j<=k):SzL k L:=fun p hp=>(h p hp).mono hk
noncomputable def LOk:List Pc->Prop
 | []=>True
 | p::r=>p.Ok/\p.L<=p.H/\Ch p.E r
theorem RtF.lok (h:RtF L):LOk L:=by
 cases L with
 | nil=>trivial
 | cons a r=>exact⟨h.1,h.2.1,h.2.2.2.2.ch⟩
noncomputable abbrev Un3:=Nat × Nat × Nat
noncomputable abbrev uV (u:Un3):PV:=.tup [.int u.1,.int u.2.1,.int u.2.2]
noncomputable def RU (b hh:Nat):List Un3->Prop
 | []=>True
 | u::r=>b<u.1/\hh<=u.2.1/\u.2.1<=u.2.2/\u.1<=u.2.2/\RU u.1 u.2.2 r
noncomputable def RUF:List Un3->Prop
 | []=>True
 | u::r=>u.2.1<=u.2.2/\u.1<=u.2.2/\(u.1=0->u.2.1=u.2.2)/\RU u.1 u.2.2 r
def BdU (N:Nat)(U:List Un3):Prop:=∀u∈U,u.1<=N/\u.2.1<=N/\u.2.2<=N
structure App (U:List Un3)(u:Un3):Prop where
 fst:U=[]->u.2.1<=u.2.2/\u.1<=u.2.2/\(u.1=0->u.2.1=u.2.2)
 nxt:∀v,U.getLast?=some v->v.1<u.1/\v.2.2<=u.2.1/\u.2.1<=u.2.2/\u.1<=u.2.2
noncomputable abbrev u5 (d:Nat)(u:Un3):Pc:=⟨cj u.1 d,cj u.2.1 d,cj u.2.2 d⟩
noncomputable abbrev gc:=ej
theorem rB {as st Q Q'}(h:∀v st,Q v st->Q' v st)(q:ej as st Q):ej as st Q':=uf h q
theorem sC {as st Q}(q:ej as st Q):as.length=2:=xS q
noncomputable abbrev gf:=ja
theorem qw {as st Q Q'}(h:∀v st,Q v st->Q' v st)(q:ja as st Q):ja as st Q':=CN h q
theorem sF {as st Q}(q:ja as st Q):as.length=2:=Fw q
noncomputable abbrev fc:=a8
theorem pJ {as st Q Q'}(h:∀v st,Q v st->Q' v st)(q:a8 as st Q):a8 as st Q':=lg h q
theorem qZ {as st Q}(q:a8 as st Q):as.length=2:=mO q
abbrev Mo (s:FSp):Prop:=∀ {as:List PV}{st:AH}{Q Q':EK},(∀v st,Q v st->Q' v st)->s as st Q->s as st Q'
abbrev Ln (s:FSp)(n:Nat):Prop:=∀ {as:List PV}{st:AH}{Q:EK},s as st Q->as.length=n
local macro_rules | `(tactic| walk_at "MO")=>`(tactic| (intro as st Q Q' h q;repeat (first|exact h _ _ q|(obtain ⟨a,q⟩:=q;first|refine Exists.intro a ?_|refine And.intro a ?_)|(intro a;replace q:=q a))))
local macro_rules | `(tactic| walk_at "LN")=>`(tactic| (intro as st Q q;repeat (obtain ⟨a,q⟩:=q;try exact congrArg List.length a)))
def eP:FSp:=fun as st Q=>∃b a p,as=[fr b,pcV a,pcV p]/\Sz 600 b/\a.Sz 600/\p.Sz 600/\val b<=a.E/\a.E<p.E/\a.L<=a.H/\p.L<=p.H/\Q (.bl (gB b a p)) st
theorem uP:Mo eP:=by walk_at "MO"
theorem xw:Ln eP 3:=by walk_at "LN"
def kE:FSp:=fun as st Q=>∃L,as=[bf L]/\SzL 600 L/\LOk L/\L.length<1000/\Q (bf (eF L)) st
theorem BZ:Mo kE:=by walk_at "MO"
theorem GF:Ln kE 1:=by walk_at "LN"
def dJ:FSp:=fun as st Q=>∃(ns:List Int) (k:Nat),as=[.rdl (ns.map .int),.int k]/\ns.length<=63/\k<9/\∀p s,Pot s p->Q (.ref p) s
theorem sv:Mo dJ:=by walk_at "MO"
theorem vG:Ln dJ 2:=by walk_at "LN"
def cz:FSp:=fun as st Q=>∃(p:Nat) (many:Int),as=[.ref p,.int many]/\Pot st p/\0<many/\many<2 ^ 200/\∀x st',0<=x->x<many->Gr st p st'->Q (.int x) st'
theorem pj:Mo cz:=by walk_at "MO"
theorem rq:Ln cz 2:=by walk_at "LN"
def dP:FSp:=fun as st Q=>∃n d:Nat,as=[.int n,.int d]/\0<d/\d<2 ^ 8000/\Q (low n d) st
theorem sE:Mo dP:=by walk_at "MO"
theorem vC:Ln dP 2:=by walk_at "LN"
def c8:FSp:=fun as st Q=>∃(p n:Nat) (far:Int) (U:List Un3),as=[.ref p,.ref n,.int far]/\Pot st p/\n≠p/\st[n]?=some (.lst (U.map uV))/\0<far/\far<=10 ^ 8/\RUF U/\U.length<=60/\BdU (4*10 ^ 9+3*10 ^ 8*U.length) U/\∀u st',App U u->BdU (4*10 ^ 9+3*10 ^ 8*(U.length+1)) [u]->Gr st p st'->Q (uV u) st'
theorem rj:Mo c8:=by walk_at "MO"
theorem sU:Ln c8 3:=by walk_at "LN"
def bA:FSp:=fun as st Q=>∃(p n:Nat) (U:List Un3) (v:Un3),as=[.ref p,.ref n]/\Pot st p/\n≠p/\st[n]?=some (.lst ((U++[v]).map uV))/\v.1<10 ^ 9/\v.2.2<10 ^ 9/\v.2.1<=v.2.2/\(∀w,U.getLast?=some w->w.1<v.1)/\U.length<=60/\∀u st',v.1<u.1->v.2.2<=u.2.1->u.2.1<=u.2.2->BdU (4*10 ^ 9) [u]->Gr st p st'->Q (uV u) st'
theorem lN:Mo bA:=by walk_at "MO"
theorem m5:Ln bA 2:=by walk_at "LN"
def cw:FSp:=fun as st Q=>∃(p:Nat) (most:Nat),as=[.ref p,.int most]/\Pot st p/\most<=40/\∀n U st',Gr st p st'->st.length<=n->st'[n]?=some (.lst (U.map uV))->RUF U->U.length<=most->BdU (10 ^ 11) U->Q (.ref n) st'
theorem pk:Mo cw:=by walk_at "MO"
theorem rR:Ln cw 2:=by walk_at "LN"
def bX:FSp:=fun as st Q=>∃p:Nat,as=[.ref p]/\Pot st p/\∀(d:Nat) st',0<d->d<10 ^ 12->Gr st p st'->Q (.int d) st'
theorem nP:Mo bX:=by walk_at "MO"
theorem pq:Ln bX 1:=by walk_at "LN"
def dQ:FSp:=fun as st Q=>∃(x:PV) (d:Nat) (U:List Un3),as=[x,.int d]/\bN st x=some (U.map uV)/\(x=.tup (U.map uV)\/∃n,x=.ref n)/\0<d/\d<10 ^ 12/\U.length<1000/\Q (bf (U.map (u5 d))) st
theorem sQ:Mo dQ:=by walk_at "MO"
theorem wc:Ln dQ 2:=by walk_at "LN"
noncomputable def frP (v:PV):Option (Nat × Nat) :=
 match v with
 | .tup [.int n,.int d]=>if bP (.tup [.int n,.int d])=true then some (n.toNat,d.toNat) else none
 | _=>none
noncomputable def pcP (v:PV):Option Pc :=
 match v with
 | .tup [a,b,c]=>(frP a).bind fun x=>(frP b).bind fun y=>(frP c).map fun z=>⟨x,y,z⟩
 | _=>none
noncomputable def jw (v:PV):Option (List Pc) :=
 match v with
 | .tup xs=>df (xs.map pcP)
 | _=>none
theorem qo (h:frP v=some p):v=fr p/\Cop p:=by
 unfold frP at h;split at h
 ·rename_i n d;by_cases q:bP (.tup [.int n,.int d])=true
  ·rw[QA q] at h;cases h;rw[mH] at q;obtain⟨h0,h1,h2⟩:=RB q;refine⟨?_,by dsimp only;omega,?_⟩
   ·show PV.tup [.int n,.int d]=PV.tup [.int (n.toNat:Int),.int (d.toNat:Int)];rw[RL h0,RL (by omega)]
   ·have e1:n.natAbs=n.toNat:=by omega
    have e2:d.natAbs=d.toNat:=by omega
    rw[e1,e2] at h2;exact h2
  ·rw[QC q] at h;cases h
 ·cases h
theorem yX (h:Cop p):frP (fr p)=some p:=by show (if bP (fr p)=true then some ((p.1:Int).toNat,(p.2:Int).toNat) else none)=some p;rw[QA h.isFr];rfl
theorem zM:(frP v).isSome=bP v:=by
 unfold frP;split
 ·rename_i n d;by_cases q:bP (.tup [.int n,.int d])=true
  ·rw[QA q,q];rfl
  ·rw[QC q,SW.mpr q];rfl
 ·rename_i h;symm;show bP v=false;cases e:bP v with
  | false=>rfl
  | true =>obtain⟨n,d,rfl,_⟩:=Ca e;exact absurd rfl (h _ _)
theorem Fk (h:pcP v=some p):v=pcV p/\p.Ok:=by
 unfold pcP at h;split at h
 ·rename_i a b c;cases ea:frP a with
  | none=>rw[ea] at h;cases h
  | some x =>
   cases eb:frP b with
   | none=>rw[ea,eb] at h;cases h
   | some y =>
    cases ec:frP c with
    | none=>rw[ea,eb,ec] at h;cases h
    | some z =>rw[ea,eb,ec] at h;cases h;obtain⟨rfl,h1⟩:=qo ea;obtain⟨rfl,h2⟩:=qo eb;obtain⟨rfl,h3⟩:=qo ec;exact⟨rfl,h1,h2,h3⟩
 ·cases h
theorem uS {p:Pc}(h:p.Ok):pcP (pcV p)=some p:=by show (frP (fr p.e)).bind _=_;rw[yX h.e,yX h.l,yX h.h];rfl
theorem xh {f:PV->Option Pc}:∀ {xs:List PV}{L:List Pc},(∀v p,f v=some p->v=pcV p/\p.Ok)->df (xs.map f)=some L->xs=L.map pcV/\∀p∈L,p.Ok
 | [],L,_,h=>by cases h;exact⟨rfl,fun p hp=>(nomatch hp)⟩
 | x::xs,L,hf,h=>by
  obtain⟨d,es,h1,h2,rfl⟩:=C3 h;obtain⟨e1,e2⟩:=hf x d h1;obtain⟨e3,e4⟩:=xh hf h2;refine⟨by rw[e1,e3];rfl,fun p hp=>?_⟩;rcases QZ.mp hp with rfl|hp
  ·exact e2
  ·exact e4 p hp
theorem lB (h:jw v=some L):v=bf L/\∀p∈L,p.Ok:=by
 unfold jw at h;split at h
 ·rename_i xs;obtain⟨e1,e2⟩:=xh (fun v p=>Fk) h;exact⟨by rw[e1],e2⟩
 ·cases h
theorem iK:∀ {L:List Pc},(∀p∈L,p.Ok)->jw (bf L)=some L
 | [],_=>rfl
 | p::L,h=>by have ih:=iK (L:=L) fun q hq=>h q (QD _ hq);show df (pcP (pcV p)::(L.map pcV).map pcP)=_;have ih:df ((L.map pcV).map pcP)=some L:=ih;rw[uS (h p QL),df,ih];rfl
theorem kA:∀ {xs:List PV},(xs.all fun x=>(pcP x).isSome)=(df (xs.map pcP)).isSome
 | []=>rfl
 | x::xs=>by
  rw[RN,QN,kA (xs:=xs)];cases pcP x with
  | none=>rfl
  | some p=>rw[df];cases df (xs.map pcP) <;> rfl
open Classical in
noncomputable def iA (L:List Pc):Bool:=decide (RtF L)
open Classical in
noncomputable def stB (L:List Pc):Bool:=decide (NG (0,1) L)
noncomputable def js (v:PV):Bool :=
 match jw v with
 | some L=>iA L
 | none=>false
noncomputable def mQ (v:PV):Bool :=
 match jw v with
 | some L=>iA L && stB L
 | none=>false
def VSz (v:PV):Prop:=∀xs,v=.tup xs->xs.length<1000/\∀x∈xs,∀ys,x=.tup ys->∀y∈ys,∀n d,y=.tup [.int n,.int d]->n.natAbs<2 ^ 600/\d.natAbs<2 ^ 600
def dN:FSp:=fun as st Q=>∃v,as=[v]/\v.bel st.length=true/\Q (.bl (pcP v).isSome) st
theorem sP:Mo dN:=by walk_at "MO"
theorem vF:Ln dN 1:=by walk_at "LN"
def bb:FSp:=fun as st Q=>∃p:Pc,as=[pcV p]/\p.Sz 600/\∀c:Bool,(c=true↔p.L<=p.H/\p.E<=p.H)->Q (.bl c) st
theorem kQ:Mo bb:=by walk_at "MO"
theorem lD:Ln bb 1:=by walk_at "LN"
def a_:FSp:=fun as st Q=>∃p:Pc,as=[pcV p]/\p.Ok/\p.Sz 600/\∀c:Bool,(c=true↔(0=p.E->p.L=p.H))->Q (.bl c) st
theorem kO:Mo a_:=by walk_at "MO"
theorem lC:Ln a_ 1:=by walk_at "LN"
def aX:FSp:=fun as st Q=>∃a p:Pc,as=[pcV a,pcV p]/\a.Sz 600/\p.Sz 600/\∀c:Bool,(c=true↔a.E<p.E/\a.H<=p.L)->Q (.bl c) st
theorem jP:Mo aX:=by walk_at "MO"
theorem kR:Ln aX 2:=by walk_at "LN"
def gk:FSp:=fun as st Q=>∃v,as=[v]/\v.bel st.length=true/\VSz v/\Q (.bl (js v)) st
theorem yh:Mo gk:=by walk_at "MO"
theorem Ak:Ln gk 1:=by walk_at "LN"
def dM:FSp:=fun as st Q=>∃v,as=[v]/\v.bel st.length=true/\VSz v/\Q (.bl (mQ v)) st
theorem sR:Mo dM:=by walk_at "MO"
theorem vQ:Ln dM 1:=by walk_at "LN"
def ba:FSp:=fun as st Q=>∃v,as=[v]/\v.bel st.length=true/\(∀n d,v=.tup [.int n,.int d]->n.natAbs<2 ^ 600/\d.natAbs<2 ^ 600)/\Q (.bl (bP v)) st
theorem kK:Mo ba:=by walk_at "MO"
theorem ly:Ln ba 1:=by walk_at "LN"
def bw:FSp:=fun as st Q=>∃L,as=[bf L]/\(∀p∈L,p.Ok)/\SzL 600 L/\Q (.bl (iA L)) st
theorem lR:Mo bw:=by walk_at "MO"
theorem mj:Ln bw 1:=by walk_at "LN"
def bV:FSp:=fun as st Q=>∃v,as=[v]/\v.bel st.length=true/\VSz v/\Q (.bl (js v)) st
theorem oG:Mo bV:=by walk_at "MO"
theorem pR:Ln bV 1:=by walk_at "LN"
def bK:FSp:=fun as st Q=>∃L,as=[bf L]/\RtF L/\SzL 600 L/\L.length<1000/\Q (.bl (stB L)) st
theorem mG:Mo bK:=by walk_at "MO"
theorem nK:Ln bK 1:=by walk_at "LN"
noncomputable def dg (n:Nat):List Nat:=(Nat.toDigits 10 n).map Char.toNat
noncomputable abbrev nt (n:Nat):Str:=Str.ofString (toString ((n:Nat):Int))
theorem f6 (n:Nat):(nt n).cps.toList=dg n:=W.KIN.signs_num n
theorem Mv (n:Nat):PySem.NumText.digitsVal (dg n)=n:=W.KIN.val_back n
theorem fq {n:Nat}(h:n<10):dg n=[48+n]:=by
 unfold dg;rw[Nat.toDigits_of_lt_base h];have:∀d:Nat,d<10->(Nat.digitChar d).toNat=48+d:=by decide
 show [(Nat.digitChar n).toNat]=_;rw[this n h]
theorem p_ {n:Nat}(h:¬n<10):dg n=dg (n/10)++[48+n % 10]:=by
 have hm:n % 10<10:=VA n (by decide);have t:Nat.toDigits 10 (n/10)++Nat.toDigits 10 (n % 10)=Nat.toDigits 10 (10*(n/10)+n % 10):=Nat.toDigits_append_toDigits (by decide) (by omega) hm;rw[Nat.div_add_mod] at t;have e:=fq hm;unfold dg at e |-
 rw[<-t,TC,e]
theorem zP (n:Nat):∀c∈dg n,48<=c/\c<=57:=by
 induction n using Nat.strongRecOn with
 | _ n ih =>
  by_cases h:n<10
  ·rw[fq h];intro c hc;rw[QI] at hc;omega
  ·rw[p_ h];intro c hc;rcases Q5.mp hc with hc|hc
   ·exact ih _ (by omega) c hc
   ·rw[QI] at hc;omega
theorem BG (n:Nat):∃c r,dg n=c::r/\(c=48->n=0):=by
 induction n using Nat.strongRecOn with
 | _ n ih =>
  by_cases h:n<10
  ·exact⟨_,_,fq h,fun e=>by omega⟩
  ·obtain⟨c,r,e,k⟩:=ih (n/10) (by omega);refine⟨c,r++[48+n % 10],by rw[p_ h,e];rfl,fun z=>?_⟩;have:=k z;omega
theorem Ag:∀(k n:Nat),n<10 ^ (k+1)->(dg n).length<=k+1
 | 0,n,h=>by rw[fq h];exact P6 _
 | k+1,n,h=>by
  by_cases h1:n<10
  ·rw[fq h1];simp
  ·rw[p_ h1,QS];have:n/10<10 ^ (k+1):=by rw[UA] at h;omega
   have:=Ag k _ this;simp only[List.length_singleton];omega
theorem jq {x y:Str}(h:x.cps.toList=y.cps.toList):x=y:=by obtain⟨⟨a⟩⟩:=x;obtain⟨⟨b⟩⟩:=y;cases h;rfl
theorem cH (x y:Str):(x++y).cps.toList=x.cps.toList++y.cps.toList:=by show (x.cps++y.cps).toList=_;rw[T9]
theorem aq (x:Str):x.length=x.cps.toList.length:=by simp[Str.length]
theorem DJ (cs:List Nat):PySem.NumText.digitsVal (48::cs)=PySem.NumText.digitsVal cs:=by unfold PySem.NumText.digitsVal;rw[S_]
theorem Gg {x y:Str}(h:47 ∉ x.cps.toList)(h2:47 ∉ y.cps.toList):oP (x++("/":Str)++y) "/"=[.str x,.str "/",.str y]:=by
 have el:(x++("/":Str)++y).cps.toList=x.cps.toList++47::y.cps.toList:=by rw[cH,cH,QY];rfl
 generalize x++("/":Str)++y=z at el;have f:=TL z 47;rw[QM (by rw[el];simp)] at f;unfold oP;cases e:Builtin.Str.occurrences z "/" 0 z.length 1 with
 | nil =>have e':Builtin.Str.occurrences z ⟨#[47]⟩ 0 z.length 1=[]:=e;rw[e'] at f;cases f
 | cons i r =>
  have e':Builtin.Str.occurrences z ⟨#[47]⟩ 0 z.length 1=i::r:=e;have sp:=(PySem.StrLaws.subAt_one z 47 i).mp (PySem.StrLaws.occ_spec z ⟨#[47]⟩ 0 z.length 1 i (by rw[e'];exact QL ..));rw[el] at sp;have hi:i=x.cps.toList.length:=by
   by_cases h3:i<x.cps.toList.length
   ·rw[QT h3] at sp;exact absurd (P_ sp) h
   ·rw[QV (by omega)] at sp;cases q:i-x.cps.toList.length with
    | zero=>omega
    | succ k =>rw[q,SL] at sp;exact absurd (P_ sp) h2
  subst hi;have s1:Builtin.Str.strSub z 0 x.cps.toList.length=x:=jq (by rw[RC,el];simp);have s2:Builtin.Str.strSub z (x.cps.toList.length+1) z.length=y:=jq (by rw[RC,aq,el];rw[List.drop_append,List.drop_eq_nil_of_le (by omega),T4,show x.cps.toList.length+1-x.cps.toList.length=1 by omega,List.drop_succ_cons,R8];exact TU (by simp;omega))
  show [PV.str (Builtin.Str.strSub z 0 x.cps.toList.length),PV.str "/",PV.str (Builtin.Str.strSub z (x.cps.toList.length+1) z.length)]=_;rw[s1,s2]
theorem JU:47 ∉ (nt n).cps.toList:=fun h=>by rw[f6] at h;have:=zP n _ h;omega
noncomputable def ft (n d:Nat):Str:=if d=1 then nt n else nt n++("/":Str)++nt d
noncomputable def eK (z:Str):Bool:=!z.cps.toList.isEmpty && z.cps.toList.all (fun c=>decide (48<=c/\c<=57)) && (decide (z="0") || !decide (z.cps.toList.head?=some 48))
noncomputable def eE (z:Str):Nat:=PySem.NumText.digitsVal z.cps.toList
noncomputable def sD (z:Str):Bool:=!(Builtin.Str.occurrences z "/" 0 z.length 1).isEmpty
noncomputable def kI (z:Str):Str:=match Builtin.Str.occurrences z "/" 0 z.length 1 with
 | i::_=>Builtin.Str.strSub z 0 i
 | []=>z
noncomputable def lJ (z:Str):Str:=match Builtin.Str.occurrences z "/" 0 z.length 1 with
 | i::_=>Builtin.Str.strSub z (i+1) z.length
 | []=>Str.empty
noncomputable def rdF:PV->Option (Nat × Nat)
 | .str z=>if eK (kI z)=true then (if sD z=true then (if eK (lJ z)=true/\2<=eE (lJ z)/\Nat.gcd (eE (kI z)) (eE (lJ z))=1 then some (eE (kI z),eE (lJ z)) else none) else some (eE (kI z),1)) else none
 | _=>none
noncomputable def frR:Option (Nat × Nat)->PV
 | some (n,d)=>okR (.tup [.int n,.int d])
 | none=>exR 0
def TxT (st:AH)(x:PV):Prop:=x.bel st.length=true/\∀z,x=.str z->z.length<=5000
theorem AX (z:Str):oP z "/"=if sD z=true then [.str (kI z),.str "/",.str (lJ z)] else [.str z,.str Str.empty,.str Str.empty]:=by
 unfold oP sD kI lJ;cases Builtin.Str.occurrences z "/" 0 z.length 1 with
 | nil=>rfl
 | cons i r=>rfl
theorem AW (h:sD z=false):kI z=z:=by
 unfold sD at h;unfold kI;revert h;cases Builtin.Str.occurrences z "/" 0 z.length 1 with
 | nil=>intro _;rfl
 | cons i r=>intro h;cases h
theorem GH (z:Str):(kI z).length<=z.length:=by
 unfold kI;cases Builtin.Str.occurrences z "/" 0 z.length 1 with
 | nil=>exact P6 _
 | cons i r=>show (Builtin.Str.strSub z 0 i).length<=_;rw[aq,RC,aq z,RI,R5];omega
theorem Dw (z:Str):(lJ z).length<=z.length:=by
 unfold lJ;cases Builtin.Str.occurrences z "/" 0 z.length 1 with
 | nil=>exact Q8 _
 | cons i r=>show (Builtin.Str.strSub z _ _).length<=_;rw[aq,RC,aq z,RI,R5];omega
theorem Gi (h:eK z=true):(∀c∈z.cps.toList,48<=c/\c<=57)/\z.cps.toList≠[]:=by unfold eK at h;rw[QB,QB,SN] at h;refine⟨fun c hc=>RB (h.1.2 c hc),fun e=>?_⟩;rw[e] at h;exact absurd h.1.1 (by decide)
theorem rn:∀(l:List Nat) (a:Nat),l.foldl (fun acc c=>acc*10+(c-48)) a=a*10 ^ l.length+PySem.NumText.digitsVal l
 | [],a=>by simp[PySem.NumText.digitsVal]
 | c::l,a=>by unfold PySem.NumText.digitsVal;rw[S_,S_,rn l,rn l (0*10+(c-48)),R6,UA,Nat.add_mul,U7,Nat.zero_add,T_ (10 ^ l.length) 10,<-Nat.mul_assoc];omega
theorem Bi (a b:List Nat):PySem.NumText.digitsVal (a++b)=PySem.NumText.digitsVal a*10 ^ b.length+PySem.NumText.digitsVal b:=by show (a++b).foldl _ 0=_;rw[List.foldl_append];exact rn b _
theorem Ez (a:List Nat)(c:Nat):PySem.NumText.digitsVal (a++[c])=PySem.NumText.digitsVal a*10+(c-48):=by show (a++[c]).foldl _ 0=_;rw[List.foldl_append];rfl
theorem AF:∀ {l:List Nat},(∀c∈l,48<=c/\c<=57)->PySem.NumText.digitsVal l<10 ^ l.length
 | [],_=>by decide
 | c::l,h=>by
  have e:=Bi [c] l;have hc:=h c (QL ..);have:=AF (l:=l) fun d hd=>h d (QD _ hd);have e1:PySem.NumText.digitsVal [c]=c-48:=by show 0*10+(c-48)=_;omega
  rw[List.singleton_append,e1] at e;rw[e,R6,UA];have:(c-48)*10 ^ l.length<=9*10 ^ l.length:=SY _ (by omega);omega
theorem Ii {n:Nat}(h:n<10 ^ k)(hk:k<=5000):n<2 ^ 20000:=by
 have h1:(10:Nat) ^ k<=10 ^ 5000:=RE (by decide) hk;have h2:(10:Nat) ^ 5000<=16 ^ 5000:=Nat.pow_le_pow_left (by decide) 5000;have h3:(16:Nat) ^ 5000=2 ^ 20000:=by rw[show (16:Nat)=2 ^ 4 from rfl,<-Nat.pow_mul]
 rw[<-h3];exact P7 h (QP h1 h2)
theorem Eg (z:Str)(l u:Option Int):l4 z l u=PySem.StrLaws.sliceText z l u:=rfl
theorem MA {z:Str}{k:Nat}(h:k<=z.length):(l4 z none (some (k:Int))).cps.toList=z.cps.toList.take k:=by rw[Eg,PySem.StrLaws.sliceText_to ⟨Int.natCast_nonneg _,by rw[aq] at h;omega⟩];simp
theorem GT {z:Str}{a b:Nat}(hab:a<=b)(h:b<=z.length):(l4 z (some (a:Int)) (some (b:Int))).cps.toList=(z.cps.toList.drop a).take (b-a):=by rw[Eg,PySem.StrLaws.sliceText_nat z hab h]
def Asked (z:Str):Prop:=∀l:List Nat,l <:+: z.cps.toList->(∀c∈l,48<=c/\c<=57)->l.length<=12
noncomputable def rdW (z:Str):Option (Nat × Nat):=rdF (.str z)
noncomputable def rdP (z:Str):Option (List (Nat × Nat)):=df ((Txt.split z " ").map rdW)
noncomputable def rdL (z:Str):Option (List (List (Nat × Nat))):=df ((Txt.split z "; ").map rdP)
noncomputable abbrev pV (l:List (Nat × Nat)):PV:=.tup (l.map fr)
noncomputable abbrev lV (L:List (List (Nat × Nat))):PV:=.tup (L.map pV)
noncomputable def rdS:PV->Option PV
 | .str z=>if z="never" then some (.tup []) else
  match rdL z with
  | some L=>if mQ (lV L)=true then some (lV L) else none
  | none=>none
 | _=>none
def Txz (st:AH)(x:PV):Prop:=TxT st x/\∀z,x=.str z->∀L,rdL z=some L->VSz (lV L)
noncomputable def Ab:Option PV->PV
 | some v=>okR v
 | none=>exR 0
noncomputable abbrev ftp (p:Nat × Nat):Str:=ft p.1 p.2
noncomputable def pTx (p:Pc):Str:=Txt.join " " [ftp p.e,ftp p.l,ftp p.h]
noncomputable def sTx:List Pc->Str
 | []=>"never"
 | p::r=>Txt.join "; " ((p::r).map pTx)
def P64 (p:Nat × Nat):Prop:=p.1<10 ^ 64/\p.2<10 ^ 64
def C64 (p:Pc):Prop:=P64 p.e/\P64 p.l/\P64 p.h
noncomputable def Cz:Option (Nat × Nat)->PV
 | none=>.non
 | some p=>fr p
noncomputable def bgx (L:List Pc):Nat->Nat × Nat
 | 0=>(0,1)
 | i+1=>((L[i]?).map Pc.e).getD (0,1)
def iP:FSp:=fun as st Q=>∃(j m:Nat) (L:List Pc) (t:Nat × Nat),as=[bf L,fr t]/\(1<=j/\m+4*j+2<=2900)/\RtF L/\SzL j L/\Cop t/\Sz m t/\L.length<10000/\∀o,(∀p,o=some p->Cop p/\Sz (m+4*j+2) p)->cm 0 L (val t)=o.map val->Q (Cz o) st
theorem xM:Mo iP:=by walk_at "MO"
theorem zj:Ln iP 2:=by walk_at "LN"
def cX:FSp:=fun as st Q=>∃p q:Nat × Nat,as=[fr p,fr q]/\Sz 3000 p/\Sz 3000 q/\Q (.int ((p.1:Int)*q.2-q.1*p.2)) st
theorem qT:Mo cX:=by walk_at "MO"
theorem s_:Ln cX 2:=by walk_at "LN"
def bS:FSp:=fun as st Q=>∃(j m:Nat) (nx ny fx fy x:Nat × Nat),as=[.tup [fr nx,fr ny],.tup [fr fx,fr fy],fr x]/\(1<=j/\m+4*j+2<=2900)/\(Sz j nx/\Sz j ny/\Sz j fx/\Sz j fy/\Sz m x)/\(val nx<val fx/\val nx<=val x/\val x<=val fx)/\∀r,Cop r->Sz (m+4*j+2) r->val r=val ny+(val fy-val ny)*((val x-val nx)/(val fx-val nx))->Q (fr r) st
theorem nS:Mo bS:=by walk_at "MO"
theorem pK:Ln bS 3:=by walk_at "LN"
def oQ:FSp:=fun _ _ _=>False
def bL:FSp:=fun as st Q=>∃(L:List Pc) (i:Nat),as=[bf L,.int i]/\i<=L.length/\Q (fr (bgx L i)) st
theorem mw:Mo bL:=by walk_at "MO"
theorem oF:Ln bL 2:=by walk_at "LN"
def gq:FSp:=fun as st Q=>∃(j m:Nat) (L:List Pc) (i:Nat) (p:Pc) (t:Nat × Nat),as=[bf L,.int i,fr t]/\(1<=j/\m+4*j+2<=2900)/\RtF L/\SzL j L/\L[i]?=some p/\Cop t/\Sz m t/\val (bgx L i)<=val t/\val t<=p.E/\∀r,Cop r->Sz (m+4*j+2) r->val r=(if val (bgx L i)=p.E then p.L else p.L+(p.H-p.L)*((val t-val (bgx L i))/(p.E-val (bgx L i))))->Q (fr r) st
theorem wJ:Mo gq:=by walk_at "MO"
theorem Aj:Ln gq 3:=by walk_at "LN"
def eQ:FSp:=fun as st Q=>∃v:PV,as=[v]/\Q (.tup [.tup [v,fr (0,1),v]]) st
theorem vm:Mo eQ:=by walk_at "MO"
theorem xA:Ln eQ 1:=by walk_at "LN"
noncomputable def lb (y:Rat):Rat->Option Rat->List Pc->Option Rat
 | _,acc,[]=>acc
 | b,acc,p::r=>lb y p.E (if p.H<=y then some p.E else if p.L<=y then some (b+(y-p.L)/(p.H-p.L)*(p.E-b)) else acc) r
def iH:FSp:=fun as st Q=>∃(j m:Nat) (L:List Pc) (y:Nat × Nat),as=[bf L,fr y]/\(1<=j/\m+4*j+2<=2900)/\RtF L/\SzL j L/\Cop y/\Sz m y/\L.length<10000/\∀o,(∀p,o=some p->Cop p/\Sz (m+4*j+2) p)->lb (val y) 0 none L=o.map val->Q (Cz o) st
theorem yk:Mo iH:=by walk_at "MO"
theorem zE:Ln iH 2:=by walk_at "LN"
def bT:FSp:=fun as st Q=>∃n:Nat,as=[.int n]/\n<10 ^ 64/\Q (.str (nt n)) st
theorem oi:Mo bT:=by walk_at "MO"
theorem pN:Ln bT 1:=by walk_at "LN"
def aG:FSp:=fun as st Q=>∃p:Nat × Nat,as=[fr p]/\P64 p/\Q (.str (ftp p)) st
theorem gy:Mo aG:=by walk_at "MO"
theorem gP:Ln aG 1:=by walk_at "LN"
def bc:FSp:=fun as st Q=>∃z:Str,as=[.str z]/\z.length<=5000/\Q (.bl (eK z)) st
theorem kJ:Mo bc:=by walk_at "MO"
theorem lO:Ln bc 1:=by walk_at "LN"
def aN:FSp:=fun as st Q=>∃z:Str,as=[.str z]/\z.length<=5000/\Q (if eK z=true then okR (.int (eE z)) else exR 0) st
theorem eI:Mo aN:=by walk_at "MO"
theorem pv:Ln aN 1:=by walk_at "LN"
def aJ:FSp:=fun as st Q=>∃x:PV,as=[x]/\TxT st x/\Q (frR (rdF x)) st
theorem dG:Mo aJ:=by walk_at "MO"
theorem ml:Ln aJ 1:=by walk_at "LN"
def cB:FSp:=fun as st Q=>∃p:Pc,as=[pcV p]/\C64 p/\Q (.str (pTx p)) st
theorem pD:Mo cB:=by walk_at "MO"
theorem rP:Ln cB 1:=by walk_at "LN"
def aM:FSp:=fun as st Q=>∃L:List Pc,as=[bf L]/\L.length<=40/\(∀p∈L,C64 p)/\Q (.str (sTx L)) st
theorem jC:Mo aM:=by walk_at "MO"
theorem jZ:Ln aM 1:=by walk_at "LN"
def a0:FSp:=fun as st Q=>∃z:Str,as=[.str z]/\z.length<=5000/\Q (Ab ((rdP z).map pV)) st
theorem fB:Mo a0:=by walk_at "MO"
theorem qN:Ln a0 1:=by walk_at "LN"
def aZ:FSp:=fun as st Q=>∃x:PV,as=[x]/\Txz st x/\Q (Ab (rdS x)) st
theorem fL:Mo aZ:=by walk_at "MO"
theorem qB:Ln aZ 1:=by walk_at "LN"
def cZ:FSp:=fun as st Q=>∃L,as=[bf L]/\RtF L/\SzL 60 L/\L.length<=60/\Q (bf (eF L)) st
theorem qL:Mo cZ:=by walk_at "MO"
theorem tI:Ln cZ 1:=by walk_at "LN"
noncomputable abbrev bQ:=aG
theorem jD {as st Q Q'}(h:∀v st,Q v st->Q' v st)(q:aG as st Q):aG as st Q':=gy h q
theorem jM {as st Q}(q:aG as st Q):as.length=1:=gP q
noncomputable abbrev fY:=aM
theorem se {as st Q Q'}(h:∀v st,Q v st->Q' v st)(q:aM as st Q):aM as st Q':=jC h q
theorem sJ {as st Q}(q:aM as st Q):as.length=1:=jZ q
def bI:FSp:=fun as st Q=>∃z:Str,as=[.str z]/\Txz st (.str z)/\rdS (.str z)=none/\Q (.bl true) st
theorem m9:Mo bI:=by walk_at "MO"
theorem nG:Ln bI 1:=by walk_at "LN"
def bq:FSp:=fun as st Q=>∃(p:Nat) (L:List Pc),as=[.ref p,bf L]/\Pot st p/\RtF L/\SzL 40 L/\L≠[]/\L.length<=40/\∀st',Gr st p st'->Q (.bl true) st'
theorem pP:Mo bq:=by walk_at "MO"
theorem rZ:Ln bq 2:=by walk_at "LN"
noncomputable abbrev dt:PV:=(.str "never")
noncomputable abbrev dO:PV:=(.tup [(.int 0),(.int 1)])
noncomputable abbrev iG:PV:=(.int 10000000000000000000000000000000000000000000000000000000000000000)
noncomputable abbrev br:PV:=(.int 64)
noncomputable abbrev i2:PV:=(.str "0123456789")
noncomputable def Γ:Nat->FSp
 | 0=>a9
 | 1=>aO
 | 2=>bB
 | 3=>cM
 | 4=>ej
 | 5=>gF
 | 6=>a8
 | 7=>bT
 | 8=>aG
 | 9=>bc
 | 10=>okO aN
 | 11=>okO aJ
 | 12=>cX
 | 13=>bS
 | 14=>dN
 | 15=>bb
 | 16=>a_
 | 17=>aX
 | 18=>gk
 | 19=>eP
 | 20=>kE
 | 21=>dM
 | 22=>oQ
 | 23=>bL
 | 24=>gq
 | 25=>iP
 | 26=>iH
 | 27=>eQ
 | 28=>cB
 | 29=>aM
 | 30=>okO a0
 | 31=>okO aZ
 | 32=>dJ
 | 33=>cz
 | 34=>dP
 | 35=>gc
 | 36=>gf
 | 37=>fc
 | 38=>c8
 | 39=>bA
 | 40=>cw
 | 41=>bX
 | 42=>dQ
 | 43=>c9
 | 44=>ba
 | 45=>bw
 | 46=>bV
 | 47=>bK
 | 48=>cZ
 | 49=>bQ
 | 50=>fY
 | 51=>bI
 | 52=>bq
 | 53=>kW
 | _=>fun _ _ _=>False
theorem Γ_0:Γ 0=a9:=id rfl
theorem Γ_1:Γ 1=aO:=id rfl
theorem Γ_2:Γ 2=bB:=id rfl
theorem Γ_3:Γ 3=cM:=id rfl
theorem Γ_4:Γ 4=ej:=id rfl
theorem Γ_5:Γ 5=gF:=id rfl
theorem Γ_6:Γ 6=a8:=id rfl
theorem Γ_7:Γ 7=bT:=id rfl
theorem Γ_8:Γ 8=aG:=id rfl
theorem Γ_9:Γ 9=bc:=id rfl
theorem Ou:Γ 10=okO aN:=id rfl
theorem OR:Γ 11=okO aJ:=id rfl
theorem NL:Γ 12=cX:=id rfl
theorem M6:Γ 13=bS:=id rfl
theorem ON:Γ 14=dN:=id rfl
theorem NM:Γ 15=bb:=id rfl
theorem NZ:Γ 16=a_:=id rfl
theorem OB:Γ 17=aX:=id rfl
theorem MP:Γ 18=gk:=id rfl
theorem N2:Γ 19=eP:=id rfl
theorem Nq:Γ 20=kE:=id rfl
theorem M_:Γ 21=dM:=id rfl
theorem O7:Γ 22=oQ:=id rfl
theorem Oc:Γ 23=bL:=id rfl
theorem Ny:Γ 24=gq:=id rfl
theorem MY:Γ 25=iP:=id rfl
theorem O1:Γ 26=iH:=id rfl
theorem ND:Γ 27=eQ:=id rfl
theorem NF:Γ 28=cB:=id rfl
theorem OY:Γ 29=aM:=id rfl
theorem M':Γ 30=okO a0:=id rfl
theorem Ox:Γ 31=okO aZ:=id rfl
theorem N_:Γ 32=dJ:=id rfl
theorem Oa:Γ 33=cz:=id rfl
theorem Oo:Γ 34=dP:=id rfl
theorem Ng:Γ 35=gc:=id rfl
theorem MS:Γ 36=gf:=id rfl
theorem MQ:Γ 37=fc:=id rfl
theorem OJ:Γ 38=c8:=id rfl
theorem N0:Γ 39=bA:=id rfl
theorem OS:Γ 40=cw:=id rfl
theorem Oe:Γ 41=bX:=id rfl
theorem NH:Γ 42=dQ:=id rfl
theorem MV:Γ 43=c9:=id rfl
theorem NJ:Γ 44=ba:=id rfl
theorem OT:Γ 45=bw:=id rfl
theorem NC:Γ 46=bV:=id rfl
theorem Ob:Γ 47=bK:=id rfl
theorem MM:Γ 48=cZ:=id rfl
theorem NI:Γ 49=bQ:=id rfl
theorem M9:Γ 50=fY:=id rfl
theorem NX:Γ 51=bI:=id rfl
theorem Ow:Γ 52=bq:=id rfl
theorem NV:Γ 53=kW:=id rfl
theorem Γm:aW Γ:=by
 intro f vs st Q Q' h q
 match f,q with
 | 0,q=>exact k_ (st:=st) h q
 | 1,q=>exact kH (st:=st) h q
 | 2,q=>exact nV (st:=st) h q
 | 3,q=>exact sO (st:=st) h q
 | 4,q=>exact uf (st:=st) h q
 | 5,q=>exact zH (st:=st) h q
 | 6,q=>exact lg (st:=st) h q
 | 7,q=>exact oi (st:=st) h q
 | 8,q=>exact gy (st:=st) h q
 | 9,q=>exact kJ (st:=st) h q
 | 10,q=>exact mX (sp:=aN) eI h q
 | 11,q=>exact mX (sp:=aJ) dG h q
 | 12,q=>exact qT (st:=st) h q
 | 13,q=>exact nS (st:=st) h q
 | 14,q=>exact sP (st:=st) h q
 | 15,q=>exact kQ (st:=st) h q
 | 16,q=>exact kO (st:=st) h q
 | 17,q=>exact jP (st:=st) h q
 | 18,q=>exact yh (st:=st) h q
 | 19,q=>exact uP (st:=st) h q
 | 20,q=>exact BZ (st:=st) h q
 | 21,q=>exact sR (st:=st) h q
 | 22,q=>exact(show False from q).elim
 | 23,q=>exact mw (st:=st) h q
 | 24,q=>exact wJ (st:=st) h q
 | 25,q=>exact xM (st:=st) h q
 | 26,q=>exact yk (st:=st) h q
 | 27,q=>exact vm (st:=st) h q
 | 28,q=>exact pD (st:=st) h q
 | 29,q=>exact jC (st:=st) h q
 | 30,q=>exact mX (sp:=a0) fB h q
 | 31,q=>exact mX (sp:=aZ) fL h q
 | 32,q=>exact sv (st:=st) h q
 | 33,q=>exact pj (st:=st) h q
 | 34,q=>exact sE (st:=st) h q
 | 35,q=>exact rB (st:=st) h q
 | 36,q=>exact qw (st:=st) h q
 | 37,q=>exact pJ (st:=st) h q
 | 38,q=>exact rj (st:=st) h q
 | 39,q=>exact lN (st:=st) h q
 | 40,q=>exact pk (st:=st) h q
 | 41,q=>exact nP (st:=st) h q
 | 42,q=>exact sQ (st:=st) h q
 | 43,q=>exact lM (st:=st) h q
 | 44,q=>exact kK (st:=st) h q
 | 45,q=>exact lR (st:=st) h q
 | 46,q=>exact oG (st:=st) h q
 | 47,q=>exact mG (st:=st) h q
 | 48,q=>exact qL (st:=st) h q
 | 49,q=>exact jD (st:=st) h q
 | 50,q=>exact se (st:=st) h q
 | 51,q=>exact m9 (st:=st) h q
 | 52,q=>exact pP (st:=st) h q
 | 53,q=>exact D9 (st:=st) h q
 | _+54,q=>exact q.elim
noncomputable def ΓR:Nat->FSp
 | 10=>aN
 | 11=>aJ
 | 30=>a0
 | 31=>aZ
 | _=>fun _ _ _=>False
theorem KY:ΓR 10=aN:=id rfl
theorem Jo:ΓR 11=aJ:=id rfl
theorem KO:ΓR 30=a0:=id rfl
theorem J0:ΓR 31=aZ:=id rfl
theorem ΓRm:aW ΓR:=by
 intro f vs st Q Q' h q;unfold ΓR at q |-
 split at q
 ·exact eI (st:=st) h q
 ·exact dG (st:=st) h q
 ·exact fB (st:=st) h q
 ·exact fL (st:=st) h q
 ·exact q.elim
noncomputable def FX:Xf:={ xs:=["NoText"],rz:=[10,11,30,31] }
noncomputable def ysL:List Str:=["NoText"]
noncomputable def OF (k i:Nat):Bool:=([true]:List Bool).getD (1*k+i) false
noncomputable def IL:List Str:=((["is_whole","common_divisor","is_fraction","fraction","less","times","is_below","number_text","fraction_text","is_number_text","read_number","read_fraction","crosswise","on_straight","is_piece","is_right_alone","is_right_first","is_right_behind","is_row","goes_on","lean","is_stair","how_many","beginning_of","height","coming","latest","staying","piece_text","stair_text"]:List Str)++(["read_piece","read_stair","_law_pot","_law_digit","_law_low","_law_less","_law_over","_law_ahead","_law_step","_law_going_on","_law_units","_law_bottom","_law_row","_law_is_whole","_law_is_moment","_law_is_right","_law_is_row","_law_is_lean","_law_lean","_law_moment_text","_law_text","_law_refused","_law_great","law"]:List Str))
noncomputable def CY:List Str:=["isinstance","bool","int","len","tuple","str","divmod","all","range","zip","abs","max","enumerate","min"]
noncomputable def glL:List (Str × PV):=[("FIGURES",i2),("BLOCK_FIGURES",br),("BLOCK",iG),("NOUGHT",dO),("NEVER_TEXT",dt)]
noncomputable def mkc (N:List Str)(s:Stmt)(k:Nat):Cfg:={ N:=N,names:=(aa s).names,fns:=IL,lim:=k,blts:=CY,gl:=glL }
local macro_rules | `(tactic| walk_at "SC")=>`(tactic| exact ⟨rfl,rfl,rfl,by decide +kernel,rfl,by decide +kernel,by decide +kernel⟩)
noncomputable abbrev jj:Stmt:=top 7
noncomputable def qk:Cfg:=mkc ["thing"] jj 0
theorem xD:ah qk.N ["thing"] (aa jj):=by walk_at "SC"
noncomputable def iz:Ss:=(.cons (.ret (.bop true (.cons (.inst (.var 0) "int") (.cons (.not (.inst (.var 0) "bool")) .nil)))) .nil)
theorem zv:ar qk  iz (af jj)=true:=by decide +kernel
noncomputable abbrev cV:Stmt:=top 8
noncomputable def iL:Cfg:=mkc ["n","d"] cV 1
theorem nu:ah iL.N ["n","d"] (aa cV):=by walk_at "SC"
noncomputable def dr:Ss:=(.cons (.whileS (.cmp .NotEq (.var 1) (.int 0)) (.cons (.par 0 1 (.var 1) (.bin .Mod (.var 0) (.var 1))) .nil)) (.cons (.ret (.var 0)) .nil))
theorem nU:ar iL  dr (af cV)=true:=by decide +kernel
noncomputable abbrev e_:Stmt:=top 9
noncomputable def kU:Cfg:=mkc ["thing","n","d"] e_ 2
theorem qf:ah kU.N ["thing"] (aa e_):=by walk_at "SC"
noncomputable def eO:Ss:=(.cons (.ifS (.bop false (.cons (.not (.inst (.var 0) "tuple")) (.cons (.cmp .NotEq (.blt .len (.cons (.var 0) .nil)) (.int 2)) .nil))) (.cons (.ret (.bl false)) .nil) .nil) (.cons (.set (.tup (.cons (.name 1) (.cons (.name 2) .nil))) (.var 0)) (.cons (.ifS (.bop false (.cons (.not (.call 0 (.cons (.var 1) .nil))) (.cons (.not (.call 0 (.cons (.var 2) .nil))) .nil))) (.cons (.ret (.bl false)) .nil) .nil) (.cons (.ret (.bop true (.cons (.cmp .GtE (.var 1) (.int 0)) (.cons (.cmp .GtE (.var 2) (.int 1)) (.cons (.cmp .Eq (.call 1 (.cons (.var 1) (.cons (.var 2) .nil))) (.int 1)) .nil))))) .nil))))
theorem sA:ar kU  eO (af e_)=true:=by decide +kernel
noncomputable abbrev jh:Stmt:=top 10
noncomputable def rW:Cfg:=mkc ["n","d","divisor"] jh 3
theorem xP:ah rW.N ["n","d"] (aa jh):=by walk_at "SC"
noncomputable def iB:Ss:=(.cons (.set (.name 2) (.call 1 (.cons (.var 0) (.cons (.var 1) .nil)))) (.cons (.ret (.tup (.cons (.bin .FloorDiv (.var 0) (.var 2)) (.cons (.bin .FloorDiv (.var 1) (.var 2)) .nil)))) .nil))
theorem zV:ar rW  iB (af jh)=true:=by decide +kernel
noncomputable abbrev vq:Stmt:=top 11
noncomputable def EX:Cfg:=mkc ["one","other"] vq 4
theorem GS:ah EX.N ["one","other"] (aa vq):=by walk_at "SC"
noncomputable def n5:Ss:=(.cons (.ret (.call 3 (.cons (.bin .Sub (.bin .Mult (.ix (.var 0) (.int 0)) (.ix (.var 1) (.int 1))) (.bin .Mult (.ix (.var 1) (.int 0)) (.ix (.var 0) (.int 1)))) (.cons (.bin .Mult (.ix (.var 0) (.int 1)) (.ix (.var 1) (.int 1))) .nil)))) .nil)
theorem LX:ar EX  n5 (af vq)=true:=by decide +kernel
noncomputable abbrev qe:Stmt:=top 12
noncomputable def Bv:Cfg:=mkc ["one","other"] qe 5
theorem Ej:ah Bv.N ["one","other"] (aa qe):=by walk_at "SC"
noncomputable def lu:Ss:=(.cons (.ret (.call 3 (.cons (.bin .Mult (.ix (.var 0) (.int 0)) (.ix (.var 1) (.int 0))) (.cons (.bin .Mult (.ix (.var 0) (.int 1)) (.ix (.var 1) (.int 1))) .nil)))) .nil)
theorem HL:ar Bv  lu (af qe)=true:=by decide +kernel
noncomputable abbrev jg:Stmt:=top 13
noncomputable def rA:Cfg:=mkc ["one","other"] jg 6
theorem yd:ah rA.N ["one","other"] (aa jg):=by walk_at "SC"
noncomputable def iE:Ss:=(.cons (.ret (.cmp .Lt (.bin .Mult (.ix (.var 0) (.int 0)) (.ix (.var 1) (.int 1))) (.bin .Mult (.ix (.var 1) (.int 0)) (.ix (.var 0) (.int 1))))) .nil)
theorem Au:ar rA  iE (af jg)=true:=by decide +kernel
noncomputable abbrev fg:Stmt:=top 14
noncomputable def k8:Cfg:=mkc ["number","blocks","rest"] fg 7
theorem qI:ah k8.N ["number"] (aa fg):=by walk_at "SC"
noncomputable def eS:Ss:=(.cons (.set (.name 1) (.lst .nil)) (.cons (.whileS (.cmp .GtE (.var 0) (.gv "BLOCK" iG)) (.cons (.set (.tup (.cons (.name 0) (.cons (.name 2) .nil))) (.blt .divmod (.cons (.var 0) (.cons (.gv "BLOCK" iG) .nil)))) (.cons (.expr (.met .append (.var 1) (.cons .bad .nil))) .nil))) (.cons (.expr (.met .append (.var 1) (.cons (.blt .str1 (.cons (.var 0) .nil)) .nil))) (.cons (.ret (.jrev (.var 1))) .nil))))
theorem sZ:ar k8  eS (af fg)=true:=by decide +kernel
noncomputable abbrev dz:Stmt:=top 15
noncomputable def jz:Cfg:=mkc ["moment","n","d"] dz 8
theorem nM:ah jz.N ["moment"] (aa dz):=by walk_at "SC"
noncomputable def dE:Ss:=(.cons (.set (.tup (.cons (.name 1) (.cons (.name 2) .nil))) (.var 0)) (.cons (.ifS (.cmp .Eq (.var 2) (.int 1)) (.cons (.ret (.call 7 (.cons (.var 1) .nil))) .nil) .nil) (.cons (.ret (.bin .Add (.bin .Add (.call 7 (.cons (.var 1) .nil)) (.str "/")) (.call 7 (.cons (.var 2) .nil)))) .nil)))
theorem pH:ar jz  dE (af dz)=true:=by decide +kernel
noncomputable abbrev c_:Stmt:=top 16
noncomputable def iN:Cfg:=mkc ["text"] c_ 9
theorem mP:ah iN.N ["text"] (aa c_):=by walk_at "SC"
noncomputable def dj:Ss:=(.cons (.ifS (.bop false (.cons (.cmp .Eq (.var 0) (.str "")) (.cons (.not (.tmp (.blt .all1 (.cons (.comp (.cmp .In (.var 0) (.gv "FIGURES" i2)) (.name 0) (.chars (.var 0)) .nil ["sign"] []) .nil)))) .nil))) (.cons (.ret (.bl false)) .nil) .nil) (.cons (.ret (.bop false (.cons (.cmp .Eq (.var 0) (.str "0")) (.cons (.cmp .NotEq (.ix (.var 0) (.int 0)) (.str "0")) .nil)))) .nil))
theorem nY:ar iN  dj (af c_)=true:=by decide +kernel
noncomputable abbrev fh:Stmt:=top 17
noncomputable def lh:Cfg:=mkc ["text","head","number","at"] fh 10
theorem qu:ah lh.N ["text"] (aa fh):=by walk_at "SC"
noncomputable def eW:XSs:=(.cons (.ifX (.not (.call 9 (.cons (.var 0) .nil))) (.cons (.raise 0) .nil) .nil) (.cons (.st (.set (.name 1) (.bin .Mod (.blt .len (.cons (.var 0) .nil)) (.gv "BLOCK_FIGURES" br)))) (.cons (.st (.set (.name 2) (.blt .int1 (.cons (.bin .Add (.str "0") (.sl (.var 0) .no (.yes (.var 1)))) .nil)))) (.cons (.st (.forS (.name 3) (.range3 (.var 1) (.blt .len (.cons (.var 0) .nil)) (.gv "BLOCK_FIGURES" br)) (.cons (.set (.name 2) (.bin .Add (.bin .Mult (.var 2) (.gv "BLOCK" iG)) (.tmp (.blt .int1 (.cons (.sl (.var 0) (.yes (.var 3)) (.yes (.bin .Add (.var 3) (.gv "BLOCK_FIGURES" br)))) .nil))))) .nil))) (.cons (.st (.ret (.var 2))) .nil)))))
theorem tm:jB lh FX eW (af fh)=true:=by decide +kernel
noncomputable abbrev du:Stmt:=top 18
noncomputable def jy:Cfg:=mkc ["text","above","slash","below","n","d"] du 11
theorem nJ:ah jy.N ["text"] (aa du):=by walk_at "SC"
noncomputable def dI:XSs:=(.cons (.ifX (.not (.inst (.var 0) "str")) (.cons (.raise 0) .nil) .nil) (.cons (.st (.set (.tup (.cons (.name 1) (.cons (.name 2) (.cons (.name 3) .nil)))) (.part (.var 0) "/"))) (.cons (.setX 4 10 (.cons (.var 1) .nil)) (.cons (.st (.ifS (.cmp .Eq (.var 2) (.str "")) (.cons (.ret (.tup (.cons (.var 4) (.cons (.int 1) .nil)))) .nil) .nil)) (.cons (.setX 5 10 (.cons (.var 3) .nil)) (.cons (.ifX (.bop false (.cons (.cmp .Lt (.var 5) (.int 2)) (.cons (.cmp .NotEq (.call 1 (.cons (.var 4) (.cons (.var 5) .nil))) (.int 1)) .nil))) (.cons (.raise 0) .nil) .nil) (.cons (.st (.ret (.tup (.cons (.var 4) (.cons (.var 5) .nil))))) .nil)))))))
theorem pF:jB jy FX dI (af du)=true:=by decide +kernel
noncomputable abbrev ib:Stmt:=top 20
noncomputable def oJ:Cfg:=mkc ["one","other"] ib 12
theorem vZ:ah oJ.N ["one","other"] (aa ib):=by walk_at "SC"
noncomputable def gI:Ss:=(.cons (.ret (.bin .Sub (.bin .Mult (.ix (.var 0) (.int 0)) (.ix (.var 1) (.int 1))) (.bin .Mult (.ix (.var 1) (.int 0)) (.ix (.var 0) (.int 1))))) .nil)
theorem w_:ar oJ  gI (af ib)=true:=by decide +kernel
noncomputable abbrev fi:Stmt:=top 21
noncomputable def kX:Cfg:=mkc ["near","far","x","near_x","near_y","far_x","far_y","done","left","above"] fi 13
theorem rg:ah kX.N ["near","far","x"] (aa fi):=by walk_at "SC"
noncomputable def eX:Ss:=(.cons (.set (.tup (.cons (.tup (.cons (.name 3) (.cons (.name 4) .nil))) (.cons (.tup (.cons (.name 5) (.cons (.name 6) .nil))) .nil))) (.tup (.cons (.var 0) (.cons (.var 1) .nil)))) (.cons (.set (.name 7) (.bin .Mult (.call 12 (.cons (.var 2) (.cons (.var 3) .nil))) (.ix (.var 5) (.int 1)))) (.cons (.set (.name 8) (.bin .Mult (.call 12 (.cons (.var 5) (.cons (.var 2) .nil))) (.ix (.var 3) (.int 1)))) (.cons (.set (.name 9) (.bin .Add (.bin .Mult (.bin .Mult (.ix (.var 4) (.int 0)) (.ix (.var 6) (.int 1))) (.var 8)) (.bin .Mult (.bin .Mult (.ix (.var 6) (.int 0)) (.ix (.var 4) (.int 1))) (.var 7)))) (.cons (.ret (.call 3 (.cons (.var 9) (.cons (.bin .Mult (.bin .Mult (.ix (.var 4) (.int 1)) (.ix (.var 6) (.int 1))) (.bin .Add (.var 8) (.var 7))) .nil)))) .nil)))))
theorem sV:ar kX  eX (af fi)=true:=by decide +kernel
noncomputable abbrev i_:Stmt:=top 24
noncomputable def rO:Cfg:=mkc ["thing"] i_ 14
theorem x_:ah rO.N ["thing"] (aa i_):=by walk_at "SC"
noncomputable def iq:Ss:=(.cons (.ret (.bop true (.cons (.inst (.var 0) "tuple") (.cons (.cmp .Eq (.blt .len (.cons (.var 0) .nil)) (.int 3)) (.cons (.tmp (.blt .all1 (.cons (.comp (.call 2 (.cons (.var 0) .nil)) (.name 0) (.seq (.var 0)) .nil ["part"] []) .nil))) .nil))))) .nil)
theorem zo:ar rO  iq (af i_)=true:=by decide +kernel
noncomputable abbrev cR:Stmt:=top 25
noncomputable def iO:Cfg:=mkc ["piece","end","low","high"] cR 15
theorem mS:ah iO.N ["piece"] (aa cR):=by walk_at "SC"
noncomputable def dq:Ss:=(.cons (.set (.tup (.cons (.name 1) (.cons (.name 2) (.cons (.name 3) .nil)))) (.var 0)) (.cons (.ret (.bop true (.cons (.not (.call 6 (.cons (.var 3) (.cons (.var 2) .nil)))) (.cons (.not (.call 6 (.cons (.var 3) (.cons (.var 1) .nil)))) .nil)))) .nil))
theorem n8:ar iO  dq (af cR)=true:=by decide +kernel
noncomputable abbrev cS:Stmt:=top 26
noncomputable def iR:Cfg:=mkc ["piece","end","low","high"] cS 16
theorem mf:ah iR.N ["piece"] (aa cS):=by walk_at "SC"
noncomputable def di:Ss:=(.cons (.set (.tup (.cons (.name 1) (.cons (.name 2) (.cons (.name 3) .nil)))) (.var 0)) (.cons (.ret (.bop false (.cons (.cmp .NotEq (.var 1) (.gv "NOUGHT" dO)) (.cons (.cmp .Eq (.var 2) (.var 3)) .nil)))) .nil))
theorem nF:ar iR  di (af cS)=true:=by decide +kernel
noncomputable abbrev cG:Stmt:=top 27
noncomputable def gW:Cfg:=mkc ["ahead","piece"] cG 17
theorem lz:ah gW.N ["ahead","piece"] (aa cG):=by walk_at "SC"
noncomputable def cO:Ss:=(.cons (.ret (.bop true (.cons (.call 6 (.cons (.ix (.var 0) (.int 0)) (.cons (.ix (.var 1) (.int 0)) .nil))) (.cons (.not (.call 6 (.cons (.ix (.var 1) (.int 1)) (.cons (.ix (.var 0) (.int 2)) .nil)))) .nil)))) .nil)
theorem l_:ar gW  cO (af cG)=true:=by decide +kernel
noncomputable abbrev mE:Stmt:=top 28
noncomputable def xE:Cfg:=mkc ["thing"] mE 18
theorem B_:ah xE.N ["thing"] (aa mE):=by walk_at "SC"
noncomputable def jV:Ss:=(.cons (.ifS (.bop false (.cons (.not (.inst (.var 0) "tuple")) (.cons (.not (.tmp (.blt .all1 (.cons (.comp (.call 14 (.cons (.var 0) .nil)) (.name 0) (.seq (.var 0)) .nil ["piece"] []) .nil)))) .nil))) (.cons (.ret (.bl false)) .nil) .nil) (.cons (.ifS (.not (.tmp (.blt .all1 (.cons (.comp (.call 15 (.cons (.var 0) .nil)) (.name 0) (.seq (.var 0)) .nil ["piece"] []) .nil)))) (.cons (.ret (.bl false)) .nil) .nil) (.cons (.ifS (.bop true (.cons (.cmp .NotEq (.var 0) (.tup .nil)) (.cons (.not (.call 16 (.cons (.ix (.var 0) (.int 0)) .nil))) .nil))) (.cons (.ret (.bl false)) .nil) .nil) (.cons (.ret (.tmp (.blt .all1 (.cons (.comp (.call 17 (.cons (.var 0) (.cons (.var 1) .nil))) (.tup (.cons (.name 0) (.cons (.name 1) .nil))) (.zip (.var 0) (.sl (.var 0) (.yes (.int 1)) .no)) .nil ["ahead","piece"] []) .nil)))) .nil))))
theorem Gw:ar xE  jV (af mE)=true:=by decide +kernel
noncomputable abbrev kF:Stmt:=top 29
noncomputable def tK:Cfg:=mkc ["beginning","ahead","piece","rise","width","next_rise","next_width"] kF 19
theorem zL:ah tK.N ["beginning","ahead","piece"] (aa kF):=by walk_at "SC"
noncomputable def i4:Ss:=(.cons (.ifS (.cmp .NotEq (.ix (.var 2) (.int 1)) (.ix (.var 1) (.int 2))) (.cons (.ret (.bl false)) .nil) .nil) (.cons (.par 3 4 (.call 4 (.cons (.ix (.var 1) (.int 2)) (.cons (.ix (.var 1) (.int 1)) .nil))) (.call 4 (.cons (.ix (.var 1) (.int 0)) (.cons (.var 0) .nil)))) (.cons (.par 5 6 (.call 4 (.cons (.ix (.var 2) (.int 2)) (.cons (.ix (.var 2) (.int 1)) .nil))) (.call 4 (.cons (.ix (.var 2) (.int 0)) (.cons (.ix (.var 1) (.int 0)) .nil)))) (.cons (.ret (.cmp .Eq (.call 5 (.cons (.var 3) (.cons (.var 6) .nil))) (.call 5 (.cons (.var 5) (.cons (.var 4) .nil))))) .nil))))
theorem Ci:ar tK  i4 (af kF)=true:=by decide +kernel
noncomputable abbrev vh:Stmt:=top 30
noncomputable def FK:Cfg:=mkc ["row","pieces","beginning","piece"] vh 20
theorem IF:ah FK.N ["row"] (aa vh):=by walk_at "SC"
noncomputable def ox:Ss:=(.cons (.set (.name 1) (.lst .nil)) (.cons (.set (.name 2) (.gv "NOUGHT" dO)) (.cons (.forS (.name 3) (.seq (.var 0)) (.cons (.ifS (.bop true (.cons (.cmp .NotEq (.var 1) (.lst .nil)) (.cons (.call 19 (.cons (.var 2) (.cons (.ix (.var 1) (.neg (.int 1))) (.cons (.var 3) .nil)))) .nil))) (.cons (.set (.sub (.var 1) (.neg (.int 1))) (.tup (.cons (.ix (.var 3) (.int 0)) (.cons (.ix (.ix (.var 1) (.neg (.int 1))) (.int 1)) (.cons (.ix (.var 3) (.int 2)) .nil))))) .nil) (.cons (.set (.name 2) (.ite (.cmp .Eq (.var 1) (.lst .nil)) (.gv "NOUGHT" dO) (.ix (.ix (.var 1) (.neg (.int 1))) (.int 0)))) (.cons (.expr (.met .append (.var 1) (.cons (.var 3) .nil))) .nil))) .nil)) (.cons (.ret (.blt .tuple1 (.cons (.var 1) .nil))) .nil))))
theorem Lw:ar FK  ox (af vh)=true:=by decide +kernel
noncomputable abbrev jm:Stmt:=top 31
noncomputable def qq:Cfg:=mkc ["thing"] jm 21
theorem xn:ah qq.N ["thing"] (aa jm):=by walk_at "SC"
noncomputable def ie:Ss:=(.cons (.ret (.bop true (.cons (.call 18 (.cons (.var 0) .nil)) (.cons (.cmp .Eq (.call 20 (.cons (.var 0) .nil)) (.var 0)) .nil)))) .nil)
theorem zq:ar qq  ie (af jm)=true:=by decide +kernel
noncomputable abbrev dC:Stmt:=top 32
theorem yr:ah ["stair","holds","fewest","most","middle"] ["stair","holds"] (aa dC):=by walk_at "SC"
noncomputable def lI:Cfg:={ N:=["stair","holds","fewest","most","middle"],names:=(aa dC).names,fns:=IL,lim:=22,blts:=CY,gl:=glL,pc:=true }
noncomputable def ij:Ss:=(.cons (.par 2 3 (.int 0) (.blt .len (.cons (.var 0) .nil))) (.cons (.whileS (.cmp .Lt (.var 2) (.var 3)) (.cons (.set (.name 4) (.bin .FloorDiv (.bin .Add (.var 2) (.var 3)) (.int 2))) (.cons (.ifS (.pcall 1 (.ix (.var 0) (.var 4))) (.cons (.set (.name 2) (.bin .Add (.var 4) (.int 1))) .nil) (.cons (.set (.name 3) (.var 4)) .nil)) .nil))) (.cons (.ret (.var 2)) .nil)))
theorem yV:ar lI  ij (af dC)=true:=by decide +kernel
noncomputable abbrev dX:Stmt:=top 33
noncomputable def j9:Cfg:=mkc ["stair","at"] dX 23
theorem pf:ah j9.N ["stair","at"] (aa dX):=by walk_at "SC"
noncomputable def dU:Ss:=(.cons (.ret (.ite (.cmp .Eq (.var 1) (.int 0)) (.gv "NOUGHT" dO) (.ix (.ix (.var 0) (.bin .Sub (.var 1) (.int 1))) (.int 0)))) .nil)
theorem qX:ar j9  dU (af dX)=true:=by decide +kernel
noncomputable abbrev mK:Stmt:=top 34
noncomputable def xN:Cfg:=mkc ["stair","at","t","end","low","high"] mK 24
theorem CJ:ah xN.N ["stair","at","t"] (aa mK):=by walk_at "SC"
noncomputable def jN:Ss:=(.cons (.set (.tup (.cons (.name 3) (.cons (.name 4) (.cons (.name 5) .nil)))) (.ix (.var 0) (.var 1))) (.cons (.ifS (.cmp .Eq (.var 2) (.var 3)) (.cons (.ret (.var 5)) .nil) .nil) (.cons (.ret (.call 13 (.cons (.tup (.cons (.call 23 (.cons (.var 0) (.cons (.var 1) .nil))) (.cons (.var 4) .nil))) (.cons (.tup (.cons (.var 3) (.cons (.var 5) .nil))) (.cons (.var 2) .nil))))) .nil)))
theorem EL:ar xN  jN (af mK)=true:=by decide +kernel
noncomputable abbrev cN:Stmt:=top 35
theorem B6:ah ["stair","t","at"] ["stair","t"] (aa cN):=by walk_at "SC"
noncomputable def r_:Cfg:={ N:=["stair","t","at"],names:=(aa cN).names,fns:=IL,lim:=25,blts:=CY,gl:=glL,hm:=some 21 }
noncomputable def jF:Ss:=(.cons (.set (.name 2) (.hm (.var 0) (.call 6 (.cons (.ix (.var 0) (.int 0)) (.cons (.var 1) .nil))) [1])) (.cons (.ret (.ite (.cmp .Eq (.var 2) (.blt .len (.cons (.var 0) .nil))) .non (.call 24 (.cons (.var 0) (.cons (.var 2) (.cons (.var 1) .nil)))))) .nil))
theorem Dl:ar r_  jF (af cN)=true:=by decide +kernel
noncomputable abbrev cP:Stmt:=top 36
theorem B3:ah ["stair","y","at","end","low","high"] ["stair","y"] (aa cP):=by walk_at "SC"
noncomputable def qj:Cfg:={ N:=["stair","y","at","end","low","high"],names:=(aa cP).names,fns:=IL,lim:=26,blts:=CY,gl:=glL,hm:=some 21 }
noncomputable def jW:Ss:=(.cons (.set (.name 2) (.bin .Sub (.hm (.var 0) (.not (.call 6 (.cons (.var 1) (.cons (.ix (.var 0) (.int 1)) .nil)))) [1]) (.int 1))) (.cons (.ifS (.cmp .Lt (.var 2) (.int 0)) (.cons (.ret .non) .nil) .nil) (.cons (.set (.tup (.cons (.name 3) (.cons (.name 4) (.cons (.name 5) .nil)))) (.ix (.var 0) (.var 2))) (.cons (.ifS (.not (.call 6 (.cons (.var 1) (.cons (.var 5) .nil)))) (.cons (.ret (.var 3)) .nil) .nil) (.cons (.ret (.call 13 (.cons (.tup (.cons (.var 4) (.cons (.call 23 (.cons (.var 0) (.cons (.var 2) .nil))) .nil))) (.cons (.tup (.cons (.var 5) (.cons (.var 3) .nil))) (.cons (.var 1) .nil))))) .nil)))))
theorem DS:ar qj  jW (af cP)=true:=by decide +kernel
noncomputable abbrev kC:Stmt:=top 37
noncomputable def tS:Cfg:=mkc ["end"] kC 27
theorem zC:ah tS.N ["end"] (aa kC):=by walk_at "SC"
noncomputable def i5:Ss:=(.cons (.ret (.tup (.cons (.tup (.cons (.var 0) (.cons (.gv "NOUGHT" dO) (.cons (.var 0) .nil)))) .nil))) .nil)
theorem CW:ar tS  i5 (af kC)=true:=by decide +kernel
noncomputable abbrev fZ:Stmt:=top 40
noncomputable def mz:Cfg:=mkc ["piece"] fZ 28
theorem sS:ah mz.N ["piece"] (aa fZ):=by walk_at "SC"
noncomputable def fM:Ss:=(.cons (.ret (.tmp (.smx .join (.str " ") (.comp (.call 8 (.cons (.var 0) .nil)) (.name 0) (.seq (.var 0)) .nil ["part"] [])))) .nil)
theorem vk:ar mz  fM (af fZ)=true:=by decide +kernel
noncomputable abbrev fW:Stmt:=top 41
noncomputable def l7:Cfg:=mkc ["stair"] fW 29
theorem sH:ah l7.N ["stair"] (aa fW):=by walk_at "SC"
noncomputable def fD:Ss:=(.cons (.ifS (.cmp .Eq (.var 0) (.tup .nil)) (.cons (.ret (.gv "NEVER_TEXT" dt)) .nil) .nil) (.cons (.ret (.tmp (.smx .join (.str "; ") (.comp (.call 28 (.cons (.var 0) .nil)) (.name 0) (.seq (.var 0)) .nil ["piece"] [])))) .nil))
theorem uZ:ar l7  fD (af fW)=true:=by decide +kernel
noncomputable abbrev fV:Stmt:=top 42
noncomputable def nq:Cfg:=mkc ["text"] fV 30
theorem sx:ah nq.N ["text"] (aa fV):=by walk_at "SC"
noncomputable def fG:XSs:=(.cons (.retC 11 (.seq (.smx .split (.var 0) (.str " "))) "part") .nil)
theorem u7:jB nq FX fG (af fV)=true:=by decide +kernel
noncomputable abbrev gi:Stmt:=top 43
noncomputable def mI:Cfg:=mkc ["text","stair"] gi 31
theorem tF:ah mI.N ["text"] (aa gi):=by walk_at "SC"
noncomputable def fA:XSs:=(.cons (.ifX (.not (.inst (.var 0) "str")) (.cons (.raise 0) .nil) .nil) (.cons (.st (.ifS (.cmp .Eq (.var 0) (.gv "NEVER_TEXT" dt)) (.cons (.ret (.tup .nil)) .nil) .nil)) (.cons (.setC 1 30 (.seq (.smx .split (.var 0) (.str "; "))) "part") (.cons (.ifX (.not (.call 21 (.cons (.var 1) .nil))) (.cons (.raise 0) .nil) .nil) (.cons (.st (.ret (.var 1))) .nil)))))
theorem v7:jB mI FX fA (af gi)=true:=by decide +kernel
noncomputable abbrev jr:Stmt:=top 45
noncomputable def rE:Cfg:=mkc ["_law_script","_law_k","_law_cells","_law_state","_law_cell","_law_own"] jr 32
theorem xW:ah rE.N ["_law_script","_law_k"] (aa jr):=by walk_at "SC"
noncomputable def ip:Ss:=(.cons (.set (.name 2) (.comp (.blt .abs1 (.cons (.var 0) .nil)) (.name 0) (.seq (.sl (.var 0) .no (.yes (.int 63)))) .nil ["_law_cell"] [])) (.cons (.set (.name 3) (.bin .Add (.int 11) (.bin .Mult (.int 7) (.var 1)))) (.cons (.forS (.name 4) (.seq (.var 2)) (.cons (.set (.name 3) (.bin .Mod (.bin .Add (.bin .Add (.bin .Mult (.var 3) (.int 48271)) (.bin .Mod (.var 4) (.int 2147483629))) (.int 1)) (.int 2147483629))) .nil)) (.cons (.set (.name 5) (.ix (.bin .Add (.var 2) (.bin .Mult (.lst (.cons (.int 0) .nil)) (.int 9))) (.var 1))) (.cons (.ret (.lst (.cons (.bin .Mult (.var 5) (.blt .int1 (.cons (.cmp .GtE (.var 5) (.bin .Pow (.int 10) (.int 18))) .nil))) (.cons (.var 3) .nil)))) .nil)))))
theorem yU:ar rE  ip (af jr)=true:=by decide +kernel
noncomputable abbrev f7:Stmt:=top 46
noncomputable def mR:Cfg:=mkc ["_law_pot_here","_law_many","_law_digit_here"] f7 33
theorem tD:ah mR.N ["_law_pot_here","_law_many"] (aa f7):=by walk_at "SC"
noncomputable def fJ:Ss:=(.cons (.ifS (.cmp .Gt (.ix (.var 0) (.int 0)) (.int 0)) (.cons (.set (.tup (.cons (.sub (.var 0) (.int 0)) (.cons (.name 2) .nil))) (.blt .divmod (.cons (.ix (.var 0) (.int 0)) (.cons (.var 1) .nil)))) (.cons (.ret (.var 2)) .nil)) .nil) (.cons (.set (.sub (.var 0) (.int 1)) (.bin .Mod (.bin .Add (.bin .Mult (.ix (.var 0) (.int 1)) (.int 48271)) (.int 4099)) (.int 2147483629))) (.cons (.ret (.bin .Mod (.bin .FloorDiv (.bin .Mult (.ix (.var 0) (.int 1)) (.ix (.var 0) (.int 1))) (.int 13)) (.var 1))) .nil)))
theorem uR:ar mR  fJ (af f7)=true:=by decide +kernel
noncomputable abbrev jo:Stmt:=top 47
noncomputable def rY:Cfg:=mkc ["_law_top","_law_bottom_here","_law_one","_law_other"] jo 34
theorem xC:ah rY.N ["_law_top","_law_bottom_here"] (aa jo):=by walk_at "SC"
noncomputable def iw:Ss:=(.cons (.par 2 3 (.var 0) (.var 1)) (.cons (.whileS (.cmp .Gt (.var 3) (.int 0)) (.cons (.par 2 3 (.var 3) (.bin .Mod (.var 2) (.var 3))) .nil)) (.cons (.ret (.tup (.cons (.bin .FloorDiv (.var 0) (.var 2)) (.cons (.bin .FloorDiv (.var 1) (.var 2)) .nil)))) .nil)))
theorem zr:ar rY  iw (af jo)=true:=by decide +kernel
noncomputable abbrev gR:Stmt:=top 49
noncomputable def oR:Cfg:=mkc ["_law_one","_law_other"] gR 35
theorem vJ:ah oR.N ["_law_one","_law_other"] (aa gR):=by walk_at "SC"
noncomputable def gA:Ss:=(.cons (.ret (.call 34 (.cons (.bin .Sub (.bin .Mult (.ix (.var 0) (.int 0)) (.ix (.var 1) (.int 1))) (.bin .Mult (.ix (.var 1) (.int 0)) (.ix (.var 0) (.int 1)))) (.cons (.bin .Mult (.ix (.var 0) (.int 1)) (.ix (.var 1) (.int 1))) .nil)))) .nil)
theorem yI:ar oR  gA (af gR)=true:=by decide +kernel
noncomputable abbrev h_:Stmt:=top 51
noncomputable def oY:Cfg:=mkc ["_law_one","_law_other"] h_ 36
theorem vg:ah oY.N ["_law_one","_law_other"] (aa h_):=by walk_at "SC"
noncomputable def gC:Ss:=(.cons (.ret (.call 34 (.cons (.bin .Mult (.ix (.var 0) (.int 0)) (.ix (.var 1) (.int 1))) (.cons (.bin .Mult (.ix (.var 0) (.int 1)) (.ix (.var 1) (.int 0))) .nil)))) .nil)
theorem wK:ar oY  gC (af h_)=true:=by decide +kernel
noncomputable abbrev fU:Stmt:=top 52
noncomputable def mq:Cfg:=mkc ["_law_one","_law_other"] fU 37
theorem tE:ah mq.N ["_law_one","_law_other"] (aa fU):=by walk_at "SC"
noncomputable def fH:Ss:=(.cons (.ret (.cmp .Lt (.bin .Mult (.ix (.var 0) (.int 0)) (.ix (.var 1) (.int 1))) (.bin .Mult (.ix (.var 1) (.int 0)) (.ix (.var 0) (.int 1))))) .nil)
theorem vV:ar mq  fH (af fU)=true:=by decide +kernel
noncomputable abbrev ic:Stmt:=top 53
noncomputable def oN:Cfg:=mkc ["_law_pot_here","_law_row_here","_law_far","_law_begin","_law_low_here","_law_high","_law_way","_law_step_here","_law_end"] ic 38
theorem vt:ah oN.N ["_law_pot_here","_law_row_here","_law_far"] (aa ic):=by walk_at "SC"
noncomputable def gM:Ss:=(.cons (.set (.tup (.cons (.name 3) (.cons (.name 4) (.cons (.name 5) .nil)))) (.ix (.bin .Add (.lst (.cons (.tup (.cons (.int 0) (.cons (.int 0) (.cons (.int 0) .nil)))) .nil)) (.var 1)) (.neg (.int 1)))) (.cons (.set (.name 6) (.call 33 (.cons (.var 0) (.cons (.int 6) .nil)))) (.cons (.set (.name 7) (.bin .Add (.int 1) (.call 33 (.cons (.var 0) (.cons (.var 2) .nil))))) (.cons (.ifS (.bop true (.cons (.cmp .Eq (.var 1) (.lst .nil)) (.cons (.cmp .Eq (.var 6) (.int 0)) .nil))) (.cons (.ret (.tup (.cons (.int 0) (.cons (.bin .Sub (.var 7) (.int 1)) (.cons (.bin .Sub (.var 7) (.int 1)) .nil))))) .nil) .nil) (.cons (.set (.name 4) (.bin .Add (.var 5) (.bin .Mult (.call 33 (.cons (.var 0) (.cons (.var 2) .nil))) (.blt .int1 (.cons (.cmp .Lt (.var 6) (.int 3)) .nil))))) (.cons (.set (.name 8) (.bin .Add (.var 3) (.var 7))) (.cons (.ret (.tup (.cons (.var 8) (.cons (.var 4) (.cons (.bin .Add (.blt .max2 (.cons (.var 4) (.cons (.var 8) .nil))) (.bin .Mult (.call 33 (.cons (.var 0) (.cons (.var 2) .nil))) (.blt .int1 (.cons (.cmp .NotEq (.var 6) (.int 2)) .nil)))) .nil))))) .nil)))))))
theorem wu:ar oN  gM (af ic)=true:=by decide +kernel
noncomputable abbrev dw:Stmt:=top 54
noncomputable def jx:Cfg:=mkc ["_law_pot_here","_law_row_here","_law_begin","_law_end","_law_low_here","_law_high","_law_many"] dw 39
theorem nZ:ah jx.N ["_law_pot_here","_law_row_here"] (aa dw):=by walk_at "SC"
noncomputable def dA:Ss:=(.cons (.set (.name 2) (.ix (.ix (.bin .Add (.lst (.cons (.tup (.cons (.int 0) (.cons (.int 0) (.cons (.int 0) .nil)))) .nil)) (.sl (.var 1) .no (.yes (.neg (.int 1))))) (.neg (.int 1))) (.int 0))) (.cons (.set (.tup (.cons (.name 3) (.cons (.name 4) (.cons (.name 5) .nil)))) (.ix (.var 1) (.neg (.int 1)))) (.cons (.set (.name 6) (.bin .Add (.int 1) (.call 33 (.cons (.var 0) (.cons (.int 3) .nil))))) (.cons (.ifS (.cmp .Eq (.var 3) (.var 2)) (.cons (.ret (.tup (.cons (.bin .Add (.var 3) (.var 6)) (.cons (.var 5) (.cons (.bin .Add (.var 5) (.var 6)) .nil))))) .nil) .nil) (.cons (.ret (.tup (.cons (.bin .Add (.var 3) (.bin .Mult (.var 6) (.bin .Sub (.var 3) (.var 2)))) (.cons (.var 5) (.cons (.bin .Add (.var 5) (.bin .Mult (.var 6) (.bin .Sub (.var 5) (.var 4)))) .nil))))) .nil)))))
theorem pL:ar jx  dA (af dw)=true:=by decide +kernel
noncomputable abbrev fT:Stmt:=top 55
noncomputable def mY:Cfg:=mkc ["_law_pot_here","_law_most","_law_far","_law_row_here","_law_k","_law_piece"] fT 40
theorem td:ah mY.N ["_law_pot_here","_law_most"] (aa fT):=by walk_at "SC"
noncomputable def fN:Ss:=(.cons (.set (.name 2) (.tmp (.ix (.lst (.cons (.int 4) (.cons (.int 4) (.cons (.int 30) (.cons (.bin .Pow (.int 10) (.int 8)) .nil))))) (.call 33 (.cons (.var 0) (.cons (.int 4) .nil)))))) (.cons (.set (.name 3) (.lst .nil)) (.cons (.forS (.name 4) (.range1 (.call 33 (.cons (.var 0) (.cons (.bin .Add (.var 1) (.int 1)) .nil)))) (.cons (.set (.name 5) (.call 38 (.cons (.var 0) (.cons (.var 3) (.cons (.var 2) .nil))))) (.cons (.ifS (.bop true (.cons (.cmp .NotEq (.var 3) (.lst .nil)) (.cons (.cmp .Eq (.call 33 (.cons (.var 0) (.cons (.int 4) .nil))) (.int 0)) (.cons (.cmp .Lt (.ix (.ix (.var 3) (.neg (.int 1))) (.int 0)) (.bin .Pow (.int 10) (.int 9))) (.cons (.cmp .Lt (.ix (.ix (.var 3) (.neg (.int 1))) (.int 2)) (.bin .Pow (.int 10) (.int 9))) .nil))))) (.cons (.set (.name 5) (.call 39 (.cons (.var 0) (.cons (.var 3) .nil)))) .nil) .nil) (.cons (.ifS (.cmp .GtE (.ix (.var 5) (.int 2)) (.ix (.var 5) (.int 0))) (.cons (.expr (.met .append (.var 3) (.cons (.var 5) .nil))) .nil) .nil) .nil)))) (.cons (.ret (.var 3)) .nil))))
theorem vS:ar mY  fN (af fT)=true:=by decide +kernel
noncomputable abbrev ff:Stmt:=top 56
noncomputable def k9:Cfg:=mkc ["_law_pot_here"] ff 41
theorem q8:ah k9.N ["_law_pot_here"] (aa ff):=by walk_at "SC"
noncomputable def eU:Ss:=(.cons (.ret (.tmp (.ix (.lst (.cons (.int 1) (.cons (.bin .Add (.int 1) (.call 33 (.cons (.var 0) (.cons (.int 12) .nil)))) (.cons (.bin .Add (.int 1) (.call 33 (.cons (.var 0) (.cons (.bin .Sub (.bin .Pow (.int 10) (.int 12)) (.int 1)) .nil)))) .nil)))) (.call 33 (.cons (.var 0) (.cons (.int 3) .nil)))))) .nil)
theorem tG:ar k9  eU (af ff)=true:=by decide +kernel
noncomputable abbrev jd:Stmt:=top 57
noncomputable def qA:Cfg:=mkc ["_law_units_here","_law_bottom_here"] jd 42
theorem wW:ah qA.N ["_law_units_here","_law_bottom_here"] (aa jd):=by walk_at "SC"
noncomputable def iy:Ss:=(.cons (.ret (.tmp (.blt .tuple1 (.cons (.comp (.tmp (.blt .tuple1 (.cons (.comp (.call 34 (.cons (.var 0) (.cons (.var 1) .nil))) (.name 0) (.seq (.var 0)) .nil ["_law_one"] [1]) .nil))) (.name 0) (.seq (.var 0)) .nil ["_law_piece"] [1]) .nil)))) .nil)
theorem Ae:ar qA  iy (af jd)=true:=by decide +kernel
noncomputable abbrev dy:Stmt:=top 58
noncomputable def ju:Cfg:=mkc ["_law_thing"] dy 43
theorem og:ah ju.N ["_law_thing"] (aa dy):=by walk_at "SC"
noncomputable def dB:Ss:=(.cons (.ret (.bop true (.cons (.inst (.var 0) "int") (.cons (.not (.inst (.var 0) "bool")) .nil)))) .nil)
theorem pd:ar ju  dB (af dy)=true:=by decide +kernel
noncomputable abbrev cY:Stmt:=top 59
noncomputable def iI:Cfg:=mkc ["_law_thing"] cY 44
theorem mx:ah iI.N ["_law_thing"] (aa cY):=by walk_at "SC"
noncomputable def dh:Ss:=(.cons (.ifS (.bop false (.cons (.not (.inst (.var 0) "tuple")) (.cons (.cmp .NotEq (.blt .len (.cons (.var 0) .nil)) (.int 2)) (.cons (.not (.call 43 (.cons (.ix (.var 0) (.int 0)) .nil))) (.cons (.not (.call 43 (.cons (.ix (.var 0) (.int 1)) .nil))) .nil))))) (.cons (.ret (.bl false)) .nil) .nil) (.cons (.ret (.bop true (.cons (.cmp .GtE (.ix (.var 0) (.int 0)) (.int 0)) (.cons (.cmp .Gt (.ix (.var 0) (.int 1)) (.int 0)) (.cons (.cmp .Eq (.call 34 (.cons (.ix (.var 0) (.int 0)) (.cons (.ix (.var 0) (.int 1)) .nil))) (.var 0)) .nil))))) .nil))
theorem oq:ar iI  dh (af cY)=true:=by decide +kernel
noncomputable abbrev dv:Stmt:=top 60
noncomputable def jA:Cfg:=mkc ["_law_row_here","_law_begin","_law_ahead_here","_law_k","_law_end","_law_low_here","_law_high"] dv 45
theorem nI:ah jA.N ["_law_row_here"] (aa dv):=by walk_at "SC"
noncomputable def dF:Ss:=(.cons (.set (.name 1) (.tup (.cons (.int 0) (.cons (.int 1) .nil)))) (.cons (.set (.name 2) (.tup (.cons (.int 0) (.cons (.int 1) .nil)))) (.cons (.forS (.tup (.cons (.name 3) (.cons (.tup (.cons (.name 4) (.cons (.name 5) (.cons (.name 6) .nil)))) .nil))) (.enum (.var 0)) (.cons (.ifS (.bop false (.cons (.call 37 (.cons (.var 6) (.cons (.var 5) .nil))) (.cons (.call 37 (.cons (.var 5) (.cons (.var 2) .nil))) (.cons (.call 37 (.cons (.var 5) (.cons (.var 1) .nil))) (.cons (.call 37 (.cons (.var 6) (.cons (.var 4) .nil))) .nil))))) (.cons (.ret (.bl false)) .nil) .nil) (.cons (.ifS (.bop true (.cons (.not (.call 37 (.cons (.var 1) (.cons (.var 4) .nil)))) (.cons (.bop false (.cons (.cmp .Gt (.var 3) (.int 0)) (.cons (.call 37 (.cons (.var 4) (.cons (.var 1) .nil))) (.cons (.cmp .NotEq (.var 5) (.var 6)) .nil)))) .nil))) (.cons (.ret (.bl false)) .nil) .nil) (.cons (.set (.name 1) (.var 4)) (.cons (.set (.name 2) (.var 6)) .nil))))) (.cons (.ret (.bl true)) .nil))))
theorem pC:ar jA  dF (af dv)=true:=by decide +kernel
noncomputable abbrev fe:Stmt:=top 61
noncomputable def kY:Cfg:=mkc ["_law_thing","_law_piece"] fe 46
theorem qV:ah kY.N ["_law_thing"] (aa fe):=by walk_at "SC"
noncomputable def eZ:Ss:=(.cons (.ifS (.not (.inst (.var 0) "tuple")) (.cons (.ret (.bl false)) .nil) .nil) (.cons (.forS (.name 1) (.seq (.var 0)) (.cons (.ifS (.bop false (.cons (.not (.inst (.var 1) "tuple")) (.cons (.cmp .NotEq (.blt .len (.cons (.var 1) .nil)) (.int 3)) (.cons (.not (.tmp (.blt .all1 (.cons (.comp (.call 44 (.cons (.var 0) .nil)) (.name 0) (.seq (.var 1)) .nil ["_law_one"] []) .nil)))) .nil)))) (.cons (.ret (.bl false)) .nil) .nil) .nil)) (.cons (.ret (.call 45 (.cons (.var 0) .nil))) .nil)))
theorem sN:ar kY  eZ (af fe)=true:=by decide +kernel
noncomputable abbrev ee:Stmt:=top 62
noncomputable def ka:Cfg:=mkc ["_law_row_here","_law_begins","_law_k","_law_rises","_law_one","_law_rise"] ee 47
theorem pO:ah ka.N ["_law_row_here"] (aa ee):=by walk_at "SC"
noncomputable def dY:Ss:=(.cons (.set (.name 1) (.bin .Add (.lst (.cons (.tup (.cons (.int 0) (.cons (.int 1) .nil))) .nil)) (.comp (.ix (.var 0) (.int 0)) (.name 0) (.seq (.var 0)) .nil ["_law_piece"] []))) (.cons (.forS (.name 2) (.range2 (.int 1) (.blt .len (.cons (.var 0) .nil))) (.cons (.ifS (.cmp .Eq (.ix (.ix (.var 0) (.var 2)) (.int 1)) (.ix (.ix (.var 0) (.bin .Sub (.var 2) (.int 1))) (.int 2))) (.cons (.ifS (.cmp .Eq (.ix (.ix (.var 0) (.bin .Sub (.var 2) (.int 1))) (.int 0)) (.ix (.var 1) (.bin .Sub (.var 2) (.int 1)))) (.cons (.ret (.bl false)) .nil) .nil) (.cons (.set (.name 3) (.lst .nil)) (.cons (.forS (.name 4) (.seq (.tup (.cons (.bin .Sub (.var 2) (.int 1)) (.cons (.var 2) .nil)))) (.cons (.set (.name 5) (.call 35 (.cons (.ix (.ix (.var 0) (.var 4)) (.int 2)) (.cons (.ix (.ix (.var 0) (.var 4)) (.int 1)) .nil)))) (.cons (.expr (.met .append (.var 3) (.cons (.call 36 (.cons (.var 5) (.cons (.call 35 (.cons (.ix (.ix (.var 0) (.var 4)) (.int 0)) (.cons (.ix (.var 1) (.var 4)) .nil))) .nil))) .nil))) .nil))) (.cons (.ifS (.cmp .Eq (.ix (.var 3) (.int 0)) (.ix (.var 3) (.int 1))) (.cons (.ret (.bl false)) .nil) .nil) .nil)))) .nil) .nil)) (.cons (.ret (.bl true)) .nil)))
theorem si:ar ka  dY (af ee)=true:=by decide +kernel
noncomputable abbrev gU:Stmt:=top 63
noncomputable def oW:Cfg:=mkc ["_law_row_here","_law_found","_law_piece","_law_end","_law_low_here","_law_high"] gU 48
theorem v9:ah oW.N ["_law_row_here"] (aa gU):=by walk_at "SC"
noncomputable def gG:Ss:=(.cons (.set (.name 1) (.lst .nil)) (.cons (.forS (.name 2) (.seq (.var 0)) (.cons (.expr (.met .append (.var 1) (.cons (.var 2) .nil))) (.cons (.ifS (.not (.call 47 (.cons (.blt .tuple1 (.cons (.var 1) .nil)) .nil))) (.cons (.set (.tup (.cons (.name 3) (.cons (.name 4) (.cons (.name 5) .nil)))) (.met .pop0 (.var 1) .nil)) (.cons (.expr (.met .append (.var 1) (.cons (.tup (.cons (.var 3) (.cons (.ix (.met .pop0 (.var 1) .nil) (.int 1)) (.cons (.var 5) .nil)))) .nil))) .nil)) .nil) .nil))) (.cons (.ret (.blt .tuple1 (.cons (.var 1) .nil))) .nil)))
theorem wV:ar oW  gG (af gU)=true:=by decide +kernel
noncomputable abbrev b9:Stmt:=top 64
noncomputable def gz:Cfg:=mkc ["_law_moment"] b9 49
theorem kP:ah gz.N ["_law_moment"] (aa b9):=by walk_at "SC"
noncomputable def cF:Ss:=(.cons (.ret (.tmp (.ix (.lst (.cons (.bin .Add (.bin .Add (.blt .str1 (.cons (.ix (.var 0) (.int 0)) .nil)) (.str "/")) (.blt .str1 (.cons (.ix (.var 0) (.int 1)) .nil))) (.cons (.blt .str1 (.cons (.ix (.var 0) (.int 0)) .nil)) .nil))) (.blt .int1 (.cons (.cmp .Eq (.ix (.var 0) (.int 1)) (.int 1)) .nil))))) .nil)
theorem lK:ar gz  cF (af b9)=true:=by decide +kernel
noncomputable abbrev gT:Stmt:=top 65
noncomputable def oK:Cfg:=mkc ["_law_row_here"] gT 50
theorem vW:ah oK.N ["_law_row_here"] (aa gT):=by walk_at "SC"
noncomputable def gK:Ss:=(.cons (.ifS (.cmp .Eq (.var 0) (.tup .nil)) (.cons (.ret (.str "never")) .nil) .nil) (.cons (.ret (.tmp (.smx .join (.str "; ") (.comp (.tmp (.smx .join (.str " ") (.comp (.call 49 (.cons (.var 0) .nil)) (.name 0) (.seq (.var 0)) .nil ["_law_one"] []))) (.name 0) (.seq (.var 0)) .nil ["_law_piece"] [])))) .nil))
theorem wO:ar oK  gK (af gT)=true:=by decide +kernel
noncomputable abbrev ei:Stmt:=top 66
noncomputable def jY:Cfg:=mkc ["_law_text_here","_law_good"] ei 51
theorem o_:ah jY.N ["_law_text_here"] (aa ei):=by walk_at "SC"
noncomputable def dW:TSs:=(.st (.set (.name 1) (.bl false)) (.trE 31 (.cons (.var 0) .nil) 1 true (.st (.ret (.var 1)) .nil)))
theorem rK:mB jY FX ysL dW (af ei)=true:=by decide +kernel
noncomputable abbrev f_:Stmt:=top 67
noncomputable def mM:Cfg:=mkc ["_law_pot_here","_law_stair","_law_end","_law_bottom_here","_law_great_here","_law_stayed","_law_text_here"] f_ 52
theorem sL:ah mM.N ["_law_pot_here","_law_stair"] (aa f_):=by walk_at "SC"
noncomputable def fK:Ss:=(.cons (.set (.name 2) (.ix (.ix (.var 1) (.neg (.int 1))) (.int 0))) (.cons (.set (.name 3) (.call 41 (.cons (.var 0) .nil))) (.cons (.set (.name 4) (.call 25 (.cons (.var 1) (.cons (.call 34 (.cons (.call 33 (.cons (.var 0) (.cons (.bin .Add (.int 1) (.blt .min2 (.cons (.bin .Sub (.bin .Pow (.int 10) (.int 12)) (.int 1)) (.cons (.bin .FloorDiv (.bin .Mult (.ix (.var 2) (.int 0)) (.var 3)) (.ix (.var 2) (.int 1))) .nil)))) .nil))) (.cons (.var 3) .nil))) .nil)))) (.cons (.set (.name 5) (.call 27 (.cons (.var 4) .nil))) (.cons (.set (.name 6) (.tmp (.smx .join (.str " ") (.comp (.call 49 (.cons (.var 0) .nil)) (.name 0) (.seq (.ix (.var 5) (.int 0))) .nil ["_law_one"] [])))) (.cons (.ifS (.bop false (.cons (.not (.call 44 (.cons (.var 4) .nil))) (.cons (.cmp .IsNot (.call 21 (.cons (.var 5) .nil)) (.bl true)) (.cons (.cmp .NotEq (.call 29 (.cons (.var 5) .nil)) (.var 6)) .nil)))) (.cons (.ret (.bl false)) .nil) .nil) (.cons (.ret (.bop true (.cons (.cmp .Eq (.call 31 (.cons (.var 6) .nil)) (.var 5)) (.cons (.cmp .Eq (.call 26 (.cons (.var 5) (.cons (.var 4) .nil))) (.var 4)) (.cons (.cmp .Eq (.call 25 (.cons (.var 5) (.cons (.var 4) .nil))) (.var 4)) .nil))))) .nil)))))))
theorem uQ:ar mM  fK (af f_)=true:=by decide +kernel
noncomputable abbrev oU:Stmt:=top 68
noncomputable def Km:Cfg:=mkc ["_law_script","_law_k","_law_pot_here","_law_row_here","_law_stair","_law_text_here","_law_found"] oU 53
theorem LG:ah Km.N ["_law_script"] (aa oU):=by walk_at "SC"
noncomputable def rJ:Ss:=(.cons (.forS (.name 1) (.range1 (.blt .max2 (.cons (.int 1) (.cons (.blt .min2 (.cons (.blt .len (.cons (.var 0) .nil)) (.cons (.int 6) .nil))) .nil)))) (.cons (.set (.name 2) (.call 32 (.cons (.var 0) (.cons (.var 1) .nil)))) (.cons (.set (.name 3) (.call 42 (.cons (.call 40 (.cons (.var 2) (.cons (.int 40) .nil))) (.cons (.call 41 (.cons (.var 2) .nil)) .nil)))) (.cons (.set (.name 4) (.call 48 (.cons (.var 3) .nil))) (.cons (.set (.name 5) (.call 29 (.cons (.var 4) .nil))) (.cons (.ifS (.bop false (.cons (.not (.inst (.var 5) "str")) (.cons (.cmp .NotEq (.var 5) (.call 50 (.cons (.var 4) .nil))) .nil))) (.cons (.ret (.bl false)) .nil) .nil) (.cons (.set (.name 6) (.call 31 (.cons (.call 50 (.cons (.var 4) .nil)) .nil))) (.cons (.ifS (.bop false (.cons (.not (.call 46 (.cons (.var 6) .nil))) (.cons (.cmp .NotEq (.var 6) (.var 4)) .nil))) (.cons (.ret (.bl false)) .nil) .nil) (.cons (.ifS (.bop true (.cons (.cmp .NotEq (.var 3) (.var 4)) (.cons (.not (.call 51 (.cons (.call 50 (.cons (.var 3) .nil)) .nil))) .nil))) (.cons (.ret (.bl false)) .nil) .nil) (.cons (.ifS (.bop true (.cons (.cmp .NotEq (.var 4) (.tup .nil)) (.cons (.not (.call 52 (.cons (.var 2) (.cons (.var 4) .nil)))) .nil))) (.cons (.ret (.bl false)) .nil) .nil) .nil)))))))))) (.cons (.ret (.bop true (.cons (.cmp .Eq (.call 29 (.cons (.tup .nil) .nil)) (.str "never")) (.cons (.cmp .Eq (.call 31 (.cons (.str "never") .nil)) (.tup .nil)) .nil)))) .nil))
theorem NN:ar Km  rJ (af oU)=true:=by decide +kernel
local macro_rules | `(tactic| walk_at "WP")=>do
 let l<-(("t6 BY Nn AJ Fd Fu F8 Fc Az Kt JH Js KC ET JC K2 E_ F0 DY BV A2 JK DZ Jl GE Nd Bw K3 Dz Gf KL FZ Jf Jt NR Kp Kl M7 Jz Kj JB Jk Jq IY Ky NS JL Ov OZ Ga Je E3 Ke Gd Jb Gz FC Eh AI NY K5 J8 O0 Jm JA KS FF KJ DV Jg NT ER AY Gb AQ zG D_ Ax EG Br Ee KI Kv Fi A4 w9 Jy kD qR qW Bd yF KH Kg I_ KN Jh Kx Du ED E9 GM FH Fy Kk Of Nt MZ D2 N6 NB N7 K0 Ko FE tN xr uL uG uz tY AV Bk A3 AU xQ wo xb t8 uK rL uM xc uh t_ uI tX K4 Jd J' o7 oM BH AO Ki Kz Kh JV FR DH EV KG JO yf Ed FD F' DR Jv JJ Jp Jj Oy OX Nb OM NA JY KU JQ D4 J6 Jn Eu JE DM Oq NQ Av J7 Gu Dy JT Kq GB J4 EN KM DQ JI JN J9 DK frame Γ_0 Γ_1 Γ_2 Γ_3 Γ_4 Γ_5 Γ_6 Γ_7 Γ_8 Γ_9 Ou OR NL M6 ON NM NZ OB MP N2 Nq M_ O7 Oc Ny MY O1 ND NF OY M' Ox N_ Oa Oo Ng MS MQ OJ N0 OS Oe NH MV NJ OT NC Ob MM NI M9 NX Ow NV KY Jo KO J0 Nat.add_assoc g9 qC List.append_assoc List.length_append List.length_set List.map_cons List.map_nil List.length_cons List.length_nil List.replicate List.cons_append List.nil_append List.append_nil List.getElem?_cons_zero List.getElem?_cons_succ List.set_cons_zero List.set_cons_succ Option.some.injEq Cell.lst.injEq PV.int.injEq PV.bl.injEq PV.ref.injEq PV.str.injEq PV.tup.injEq PV.rdl.injEq List.cons.injEq and_true true_and exists_eq_left exists_eq_left' exists_eq_right exists_and_left exists_and_right exists_const Bool.not_true Bool.not_false Bool.not_not Bool.not_eq_true' decide_eq_true_eq decide_eq_false_iff_not false_and and_false false_or or_false if_true if_false Bool.false_eq_true reduceCtorEq reduceIte not_false_eq_true Nat.add_zero Nat.zero_add Nat.reduceAdd Nat.reduceSub Nat.reduceLeDiff Int.reduceToNat Int.reducePow Int.reduceLT Int.reduceLE Int.reduceNeg Int.reduceAdd Int.reduceSub Int.reduceMul FA AD exists_eq exists_eq' exists_false ne_eq not_true_eq_false and_assoc Option.join_some Option.join_none decide_true decide_false Dx Ey F5 Dg EW DO Fq Int.reduceEq Nat.reduceEqDiff Bool.not_eq_false Bool.not_eq_true Bool.and_true Bool.true_and Bool.and_false Bool.false_and Bool.or_false Bool.or_true".splitOn " ").toArray.mapM fun s=>`(Lean.Parser.Tactic.simpLemma|$(Lean.mkIdent s.toName):ident))
 `(tactic|simp only[↓Ka,↓K6,↓KA,↓KF,$l,*])
local macro_rules | `(tactic| walk_at "WPO")=>`(tactic| ((try walk_at "WP");repeat (simp only [Cz];try walk_at "WP")))
theorem zO {as st Q}(h:a9 as st Q):aw Γ iz (frame 1 as) st (ag st Q):=by
 obtain⟨v,rfl,hb,k⟩:=h;obtain⟨n,hn⟩:=bo hb;unfold iz;walk_at "WP";rw[sf hn] at k;refine⟨n,hn,?_⟩;cases e:bH "int" n with
 | false =>rw[e] at k;exact .inl k
 | true =>rw[e] at k;exact OD ⟨n,hn,.inl k⟩
theorem ph {as st Q}(h:c9 as st Q):aw Γ dB (frame 1 as) st (ag st Q):=by
 obtain⟨v,rfl,hb,k⟩:=h;obtain⟨n,hn⟩:=bo hb;unfold dB;walk_at "WP";rw[sf hn] at k;refine⟨n,hn,?_⟩;cases e:bH "int" n with
 | false =>rw[e] at k;exact .inl k
 | true =>rw[e] at k;exact OD ⟨n,hn,.inl k⟩
theorem nW {as st Q}(h:aO as st Q):aw Γ dr (frame 2 as) st (ag st Q):=by
 obtain⟨n,d,rfl,k⟩:=h;unfold dr;walk_at "WP";refine l6 Γm (fun m ρ s=>∃a b:Nat,ρ=[some (.int a),some (.int b)]/\s=st/\Nat.gcd a b=Nat.gcd n d/\m=b) (n:=d) ⟨n,d,rfl,rfl,rfl,rfl⟩ ?_;rintro m ρ s ⟨a,b,rfl,rfl,hg,rfl⟩;walk_at "WP";by_cases hb:(m:Int)=0
 ·rw[QC (fun z=>z hb)];have:m=0:=by omega
  subst this;rw[Nat.gcd_zero_right] at hg;rw[hg];exact .inl k
 ·rw[QA hb];refine⟨by omega,a % m,VA _ (by omega),m,rfl,a % m,?_,?_,rfl⟩
  ·simp
  ·rw[<-hg,TR a m,Nat.gcd_rec m a,TR]
theorem Ei {xs:List PV}(h:xs.length=2):∃x y,xs=[x,y]:=by
 match xs,h with
 | [x,y],_=>exact⟨x,y,rfl⟩
theorem xB {x:PV}(h:(PV.tup [x,y]).bel k=true):x.bel k=true/\y.bel k=true:=by rw[PV.bel,PV.bels,PV.bels,PV.bels,Bool.and_true,QB] at h;exact h
theorem sY {as st Q}(h:bB as st Q):aw Γ eO (frame 3 as) st (ag st Q):=by
 obtain⟨v,rfl,hb,k⟩:=h;obtain⟨n,hn⟩:=bo hb;unfold eO;walk_at "WP";refine⟨n,hn,?_⟩;obtain⟨kt,kf⟩:=qO hn;cases e:bH "tuple" n with
 | false =>rw[kf e] at k;exact .inl k
 | true =>
  obtain⟨xs,rfl⟩:=kt e;walk_at "WP";by_cases hl:xs.length=2
  ·obtain⟨x,y,rfl⟩:=Ei hl;obtain⟨bx,by'⟩:=xB hb;rw[mH] at k;walk_at "WP";refine⟨x,rfl,bx,?_⟩;cases x with
   | int i =>
    simp only[iu];walk_at "WP";refine⟨y,rfl,by',?_⟩;cases y with
    | int j =>
     simp only[iu];walk_at "WP";by_cases h0:0<=i
     ·rw[QA h0];by_cases h1:1<=j
      ·rw[QA h1];refine⟨i.toNat,j.toNat,?_,?_⟩
       ·rw[RL h0,RL (by omega)]
       ·walk_at "WP";rw[xX h0 h1];exact .inl k
      ·rw[QC h1];simp only[h1,false_and,and_false,decide_false] at k;exact .inl k
     ·rw[QC h0];simp only[h0,false_and,decide_false] at k;exact .inl k
    | _=>simp only[iu];walk_at "WP";exact .inl k
   | _=>simp only[iu];walk_at "WP";exact .inl k
  ·rw[xG hl] at k;rw[QA (by omega)];exact .inl k
theorem yS {as st Q}(h:cM as st Q):aw Γ iB (frame 3 as) st (ag st Q):=by obtain⟨n,d,rfl,h1,h2,k⟩:=h;unfold iB;walk_at "WP";refine⟨n,d,rfl,?_⟩;walk_at "WP";refine⟨qb h1 h2,qb h1 h2,?_⟩;rw[<-S3,<-S3];exact .inl k
theorem LV {as st Q}(h:ej as st Q):aw Γ n5 (frame 2 as) st (ag st Q):=by obtain⟨p,q,rfl,hp,hq,hle,k⟩:=h;unfold n5;walk_at "WP";refine⟨fE hp.a hq.b,fE hq.a hp.b,fE hp.b hq.b,p.1*q.2-q.1*p.2,p.2*q.2,?_,RM hp.pos hq.pos,Iy hp.b hq.b,.inl k⟩;rw[T7 hle,QW,QW,QW]
theorem GU {as st Q}(h:gF as st Q):aw Γ lu (frame 2 as) st (ag st Q):=by obtain⟨p,q,rfl,hp,hq,k⟩:=h;unfold lu;walk_at "WP";refine⟨fE hp.a hq.a,fE hp.b hq.b,p.1*q.1,p.2*q.2,?_,RM hp.pos hq.pos,Iy hp.b hq.b,.inl k⟩;rw[QW,QW]
theorem lX {s:AH}{n m:Nat}{k:Bool->Prop}(h1:s[n]?=some (.lst xs))(h2:s[m]?=some (.lst []))(hd:dD 5 xs=true)(q:k xs.isEmpty):eqW s (.ref n) (.ref m) k:=by
 obtain⟨ds,e,d1,d2⟩:=cA hd;refine⟨.list ds,.list [],by simp[sh,h1,e],by simp[sh,h2,PV.toDs],by simp[SeqAt.shaped,PyData.canLay0,PyData.depth,d1];omega,by simp[SeqAt.shaped,PyData.canLay0,PyData.canLayAll0,PyData.depth,PyData.depthAll],?_⟩;have:PyData.eqv (.list ds) (.list [])=xs.isEmpty:=by
  cases xs with
  | nil=>simp[PV.toDs] at e;subst e;simp[PyData.eqv,PyData.eqvAll]
  | cons y ys =>
   cases ds with
   | nil=>rw[PV.toDs] at e;split at e <;> simp at e
   | cons=>simp[PyData.eqv,PyData.eqvAll]
 rw[this];exact q
theorem wC {X:List Pc}:dD 5 (X.map pcV)=true:=kn fun v hv=>by obtain⟨p,_,rfl⟩:=QQ.mp hv;rfl
theorem b_ {st g:AH}{c:Cell}:(st++c::g)[st.length]?=some c:=by simp
theorem gO {st g:AH}{c:Cell}:(st++c::g).set st.length c'=st++c'::g:=by rw[SU _ _ (P6 _),UR];rfl
theorem sub_le (hp:Sz 3000 p)(hq:Sz 3000 q)(h:val q<=val p):q.1*p.2<=p.1*q.2:=(jf hq.pos hp.pos).mpr h
theorem CF {as st Q}(h:eP as st Q):aw Γ i4 (frame 7 as) st (ag st Q):=by
 obtain⟨b,a,p,rfl,hb,ha,hp,h1,h2,h3,h4,k⟩:=h;unfold i4;walk_at "WP";refine ji ?_;by_cases q:p.l=a.h
 ·rw[QM q];walk_at "WP";have c1:=ha.h.mono (k:=3000) (by decide);have c2:=ha.l.mono (k:=3000) (by decide);have c3:=ha.e.mono (k:=3000) (by decide);have c4:=hb.mono (k:=3000) (by decide);have c5:=hp.h.mono (k:=3000) (by decide);have c6:=hp.l.mono (k:=3000) (by decide);have c7:=hp.e.mono (k:=3000) (by decide);refine⟨a.h,a.l,rfl,c1,c2,sub_le c1 c2 h3,a.e,b,rfl,c3,c4,sub_le c3 c4 h1,p.h,p.l,rfl,c5,c6,sub_le c5 c6 h4,p.e,a.e,rfl,c7,c3,sub_le c7 c3 (RR h2),?_⟩;have d1:=(kr ha.h ha.l).mono (k:=3000) (by decide);have d2:=(kr ha.e hb).mono (k:=3000) (by decide);have d3:=(kr hp.h hp.l).mono (k:=3000) (by decide);have d4:=(kr hp.e ha.e).mono (k:=3000) (by decide);refine⟨_,_,rfl,d1,d4,_,_,rfl,d3,d2,ji (.inl ?_)⟩;unfold gB at k;rw[QM q,Bool.true_and] at k;exact k
 ·rw[QJ q];walk_at "WP";unfold gB at k;rw[QJ q,UB] at k;exact .inl k
def LnI (st:AH)(L:List Pc)(i:Nat)(ρ:Fr)(s:AH):Prop:=∃(X:List Pc) (b:Nat × Nat) (g:AH) (a:Option PV),s=st++.lst (X.map pcV)::g/\ρ=[some (bf L),some (.ref st.length),some (fr b),a]/\X.length<=i /\
  ((X=[]/\b=(0,1)/\i=0)\/∃Y c,X=Y++[c]/\eF L=Y++aS b c (L.drop i)/\Sz 600 b/\c.Sz 600/\val b<=c.E/\c.L<=c.H/\Ch c.E (L.drop i))
theorem map_snoc {Y:List Pc}{c:Pc}:(Y++[c]).map pcV=Y.map pcV++[pcV c]:=by simp
theorem wA {Y:List Pc}{c:Pc}:((Y++[c]).map pcV).isEmpty=false:=by simp
theorem Ft {n:Nat}:ixN (n+1) (-1)=some n:=by unfold ixN;simp;omega
theorem MH {as st Q}(h:kE as st Q):aw Γ ox (frame 4 as) st (ag st Q):=by
 obtain⟨L,rfl,hz,hL,hl,k⟩:=h;unfold ox;walk_at "WP";have s01:Sz 600 (0,1):=⟨U3 (by decide),TH (by decide),by decide⟩;refine iD Γm (LnI st L) ⟨[],(0,1),[],none,rfl,rfl,P6 _,.inl ⟨rfl,rfl,rfl⟩⟩ ?_ ?_
 ·rintro i v ρ s hi ⟨X,b,g,a,rfl,rfl,hXi,hX⟩;refine⟨trivial,?_⟩;rw[QK] at hi;obtain⟨p,hp,rfl⟩:=Q9.mp hi;have il:=(P8.mp hp).1;have hd:L.drop i=p::L.drop (i+1):=by rw[RV il,(P8.mp hp).2]
  have pz:=hz p (P_ hp);walk_at "WP";refine lX (xs:=X.map pcV) (by simp) (by simp) wC ?_;rcases hX with⟨rfl,rfl,rfl⟩|⟨Y,c,rfl,hF,zb,zc,o1,o2,hc⟩
  ·rw[QC (by simp)];refine lX (xs:=[]) (by simp) (by simp) (by rw[dD]) ?_;rw[QA (show ([]:List PV).isEmpty=true from rfl)];refine⟨⟨_,au b_⟩,by simp,[p],(0,1),g++[.lst [],.lst []],some (pcV p),?_,rfl,by simp,.inr ⟨[],p,rfl,?_,s01,pz,?_⟩⟩
   ·rw[gO];rfl
   ·have:L=p::L.drop 1:=by simpa using hd
    rw[this];rfl
   ·have e:L=p::L.drop 1:=by simpa using hd
    rw[e] at hL;exact⟨by rw[val_nought];exact gD hL.1.e.pos,hL.2.1,hL.2.2⟩
  ·rw[QA wA];rw[hd] at hc hF;obtain⟨pok,c1,c2,c3⟩:=hc;refine⟨_,ao b_,pcV c,by rw[map_snoc];exact dZ,b,c,p,rfl,zb,zc,pz,o1,c1,o2,c2,?_⟩;rw[aS] at hF;have len:((Y++[c]).map pcV).length=Y.length+1:=by simp
   have lY:Y.length+1<=i:=by simpa using hXi
   cases gb:gB b c p with
   | true =>
    rw[QA gb] at hF;walk_at "WP";refine⟨_,ao b_,pcV c,by rw[map_snoc];exact dZ,?_⟩;walk_at "WP";refine⟨Y.length,by rw[QO,QS];exact Ft,Y++[c.mg p],b,g++[.lst []],some (pcV p),?_,rfl,by simp;omega,.inr ⟨Y,c.mg p,rfl,hF,zb,⟨pz.e,zc.l,pz.h⟩,?_,?_,c3⟩⟩
    ·rw[gO,map_snoc];simp
    ·show val b<=p.E;grind
    ·show c.L<=p.H;have e:p.l=c.h:=by unfold gB at gb;rw[QB,decide_eq_true_eq] at gb;exact gb.1
     have:p.L=c.H:=by unfold Pc.L Pc.H;rw[e]
     grind
   | false =>
    rw[QC (by rw[gb];decide)] at hF;walk_at "WP";refine lX (xs:=(Y++[c]).map pcV) (by simp) (by simp) wC ?_;rw[wA,QC (by decide)];refine⟨_,ao b_,pcV c,by rw[map_snoc];exact dZ,?_⟩;walk_at "WP";refine⟨⟨_,au b_⟩,by rw[len];omega,Y++[c]++[p],c.e,g++[.lst [],.lst []],some (pcV p),?_,rfl,by simp;omega,.inr ⟨Y++[c],p,rfl,?_,zc.e,pz,RR c1,c2,c3⟩⟩
    ·rw[gO];simp
    ·rw[hF];simp
 ·rintro ρ s ⟨X,b,g,a,rfl,rfl,hXi,hX⟩;refine⟨trivial,?_⟩;walk_at "WP";have fin:eF L=X:=by
   rw[QO] at hX;rcases hX with⟨rfl,_,h0⟩|⟨Y,c,rfl,hF,_⟩
   ·rw[RZ.mp h0];rfl
   ·rw[hF,T1];rfl
  refine⟨_,ao b_,.inr (.app ?_ ?_)⟩
  ·refine PV.bel_le (Q8 _) ?_;rw[PV.bel];clear hX fin hXi
   induction X with
   | nil=>rw[SF,PV.bels]
   | cons x xs ih=>rw[QN,PV.bels,ih];rfl
  ·rw[fin] at k;exact k
theorem wj {as st Q}(h:gc as st Q):aw Γ gA (frame 2 as) st (ag st Q):=by obtain⟨p,q,rfl,hp,hq,hle,k⟩:=h;unfold gA;walk_at "WP";refine⟨fE hp.a hq.b,fE hq.a hp.b,fE hp.b hq.b,p.1*q.2-q.1*p.2,p.2*q.2,?_,RM hp.pos hq.pos,Iy hp.b hq.b,.inl k⟩;rw[T7 hle,QW,QW,QW]
theorem yA {as st Q}(h:gf as st Q):aw Γ gC (frame 2 as) st (ag st Q):=by obtain⟨p,q,rfl,hp,hq,h0,k⟩:=h;unfold gC;walk_at "WP";refine⟨fE hp.a hq.b,fE hp.b hq.a,p.1*q.2,p.2*q.1,?_,RM hp.pos h0,Iy hp.b hq.a,.inl k⟩;rw[QW,QW]
theorem vD {as st Q}(h:fc as st Q):aw Γ fH (frame 2 as) st (ag st Q):=by obtain⟨p,q,rfl,hp,hq,k⟩:=h;unfold fH;walk_at "WP";refine⟨fE hp.a hq.b,fE hq.a hp.b,?_⟩;rw[<-QW,<-QW];simp only[Int.ofNat_lt];exact .inl k
theorem zS {as st Q}(h:dP as st Q):aw Γ iw (frame 4 as) st (ag st Q):=by
 obtain⟨n,d,rfl,h0,h1,k⟩:=h;unfold iw;walk_at "WP";refine l6 Γm (fun j ρ s=>s=st/\∃a:Nat,ρ=[some (.int n),some (.int d),some (.int a),some (.int j)]/\Nat.gcd a j=Nat.gcd n d) (n:=d) ⟨rfl,n,rfl,rfl⟩ ?_;rintro m ρ s ⟨rfl,a,rfl,hg⟩;walk_at "WP";by_cases hb:(0:Int)<m
 ·rw[QA hb];exact⟨hb,a % m,VA _ (by omega),m,rfl,by simp,by rw[<-hg,TR a m,Nat.gcd_rec m a,TR]⟩
 ·rw[QC hb];have:m=0:=by omega
  subst this;rw[Nat.gcd_zero_right] at hg;subst hg;refine⟨qb h0 h1,qb h0 h1,?_⟩;rw[<-S3,<-S3];exact .inl k
theorem u_ {as st Q}(h:cz as st Q):aw Γ fJ (frame 3 as) st (ag st Q):=by
 obtain⟨p,many,rfl,⟨q,r,hp,hq,hr0,hr1⟩,hm,hm2,k⟩:=h;have g0:Gr st p st:=.refl ⟨q,r,hp,hq,hr0,hr1⟩;unfold fJ;walk_at "WP";refine⟨_,ao hp,_,o7,?_⟩;walk_at "WP";by_cases hz:0<q
 ·rw[QA hz];refine⟨_,ao hp,_,o7,?_⟩;walk_at "WP";refine⟨vE hm hm2,_,hp,0,rfl,?_⟩;exact .inl (k _ _ (Int.emod_nonneg _ (by omega)) (Int.emod_lt_of_pos _ hm) (g0.set ⟨UX (by omega) (by omega),hr0,hr1⟩))
 ·rw[QC hz];refine⟨_,ao hp,_,oM,?_⟩;walk_at "WP";refine⟨rS (by decide) (by decide),_,hp,1,rfl,?_⟩;have hs:∀z,(st.set p (pc q z))[p]?=some (pc q z):=fun z=>Q6 (km hp);refine⟨_,ao (hs _),_,oM,_,ao (hs _),_,oM,?_⟩;walk_at "WP";refine⟨AK (by omega) (by omega),vE (by decide) (by decide),hm,?_⟩;exact .inl (k _ _ (Int.emod_nonneg _ (by omega)) (Int.emod_lt_of_pos _ hm) (g0.set ⟨hq,by omega,by omega⟩))
def PtI (ns:List Int)(m:Nat)(n:Nat)(s0:AH)(i:Nat)(ρ:Fr)(s:AH):Prop:=∃(z:Nat) (a:Option PV),s=s0/\ρ=[some (.rdl (ns.map PV.int)),some (.int m),some (.ref n),some (.int z),a,none]/\z<2147483629
theorem y_ {as st Q}(h:dJ as st Q):aw Γ ip (frame 6 as) st (ag st Q):=by
 obtain⟨ns,m,rfl,hl,hm,k⟩:=h;unfold ip;walk_at "WP";rw[Od hl];refine⟨_,ao aE,by simp;omega,?_⟩;refine comp_map Γm (fun x=>match x with | .int z=>.int z.natAbs|v=>v) rfl (fun x hx=>?_) ?_
 ·obtain⟨z,_,rfl⟩:=QQ.mp hx;walk_at "WP"
 refine⟨AK (by decide) (by decide),_,ao aE,?_⟩;have e1:(ns.map PV.int).map (fun x=>match x with | .int z=>PV.int z.natAbs|v=>v)=(ns.map fun z=>((z.natAbs:Nat):Int)).map PV.int:=by simp
 rw[e1];generalize hs:st++[Cell.lst (List.map PV.int ns)]=s1;generalize hA:(ns.map fun z=>((z.natAbs:Nat):Int))=A;have lA:A.length=ns.length:=by rw[<-hA];simp
 have nA:∀x∈A,0<=x:=fun x hx=>by rw[<-hA] at hx;obtain⟨z,_,rfl⟩:=QQ.mp hx;omega
 refine iD Γm (PtI ns m s1.length (s1++[.lst (A.map PV.int)])) ⟨11+7*m,none,rfl,by simp,by omega⟩ ?_ ?_
 ·rintro i v ρ s hi ⟨z,a,rfl,rfl,hz⟩;rw[QK] at hi;obtain⟨y,hy,rfl⟩:=Q9.mp hi;have y0:=nA y (P_ hy);refine⟨rfl,?_⟩;walk_at "WP";refine⟨rS (by decide) (by decide),((z:Int)*48271+y % 2147483629+1).toNat % 2147483629,some (.int y),rfl,?_,by omega⟩;have e:((z:Int)*48271+y % 2147483629+1) % 2147483629=((((z:Int)*48271+y % 2147483629+1).toNat % 2147483629:Nat):Int):=by omega
  rw[e]
 ·rintro ρ s ⟨z,a,rfl,rfl,hz⟩;refine⟨rfl,?_⟩;walk_at "WP";have el:List.map PV.int A++[[PV.int 0],[PV.int 0],[PV.int 0],[PV.int 0],[PV.int 0],[PV.int 0],[PV.int 0],[PV.int 0],[PV.int 0]].flatten=(A++[0,0,0,0,0,0,0,0,0]).map PV.int:=by simp
  rw[el];have gl:∀g:AH,(s1++g)[s1.length+3]?=g[3]?:=fun g=>g9 (k:=3);have lm:m<(A++[0,0,0,0,0,0,0,0,0]).length:=by simp;omega
  refine⟨by simp,(by first|(simp;done)|(simp;omega)),_,ao (by rw[gl];rfl),_,EC lm,Nx,?_⟩;have y0:0<=(A++[0,0,0,0,0,0,0,0,0]).getD m 0:=by
   rw[R_,P9 lm,Option.getD_some];have:=UP lm;rcases Q5.mp this with h|h
   ·exact nA _ h
   ·simp at h;omega
  generalize (A++[0,0,0,0,0,0,0,0,0]).getD m 0=y at y0;walk_at "WP";have b0:0<=b2z (decide (1000000000000000000<=y))/\b2z (decide (1000000000000000000<=y))<=1:=by unfold b2z;split <;> omega
  refine⟨rS (by omega) (by omega),.inl (k _ _ ⟨_,_,g9 (k:=4),Int.mul_nonneg y0 b0.1,by omega,by omega⟩)⟩
theorem vX {α:Type}(U:List α):U=[]\/∃Y c,U=Y++[c]:=by
 rcases List.eq_nil_or_concat U with h|⟨Y,c,h⟩
 ·exact .inl h
 ·exact .inr ⟨Y,c,by rw[h,List.concat_eq_append]⟩
noncomputable abbrev cK (U:List Un3):Un3:=(U.getLast?).getD (0,0,0)
theorem wx {U:List Un3}:atI (uV (0,0,0)::U.map uV) (-1)=some (uV (cK U)):=by
 rcases vX U with rfl|⟨Y,c,rfl⟩
 ·exact dZ (xs:=[])
 ·have:uV (0,0,0)::(Y++[c]).map uV=(uV (0,0,0)::Y.map uV)++[uV c]:=by simp
  rw[this,dZ];simp[cK]
theorem BP {X:List Un3}:dD 5 (X.map uV)=true:=kn fun v hv=>by obtain⟨p,_,rfl⟩:=QQ.mp hv;rfl
theorem A8:∀ {Y:List Un3}{b hh:Nat}{c:Un3},RU b hh (Y++[c])->c.2.1<=c.2.2/\c.1<=c.2.2/\b<c.1/\hh<=c.2.1/\∀w,Y.getLast?=some w->w.1<c.1/\w.2.2<=c.2.1
 | [],b,hh,c,h=>⟨h.2.2.1,h.2.2.2.1,h.1,h.2.1,fun w z=>by simp at z⟩
 | y::Y,b,hh,c,⟨h1,h2,h3,h4,h5⟩=>by
  obtain⟨k1,k2,k3,k4,k5⟩:=A8 h5;refine⟨k1,k2,by omega,by omega,fun w hw=>?_⟩;cases Y with
  | nil=>simp at hw;subst hw;exact⟨k3,k4⟩
  | cons z Z=>rw[R1] at hw;exact k5 w hw
theorem xT {Y:List Un3}{c:Un3}(h:RUF (Y++[c])):c.2.1<=c.2.2/\c.1<=c.2.2/\∀w,Y.getLast?=some w->w.1<c.1:=by
 cases Y with
 | nil=>exact⟨h.1,h.2.1,fun w z=>by simp at z⟩
 | cons y Y =>
  obtain⟨k1,k2,k3,k4,k5⟩:=A8 h.2.2.2;refine⟨k1,k2,fun w hw=>?_⟩;cases Y with
  | nil=>simp at hw;subst hw;exact k3
  | cons z Z=>rw[R1] at hw;exact(k5 w hw).1
theorem EB:∀ {U:List Un3}{b hh:Nat}{u:Un3},RU b hh U->(U=[]->b<u.1/\hh<=u.2.1/\u.2.1<=u.2.2/\u.1<=u.2.2)->(∀v,U.getLast?=some v->v.1<u.1/\v.2.2<=u.2.1/\u.2.1<=u.2.2/\u.1<=u.2.2)->RU b hh (U++[u])
 | [],b,hh,u,_,h1,_=>by obtain⟨a1,a2,a3,a4⟩:=h1 rfl;exact⟨a1,a2,a3,a4,trivial⟩
 | v::U,b,hh,u,⟨k1,k2,k3,k4,k5⟩,_,h2=>by
  refine⟨k1,k2,k3,k4,EB k5 (fun e=>?_) fun w hw=>h2 w ?_⟩
  ·subst e;exact h2 v rfl
  ·cases U with
   | nil=>simp at hw
   | cons z Z=>rw[R1];exact hw
theorem HY (h:RUF U)(a:App U u):RUF (U++[u]):=by
 cases U with
 | nil =>obtain⟨a1,a2,a3⟩:=a.fst rfl;exact⟨a1,a2,a3,trivial⟩
 | cons v U =>
  obtain⟨k1,k2,k3,k4⟩:=h;refine⟨k1,k2,k3,EB k4 (fun e=>?_) fun w hw=>a.nxt w ?_⟩
  ·subst e;exact a.nxt v rfl
  ·cases U with
   | nil=>simp at hw
   | cons z Z=>rw[R1];exact hw
theorem uU (b:Bool):-(2 ^ 64)<b2z b:=by unfold b2z;split <;> omega
theorem uY (b:Bool):b2z b<2 ^ 64:=by unfold b2z;split <;> omega
theorem IB {x:Int}(h:0<=x):∃m:Nat,x*b2z c=m/\(m:Int)<=x:=by
 cases c with
 | true=>exact⟨x.toNat,by show x*1=_;omega,by omega⟩
 | false=>exact⟨0,by show x*0=_;omega,by omega⟩
theorem KD (a b:Nat):∃M:Nat,(if (a:Int)<b then (b:Int) else a)=M/\a<=M/\b<=M/\(M=a\/M=b):=by
 by_cases h:a<b
 ·exact⟨b,by rw[QA (by omega)],by omega,by omega,.inr rfl⟩
 ·exact⟨a,by rw[QC (by omega)],by omega,by omega,.inl rfl⟩
theorem wH {as st Q}(h:c8 as st Q):aw Γ gM (frame 9 as) st (ag st Q):=by
 obtain⟨p,n,far,U,rfl,hp,hne,hn,f0,f1,hU,hl,hB,k⟩:=h;unfold gM;walk_at "WP";refine⟨_,f9 hn,by simp;omega,_,ao (g9 (k:=1)),_,wx,_,rfl,rfl,_,_,rfl,_,_,rfl,_,_,rfl,rfl,?_⟩;have hlb:(cK U).1<=(cK U).2.2/\(cK U).1<=4*10 ^ 9+3*10 ^ 8*U.length/\(cK U).2.2<=4*10 ^ 9+3*10 ^ 8*U.length:=by
  rcases vX U with rfl|⟨Y,c,rfl⟩
  ·exact⟨P6 _,Q8 _,Q8 _⟩
  ·have e:cK (Y++[c])=c:=by simp[cK]
   rw[e];have b:=hB c (by simp);exact⟨(xT hU).2.1,b.1,b.2.2⟩
 obtain⟨l0,l1,l2⟩:=hlb;refine⟨p,6,rfl,hp.app,by decide,by decide,fun w s1 w0 w1 g1=>?_⟩;refine⟨p,far,rfl,g1.pot,f0,by omega,fun y s2 y0 y1 g2=>?_⟩;obtain⟨y,rfl⟩:∃m:Nat,y=m:=⟨y.toNat,by omega⟩;have G2:=((Gr.refl hp).app.trans g1).trans g2;have hn2:s2[n]?=some (.lst (U.map uV)):=G2.get hn hne;walk_at "WP";refine lX (xs:=U.map uV) (f9 hn2) aE BP ?_;have gS:Gr st p (s2++[Cell.lst []]):=G2.app;cases hE:(U.map uV).isEmpty with
 | true =>
  rw[QA rfl];by_cases w0:w=0
  ·rw[QA w0];refine .inl ?_;have e:PV.tup [.int 0,.int (1+(y:Int)-1),.int (1+(y:Int)-1)]=uV (0,y,y):=by show PV.tup [.int 0,.int (1+(y:Int)-1),.int (1+(y:Int)-1)]=PV.tup [.int 0,.int (y:Int),.int (y:Int)];rw[show 1+(y:Int)-1=y by omega]
   rw[e];have U0:U=[]:=by simpa using hE
   subst U0;refine k (0,y,y) _ ⟨fun _=>⟨P6 _,Q8 _,fun _=>rfl⟩,fun v hv=>by simp at hv⟩ (fun u hu=>?_) gS;rw[QI] at hu;subst hu;exact⟨Q8 _,by show y<=_;omega,by show y<=_;omega⟩
  rw[QC w0];refine⟨p,far,rfl,gS.pot,f0,by omega,fun z1 s4 z10 z11 g4=>?_⟩;obtain⟨m1,em1,lm1⟩:=IB (c:=decide (w<3)) z10;walk_at "WP";refine⟨rS (uU _) (uY _),?_⟩;rw[em1];refine⟨p,far,rfl,g4.pot,f0,by omega,fun z2 s5 z20 z21 g5=>?_⟩;obtain⟨m2,em2,lm2⟩:=IB (c:=!decide (w=2)) z20;walk_at "WP";refine⟨rS (uU _) (uY _),?_⟩;rw[em2];obtain⟨M,eM,M1,M2,M3⟩:=KD ((cK U).2.2+m1) ((cK U).1+(1+y));have e1:((cK U).2.2:Int)+m1=(((cK U).2.2+m1:Nat):Int):=by omega
  have e2:((cK U).1:Int)+(1+y)=(((cK U).1+(1+y):Nat):Int):=by omega
  rw[e1,e2,eM];have e3:(M:Int)+m2=((M+m2:Nat):Int):=by omega
  rw[e3];refine .inl (k ((cK U).1+(1+y),(cK U).2.2+m1,M+m2) _ ⟨fun e=>⟨by dsimp only;omega,by dsimp only;omega,fun z=>?_⟩,fun v hv=>?_⟩ (fun u hu=>?_) ((gS.trans g4).trans g5))
  ·have:(cK U).1+(1+y)=0:=z;omega
  ·have:cK U=v:=by simp[cK,hv]
   rw[this] at M1 M2 |-
   exact⟨by dsimp only;omega,by dsimp only;omega,by dsimp only;omega,by dsimp only;omega⟩
  ·rw[QI] at hu;subst hu;exact⟨by dsimp only;omega,by dsimp only;omega,by dsimp only;omega⟩
 | false =>
  rw[QC (by decide)];refine⟨p,far,rfl,gS.pot,f0,by omega,fun z1 s4 z10 z11 g4=>?_⟩;obtain⟨m1,em1,lm1⟩:=IB (c:=decide (w<3)) z10;walk_at "WP";refine⟨rS (uU _) (uY _),?_⟩;rw[em1];refine⟨p,far,rfl,g4.pot,f0,by omega,fun z2 s5 z20 z21 g5=>?_⟩;obtain⟨m2,em2,lm2⟩:=IB (c:=!decide (w=2)) z20;walk_at "WP";refine⟨rS (uU _) (uY _),?_⟩;rw[em2];obtain⟨M,eM,M1,M2,M3⟩:=KD ((cK U).2.2+m1) ((cK U).1+(1+y));have e1:((cK U).2.2:Int)+m1=(((cK U).2.2+m1:Nat):Int):=by omega
  have e2:((cK U).1:Int)+(1+y)=(((cK U).1+(1+y):Nat):Int):=by omega
  rw[e1,e2,eM];have e3:(M:Int)+m2=((M+m2:Nat):Int):=by omega
  rw[e3];refine .inl (k ((cK U).1+(1+y),(cK U).2.2+m1,M+m2) _ ⟨fun e=>⟨by dsimp only;omega,by dsimp only;omega,fun z=>?_⟩,fun v hv=>?_⟩ (fun u hu=>?_) ((gS.trans g4).trans g5))
  ·have:(cK U).1+(1+y)=0:=z;omega
  ·have:cK U=v:=by simp[cK,hv]
   rw[this] at M1 M2 |-
   exact⟨by dsimp only;omega,by dsimp only;omega,by dsimp only;omega,by dsimp only;omega⟩
  ·rw[QI] at hu;subst hu;exact⟨by dsimp only;omega,by dsimp only;omega,by dsimp only;omega⟩
theorem Dh {X:List PV}{x:PV}:kM (X++[x]) none (some (-1))=X:=by
 unfold kM;have e:HT.sIx (X++[x]).length (X++[x]).length (some (-1))=X.length:=by show (if (-1:Int)<0 then ((-1:Int)+((X++[x]).length:Int)).toNat else min (-1:Int).toNat (X++[x]).length)=_;rw[QA (by decide)];simp;omega
 rw[HT.sIx_none,e];simp
theorem pG {as st Q}(h:bA as st Q):aw Γ dA (frame 7 as) st (ag st Q):=by
 obtain⟨p,n,U,v,rfl,hp,hne,hn,v1,v2,v3,hw,hl,k⟩:=h;unfold dA;walk_at "WP";have em:(U++[v]).map uV=U.map uV++[uV v]:=by simp
 rw[em] at hn;refine⟨_,au (f9 hn),?_⟩;rw[Dh];refine⟨by simp;omega,_,ao (g9 (k:=2)),_,wx,?_⟩;walk_at "WP";refine⟨_,ao (f9 hn),_,dZ,_,rfl,rfl,_,_,rfl,_,_,rfl,_,_,rfl,rfl,?_⟩;refine⟨p,3,rfl,hp.app,by decide,by decide,fun y s1 y0 y1 g1=>?_⟩;obtain⟨y,rfl⟩:∃m:Nat,y=m:=⟨y.toNat,by omega⟩;have G1:=(Gr.refl hp).app.trans g1;have hb:(cK U).1<=v.1:=by
  cases hg:U.getLast? with
  | none=>simp[cK,hg]
  | some w=>have:=hw w hg;simp[cK,hg];omega
 walk_at "WP";by_cases he:(v.1:Int)=(cK U).1
 ·rw[QA he];have e1:(v.1:Int)+(1+y)=((v.1+(1+y):Nat):Int):=by omega
  have e2:(v.2.2:Int)+(1+y)=((v.2.2+(1+y):Nat):Int):=by omega
  rw[e1,e2];refine .inl (k (v.1+(1+y),v.2.2,v.2.2+(1+y)) _ (by dsimp only;omega) (by dsimp only;omega) (by dsimp only;omega) (fun u hu=>?_) G1);rw[QI] at hu;subst hu;exact⟨by dsimp only;omega,by dsimp only;omega,by dsimp only;omega⟩
 ·rw[QC he];obtain⟨A,eA⟩:∃A:Nat,(v.1:Int)-(cK U).1=A:=⟨v.1-(cK U).1,by omega⟩;obtain⟨B,eB⟩:∃B:Nat,(v.2.2:Int)-v.2.1=B:=⟨v.2.2-v.2.1,by omega⟩;rw[eA,eB];have my:y=0\/y=1\/y=2:=by omega
  obtain⟨A',eA',A0,A1⟩:∃A':Nat,(1+(y:Int))*A=A'/\0<A'/\A'<=3*A:=by refine⟨(1+y)*A,by rw[QW];rfl,RM (by omega) (by omega),SY _ (by omega)⟩
  obtain⟨B',eB',B1⟩:∃B':Nat,(1+(y:Int))*B=B'/\B'<=3*B:=by refine⟨(1+y)*B,by rw[QW];rfl,SY _ (by omega)⟩
  rw[eA',eB'];refine⟨AK (by omega) (by omega),AK (by omega) (by omega),?_⟩;rw[<-T5,<-T5];refine .inl (k (v.1+A',v.2.2,v.2.2+B') _ (by dsimp only;omega) (by dsimp only;omega) (by dsimp only;omega) (fun u hu=>?_) G1);rw[QI] at hu;subst hu;exact⟨by dsimp only;omega,by dsimp only;omega,by dsimp only;omega⟩
theorem sT {as st Q}(h:bX as st Q):aw Γ eU (frame 1 as) st (ag st Q):=by
 obtain⟨p,rfl,hp,k⟩:=h;unfold eU;walk_at "WP";refine⟨p,12,rfl,hp,by decide,by decide,fun x s1 x0 x1 g1=>?_⟩;walk_at "WP";refine⟨Kr,p,999999999999,rfl,g1.pot,by decide,by decide,fun y s2 y0 y1 g2=>?_⟩;walk_at "WP";refine⟨p,3,rfl,g2.pot.app,by decide,by decide,fun z s3 z0 z1 g3=>?_⟩;walk_at "WP";obtain⟨v,ev,d,rfl,d0,d1⟩:=Kd (L:=[PV.int 1,PV.int (1+x),PV.int (1+y)]) (P:=fun v=>∃d:Nat,v=.int d/\0<d/\d<10 ^ 12) (fun v hv=>by
  simp only[List.mem_cons,List.not_mem_nil,or_false] at hv;rcases hv with rfl|rfl|rfl
  ·exact⟨1,rfl,by decide,by decide⟩
  ·exact⟨(1+x).toNat,by congr 1;omega,by omega,by omega⟩
  ·exact⟨(1+y).toNat,by congr 1;omega,by omega,by omega⟩) z0 z1
 refine⟨_,ao (g3.get aE g2.ne),_,ev,?_⟩;exact((g1.trans g2).app.trans g3).tmp rfl fun s5 g5 _=>.inl (k _ _ d0 d1 g5)
theorem zd {as st Q}(h:dQ as st Q):aw Γ iy (frame 2 as) st (ag st Q):=by
 obtain⟨x,d,U,rfl,hx,hx2,d0,d1,hl,k⟩:=h;unfold iy;walk_at "WP";have be:d<2 ^ 8000:=RQ d1 JR;refine⟨_,hx,by simp;omega,?_⟩;refine FW.comp_map Γm (fun x=>match x with | .tup [.int a,.int b,.int c]=>pcV (u5 d (a.toNat,b.toNat,c.toNat))|v=>v) ?_ (fun y hy=>?_) ?_
 ·rcases hx2 with rfl|⟨n,rfl⟩
  ·trivial
  ·rfl
 ·obtain⟨u,_,rfl⟩:=QQ.mp hy;walk_at "WP";refine⟨by decide,?_⟩;refine FW.comp_map Γm (fun x=>match x with | .int z=>fr (cj z.toNat d)|v=>v) trivial (fun x hx=>?_) ?_
  ·simp only[List.mem_cons,List.not_mem_nil,or_false] at hx;rcases hx with rfl|rfl|rfl
   ·walk_at "WP";exact⟨u.1,d,rfl,d0,be,rfl,rfl⟩
   ·walk_at "WP";exact⟨u.2.1,d,rfl,d0,be,rfl,rfl⟩
   ·walk_at "WP";exact⟨u.2.2,d,rfl,d0,be,rfl,rfl⟩
  ·refine⟨_,ao aE,.app ?_ ⟨rfl,rfl⟩⟩;simp[PV.bel,PV.bels,fr]
 ·refine⟨_,ao aE,.app ?_ (.inl ?_)⟩
  ·refine PV.bel_le (Q8 _) ?_;rw[PV.bel];clear k hx hx2 hl
   induction U with
   | nil=>rfl
   | cons x xs ih=>rw[QN,QN,PV.bels,ih];rfl
  ·have:(U.map uV).map (fun x=>match x with | .tup [.int a,.int b,.int c]=>pcV (u5 d (a.toNat,b.toNat,c.toNat))|v=>v)=(U.map (u5 d)).map pcV:=by rw[SO,SO];rfl
   rw[this];exact k
def UnI (st:AH)(p n:Nat)(most far:Nat)(i:Nat)(ρ:Fr)(s:AH):Prop:=∃(U:List Un3) (a b:Option PV),Gr st p s/\s[n]?=some (.lst (U.map uV))/\RUF U/\U.length<=i/\i<=most/\BdU (4*10 ^ 9+3*10 ^ 8*U.length) U/\ρ=[some (.ref p),some (.int most),some (.int far),some (.ref n),a,b]
theorem D0 {p:Prop}{inst:Decidable p}{A B:Prop}(h1:p->A)(h2:¬p->B):@ite Prop p inst A B:=by
 by_cases h:p
 ·rw[QA h];exact h1 h
 ·rw[QC h];exact h2 h
theorem BdU.mono {M:Nat}(h:BdU N U)(hm:N<=M):BdU M U:=fun u hu=>⟨QP (h u hu).1 hm,QP (h u hu).2.1 hm,QP (h u hu).2.2 hm⟩
theorem Pg:yZ 10 8:=⟨by decide,by decide,by decide⟩
theorem vz {as st Q}(h:cw as st Q):aw Γ fN (frame 6 as) st (ag st Q):=by
 obtain⟨p,most,rfl,hp,hm,k⟩:=h;have pl:=hp.lt;unfold fN;walk_at "WP";refine⟨Pg,p,4,rfl,hp.app,by decide,by decide,fun y s1 y0 y1 g1=>?_⟩;walk_at "WP";obtain⟨v,ev,far,rfl,f0,f1⟩:=Kd (L:=[PV.int 4,PV.int 4,PV.int 30,PV.int 100000000]) (P:=fun v=>∃d:Nat,v=.int d/\0<d/\d<=10 ^ 8) (fun v hv=>by
  simp only[List.mem_cons,List.not_mem_nil,or_false] at hv;rcases hv with rfl|rfl|rfl|rfl
  ·exact⟨4,rfl,by decide,by decide⟩
  ·exact⟨4,rfl,by decide,by decide⟩
  ·exact⟨30,rfl,by decide,by decide⟩
  ·exact⟨_,rfl,by decide,by decide⟩) y0 y1
 refine⟨_,ao (g1.get aE (by omega)),_,ev,?_⟩;refine((Gr.refl hp).app.trans g1).tmp rfl fun s2 g2 _=>?_;refine⟨p,_,rfl,g2.pot.app,by omega,by omega,fun j s3 j0 j1 g3=>?_⟩;obtain⟨j,rfl⟩:∃m:Nat,j=m:=⟨j.toNat,by omega⟩;refine⟨_,rfl,by omega,by omega,?_⟩;have n1:st.length<=s2.length:=g2.len;have nne:s2.length≠p:=g2.ne;refine iD Γm (UnI st p s2.length most far) ⟨[],none,none,g2.app.trans g3,g3.get aE nne,trivial,Q8 _,Q8 _,fun u hu=>(nomatch hu),rfl⟩ ?_ ?_
 ·rintro i v ρ s hi ⟨U,a,b,g,hn,hU,hl,him,hB,rfl⟩;obtain⟨rfl,hi⟩:=qt hi;refine⟨trivial,?_⟩;walk_at "WP";refine⟨p,s2.length,far,U,rfl,g.pot,nne,hn,by omega,by omega,hU,by omega,hB,fun u s4 ap bd g4=>?_⟩;have G4:=g.trans g4;have hn4:=g4.get hn nne;have fin:∀(u:Un3) (s':AH),Gr st p s'->s'[s2.length]?=some (.lst (U.map uV))->(u.1<=u.2.2->App U u)->BdU (4*10 ^ 9+3*10 ^ 8*(U.length+1)) [u] ->
    (if (u.1:Int)<=u.2.2 then (∃xs,bG s' (.ref s2.length)=some xs)/\∃xs,s'[s2.length]?=some (.lst xs)/\xs.length<100000/\UnI st p s2.length most far (i+1) [some (.ref p),some (.int most),some (.int far),some (.ref s2.length),some (.int i),some (uV u)] (List.set s' s2.length (.lst (xs++[uV u])))
    else UnI st p s2.length most far (i+1) [some (.ref p),some (.int most),some (.int far),some (.ref s2.length),some (.int i),some (uV u)] s'):=by
   intro u s' gs hs ap bd;have bd':BdU (4*10 ^ 9+3*10 ^ 8*(U.length+1)) (U++[u]):=fun w hw=>by
    rcases Q5.mp hw with hw|hw
    ·have:=hB w hw;omega
    ·exact bd w hw
   by_cases q:(u.1:Int)<=u.2.2
   ·rw[QA q];refine⟨⟨_,au hs⟩,_,hs,by simp;omega,U++[u],_,_,gs.setN n1,?_,HY hU (ap (by omega)),by simp;omega,by omega,by simpa using bd',rfl⟩;rw[Q6 (km hs)];simp
   ·rw[QC q];exact⟨U,_,_,gs,hs,hU,by omega,by omega,hB,rfl⟩
  walk_at "WP";refine lX (xs:=U.map uV) (f9 hn4) aE BP ?_;have G5:Gr st p (s4++[Cell.lst []]):=G4.app;have hn5:(s4++[Cell.lst []])[s2.length]?=some (.lst (U.map uV)):=f9 hn4;generalize s4++[Cell.lst []]=s5 at G5 hn5;rcases vX U with hU0|⟨Y,c,hU0⟩
  ·rw[QC (by rw[hU0];decide)];exact fin u s5 G5 hn5 (fun _=>ap) bd
  rw[QA (by rw[hU0];simp)];refine⟨p,4,rfl,G5.pot,by decide,by decide,fun w s6 w0 w1 g6=>?_⟩;have G6:=G5.trans g6;have hn6:=g6.get hn5 nne;have em:(Y++[c]).map uV=Y.map uV++[uV c]:=by simp
  have hn7:s6[s2.length]?=some (.lst (Y.map uV++[uV c])):=by rw[hn6,hU0,em]
  walk_at "WP";by_cases q1:w=0
  ·rw[QA q1];refine⟨_,ao hn7,_,dZ,?_⟩;walk_at "WP";refine⟨NU,?_⟩;generalize lit:(1000000000:Int)=N9;refine D0 (fun q2=>?_) fun q2=>?_
   ·refine⟨_,ao hn7,_,dZ,?_⟩;walk_at "WP";refine⟨NU,?_⟩;refine D0 (fun q3=>?_) fun q3=>?_
    ·rw[hU0] at hU;obtain⟨c1,c2,c3⟩:=xT hU;refine⟨p,_,Y,c,rfl,G6.pot,nne,by rw[hn7,em],by omega,by omega,c1,c3,by rw[hU0] at hl;simp at hl;omega,fun u' s7 u1 u2 u3 ub g7=>?_⟩;walk_at "WP";refine fin u' s7 (G6.trans g7) (g7.get hn6 nne) (fun q=>⟨fun e=>by rw[hU0] at e;simp at e,fun v hv=>?_⟩) (ub.mono (TY _ _));rw[hU0] at hv;simp at hv;subst hv;exact⟨u1,u2,u3,q⟩
    ·exact fin u s6 G6 hn6 (fun _=>ap) bd
   ·exact fin u s6 G6 hn6 (fun _=>ap) bd
  ·rw[QC q1];exact fin u s6 G6 hn6 (fun _=>ap) bd
 ·rintro ρ s ⟨U,a,b,g,hn,hU,hl,him,hB,rfl⟩;refine⟨trivial,?_⟩;walk_at "WP";have hl':(dH 0 (j:Int).toNat).length=j:=by simp[dH]
  rw[hl'] at hl him;exact .inl (k _ U _ g n1 hn hU (by omega) fun u hu=>by have:=hB u hu;omega)
theorem Rt.at_:∀ {r:List Pc}{b hh:Rat}{i:Nat}{p:Pc},Rt b hh r->r[i]?=some p->p.Ok/\p.L<=p.H/\p.E<=p.H/\b<p.E/\hh<=p.L
 | q::r,b,hh,0,p,⟨h1,h2,h3,h4,h5,h6⟩,e=>by cases e;exact⟨h1,h4,h5,h2,h3⟩
 | q::r,b,hh,i+1,p,⟨h1,h2,h3,h4,h5,h6⟩,e=>by obtain⟨k1,k2,k3,k4,k5⟩:=h6.at_ (i:=i) (by simpa using e);exact⟨k1,k2,k3,by grind,by grind⟩
theorem Rt.two:∀ {r:List Pc}{b hh:Rat}{i:Nat}{q p:Pc},Rt b hh r->r[i]?=some q->r[i+1]?=some p->q.E<p.E/\q.H<=p.L
 | a::r,b,hh,0,q,p,⟨h1,h2,h3,h4,h5,h6⟩,e1,e2=>by cases e1;have:=h6.at_ (i:=0) (by simpa using e2);exact⟨this.2.2.2.1,this.2.2.2.2⟩
 | a::r,b,hh,i+1,q,p,⟨h1,h2,h3,h4,h5,h6⟩,e1,e2=>h6.two (i:=i) (by simpa using e1) (by simpa using e2)
theorem RtF.at_ {i:Nat}(h:RtF L)(e:L[i]?=some p):p.Ok/\p.L<=p.H/\p.E<=p.H:=by
 cases L with
 | nil=>simp at e
 | cons a r =>
  cases i with
  | zero=>cases e;exact⟨h.1,h.2.1,h.2.2.1⟩
  | succ i =>obtain⟨k1,k2,k3,k4,k5⟩:=h.2.2.2.2.at_ (i:=i) (by simpa using e);exact⟨k1,k2,k3⟩
theorem RtF.two {i:Nat}(h:RtF L)(e1:L[i]?=some q)(e2:L[i+1]?=some p):q.E<p.E/\q.H<=p.L:=by
 cases L with
 | nil=>simp at e1
 | cons a r =>
  cases i with
  | zero =>cases e1;obtain⟨k1,k2,k3,k4,k5⟩:=h.2.2.2.2.at_ (i:=0) (by simpa using e2);exact⟨k4,k5⟩
  | succ i=>exact h.2.2.2.2.two (i:=i) (by simpa using e1) (by simpa using e2)
noncomputable def bg (L:List Pc):Nat->Nat × Nat
 | 0=>(0,1)
 | i+1=>((L[i]?).map Pc.e).getD (0,1)
noncomputable def hg (L:List Pc):Nat->Nat × Nat
 | 0=>(0,1)
 | i+1=>((L[i]?).map Pc.h).getD (0,1)
theorem Mx (hp:Sz j p)(hq:Sz j q)(h:val q<=val p):decide (p.1*q.2<q.1*p.2)=false:=QJ fun z=>by have:=(dm hp.pos hq.pos).mp z;grind
theorem NG.at_:∀ {L:List Pc}{b:Nat × Nat}{i:Nat}{a p:Pc},NG b L->L[i]?=some a->L[i+1]?=some p->gB (if i=0 then b else bg L i) a p=false
 | [],_,_,_,_,_,e,_=>by simp at e
 | [_],_,i,_,_,_,_,e=>by simp at e
 | x::y::r,b,0,a,p,h,e1,e2=>by cases e1;cases e2;exact h.1
 | x::y::r,b,i+1,a,p,h,e1,e2=>by
  have:=h.2.at_ (i:=i) (by simpa using e1) (by simpa using e2);rw[QC (by omega)];cases i with
  | zero=>simpa[bg] using this
  | succ i=>rw[QC (by omega)] at this;simpa[bg] using this
theorem bg0:(if i=0 then (0,1) else bg L i)=bg L i:=by
 cases i with
 | zero=>rfl
 | succ i=>rw[QC (by omega)]
theorem bgS {L:List Pc}{i:Nat}(h:L[i]?=some q):bg L (i+1)=q.e:=by show ((L[i]?).map Pc.e).getD (0,1)=_;rw[h];rfl
theorem nb {i:Nat}(hR:RtF L)(hq:L[i]?=some q):Cop (bg L i)/\val (bg L i)<=q.E/\(val (bg L i)=q.E->q.L=q.H)/\(i≠0->val (bg L i)<q.E):=by
 obtain⟨qok,q1,q2⟩:=hR.at_ hq;cases i with
 | zero =>
  refine⟨AA,?_,?_,fun z=>absurd rfl z⟩
  ·show val (0,1)<=_;rw[val_nought];exact gD qok.e.pos
  ·show val (0,1)=_->_;rw[val_nought];cases L with
   | nil=>simp at hq
   | cons a r=>cases hq;exact hR.2.2.2.1
 | succ i =>have il:=(P8.mp hq).1;have ha:L[i]?=some L[i]:=P9 (by omega);obtain⟨k1,k2⟩:=hR.two ha hq;rw[bgS ha];exact⟨(hR.at_ ha).1.e,RR k1,fun z=>absurd z (by grind),fun _=>k1⟩
theorem bgZ {i:Nat}(hz:SzL k L)(h:i<=L.length)(h1:1<=k):Sz k (bg L i):=by
 cases i with
 | zero=>exact(⟨U3 (by decide),TH (by omega),by decide⟩:Sz k (0,1))
 | succ i =>have ha:L[i]?=some L[i]:=P9 (by omega);rw[bgS ha];exact(hz _ (P_ ha)).e
theorem Hw (hp:Sz j p)(hq:Sz k q)(h:val q<val p):0<(bF p q).1:=by refine(pY (en hp.pos hq.pos).pos).mpr ?_;rw[gg hp.pos hq.pos (RR h)];grind
theorem yK {i:Nat}(h:(dH 1 m)[i]?=some v):v=.int (1+(i:Int))/\i<m:=by
 unfold dH at h;rw[QK] at h;have hi:i<m:=by
  by_cases hi:i<m
  ·exact hi
  ·rw[RW (by simp;omega)] at h;cases h
 rw[SI hi] at h;cases h;exact⟨rfl,hi⟩
def IlI (s0:AH)(nb:Nat)(L:List Pc)(ρ:Fr)(s:AH):Prop:=∃g a b c d,s=s0++g/\ρ=[some (bf L),some (.ref nb),a,b,c,d]
def IrI (s0:AH)(nb nr:Nat)(L:List Pc)(k:Nat)(R:List (Nat × Nat))(j:Nat)(ρ:Fr)(s:AH):Prop:=∃g a b,s=s0++.lst ((R.take j).map fr)::g/\nr=s0.length/\ρ=[some (bf L),some (.ref nb),some (.int k),some (.ref nr),a,b]
theorem vY:(bf X).bel n=true:=by
 refine PV.bel_le (Q8 _) ?_;rw[PV.bel]
 induction X with
 | nil=>rw[SF,PV.bels]
 | cons x xs ih=>rw[QN,PV.bels,ih];rfl
theorem cI:aY 4 (bf X)=true:=CL fun v hv=>by obtain⟨p,_,rfl⟩:=QQ.mp hv;rfl
theorem l' {M:List PV}:PV.same (.tup M) (.tup [])=M.isEmpty:=by cases M <;> simp[PV.same,PV.sames]
theorem RU.rt {d:Nat}(h0:0<d):∀ {U:List Un3}{b hh:Nat},RU b hh U->Rt ((b:Rat)/d) ((hh:Rat)/d) (U.map (u5 d))
 | [],_,_,_=>trivial
 | u::r,b,hh,⟨h1,h2,h3,h4,h5⟩=>by
  have dp:=cb h0;have lt:∀ {x y:Nat},x<y->(x:Rat)/d<(y:Rat)/d:=fun h=>by
   rw[UF dp];have e:∀y:Rat,y/d*d=y:=fun y=>by grind
   rw[e];exact TV.mpr h
  have le:∀ {x y:Nat},x<=y->(x:Rat)/d<=(y:Rat)/d:=fun {x y} h=>by
   by_cases e:x=y
   ·rw[e];exact SX
   ·exact RR (lt (by omega))
  have ih:=RU.rt h0 h5;refine⟨⟨.low h0,.low h0,.low h0⟩,?_,?_,?_,?_,?_⟩
  ·show _<val (cj u.1 d);rw[aU h0];exact lt h1
  ·show _<=val (cj u.2.1 d);rw[aU h0];exact le h2
  ·show val (cj u.2.1 d)<=val (cj u.2.2 d);rw[aU h0,aU h0];exact le h3
  ·show val (cj u.1 d)<=val (cj u.2.2 d);rw[aU h0,aU h0];exact le h4
  ·show Rt (val (cj u.1 d)) (val (cj u.2.2 d)) _;rw[aU h0,aU h0];exact ih
theorem RUF.rt {d:Nat}(h0:0<d)(h:RUF U):RtF (U.map (u5 d)):=by
 cases U with
 | nil=>trivial
 | cons u r =>
  obtain⟨h1,h2,h3,h4⟩:=h;have dp:=cb h0;have le:∀ {x y:Nat},x<=y->(x:Rat)/d<=(y:Rat)/d:=fun {x y} h=>by
   rw[<-SA,UF dp];have e:∀y:Rat,y/d*d=y:=fun y=>by grind
   rw[e,SA];exact Rat.natCast_le_natCast.mpr h
  refine⟨⟨.low h0,.low h0,.low h0⟩,?_,?_,?_,?_⟩
  ·show val (cj u.2.1 d)<=val (cj u.2.2 d);rw[aU h0,aU h0];exact le h1
  ·show val (cj u.1 d)<=val (cj u.2.2 d);rw[aU h0,aU h0];exact le h2
  ·show 0=val (cj u.1 d)->val (cj u.2.1 d)=val (cj u.2.2 d);rw[aU h0,aU h0,aU h0];intro z;have:u.1=0:=by
    have e:(u.1:Rat)=0:=by grind
    exact Rat.natCast_eq_zero_iff.mp e
   rw[h3 this]
  ·show Rt (val (cj u.1 d)) (val (cj u.2.2 d)) _;rw[aU h0,aU h0];exact h4.rt h0
theorem zK:∀ {r:List Pc}{b:Nat × Nat}{a:Pc},a.Sz k->SzL k r->SzL k (aS b a r)
 | [],b,a,ha,_=>fun p hp=>by rw[aS,QI] at hp;rw[hp];exact ha
 | q::r,b,a,ha,hr=>by
  have hq:=hr q (by simp);have hr':SzL k r:=fun p hp=>hr p (by simp[hp]);rw[aS];by_cases g:gB b a q=true
  ·rw[QA g];exact zK (a:=a.mg q) ⟨hq.e,ha.l,hq.h⟩ hr'
  ·rw[QC g];intro p hp;rcases QZ.mp hp with rfl|hp
   ·exact ha
   ·exact zK hq hr' p hp
theorem xa (h:SzL k L):SzL k (eF L):=by
 cases L with
 | nil=>exact h
 | cons a r=>exact zK (h a (by simp)) fun p hp=>h p (by simp[hp])
theorem zZ:∀ {r:List Pc}{b:Nat × Nat}{a:Pc},(aS b a r).length<=r.length+1
 | [],b,a=>P6 _
 | q::r,b,a=>by
  rw[aS];by_cases g:gB b a q=true
  ·rw[QA g];have:=zZ (r:=r) (b:=b) (a:=a.mg q);simp;omega
  ·rw[QC g];have:=zZ (r:=r) (b:=a.e) (a:=q);simp;omega
theorem ue {L:List Pc}:(eF L).length<=L.length:=by
 cases L with
 | nil=>exact P6 _
 | cons a r=>exact zZ
theorem yT (hL:wg L){as st Q}(q:Hd a L as st Q):aw (ΓL Γ a L) ij (frame 5 as) st (ag st Q):=by
 obtain⟨xs,g,rfl,hl,hg,q⟩:=q;unfold ij;walk_at "WP";refine l6 (Be Γm hL) (fun m ρ s=>∃(lo hi:Nat) (c:Option PV),ρ=[some (.tup xs),some (.fn a),some (.int lo),some (.int hi),c]/\s=st/\hi<=xs.length/\m=hi-lo/\∃n,m<=n/\bsr g xs=sG g xs n lo hi) (n:=xs.length-0) ⟨0,xs.length,none,rfl,rfl,P6 _,rfl,xs.length,P6 _,rfl⟩ ?_;rintro m ρ s ⟨lo,hi,c,rfl,rfl,hh,rfl,n,hn,hb⟩;walk_at "WP";by_cases h:lo<hi
 ·have h':(lo:Int)<hi:=by omega
  rw[QA (by simpa using h')];have e:((lo:Int)+hi)/2=((lo+hi)/2:Nat):=by omega
  rw[e];have hm:(lo+hi)/2<xs.length:=by omega
  have ha:atI xs (((lo+hi)/2:Nat):Int)=some xs[(lo+hi)/2]:=de (P9 hm);cases n with
  | zero=>omega
  | succ n =>
   rw[sG,QA h] at hb;have hd:xs.getD ((lo+hi)/2) .non=xs[(lo+hi)/2]:=by simp[List.getD_eq_getElem?_getD,hm]
   rw[hd] at hb;refine⟨CBig.of (by decide) (by decide),a,rfl,_,ha,?_⟩;rw[JG];refine⟨_,rfl,hg _ (UP hm) _ ?_⟩;cases hz:g xs[(lo+hi)/2] with
   | true =>rw[hz,QA rfl] at hb;simp only[hz,fu,if_true];exact⟨hi-((lo+hi)/2+1),by omega,(lo+hi)/2+1,by omega,hi,rfl,trivial,hh,rfl,n,by omega,hb⟩
   | false =>rw[hz,QC P5] at hb;simp only[hz,fu,Bool.false_eq_true,if_false];exact⟨(lo+hi)/2-lo,by omega,lo,rfl,(lo+hi)/2,rfl,trivial,by omega,rfl,n,by omega,hb⟩
 ·have h':¬(lo:Int)<hi:=by omega
  rw[QC (by simpa using h')];have:sG g xs n lo hi=lo:=by
   cases n with
   | zero=>rfl
   | succ n=>rw[sG,QC h]
  rw[this] at hb;rw[hb] at q;exact .inl q
theorem vI {t:Rat}(hR:RtF L):∀ {i:Nat},i<=L.length->(i=0\/val (bg L i)<t)->cm 0 L t=cm (val (bg L i)) (L.drop i) t
 | 0,_,_=>by show _=cm (val (0,1)) (L.drop 0) t;rw[val_nought,R8]
 | i+1,hi,h=>by
  have ha:L[i]?=some L[i]:=P9 (by omega);have h':val (bg L (i+1))<t:=h.resolve_left (by omega);rw[bgS ha] at h' |-
  obtain⟨n1,n2,n3,n4⟩:=nb hR ha;rw[vI hR (i:=i) (by omega) (by grind),RV (show i<L.length by omega)];rw[cm,QC (show ¬t<=(L[i]).E by grind)]
theorem oz:bgx L i=bg L i:=by cases i <;> rfl
theorem yc {as st Q}(h:cX as st Q):aw Γ gI (frame 2 as) st (ag st Q):=by obtain⟨p,q,rfl,hp,hq,k⟩:=h;unfold gI;walk_at "WP";exact⟨fE hp.a hq.b,fE hq.a hp.b,.inl k⟩
theorem Ad {as st Q}(h:a8 as st Q):aw Γ iE (frame 2 as) st (ag st Q):=by obtain⟨p,q,rfl,hp,hq,k⟩:=h;unfold iE;walk_at "WP";refine⟨fE hp.a hq.b,fE hq.a hp.b,?_⟩;rw[<-QW,<-QW];simp only[Int.ofNat_lt];exact .inl k
theorem ky {p:Nat × Nat}(h:0<p.2):(p.1:Rat)=val p*(p.2:Rat):=by
 have:(p.2:Rat)≠0:=by simpa using Nat.pos_iff_ne_zero.mp h
 unfold val;grind
theorem GW {N Y F G X c:Rat}(hc:c≠0)(h:N<F):(c*(Y*(F-X)+G*(X-N)))/(c*(F-N))=Y+(G-Y)*((X-N)/(F-N)):=by
 have:F-N≠0:=by grind
 grind
theorem Cj {as st Q}(h:eQ as st Q):aw Γ i5 (frame 1 as) st (ag st Q):=by obtain⟨v,rfl,k⟩:=h;unfold i5;walk_at "WP";exact .inl k
theorem sg {as st Q}(h:bL as st Q):aw Γ dU (frame 2 as) st (ag st Q):=by
 obtain⟨L,i,rfl,hi,k⟩:=h;unfold dU;walk_at "WP";cases i with
 | zero=>rw[QA (by rfl)];exact .inl k
 | succ i =>
  rw[QC (by omega)];have ha:L[i]?=some L[i]:=P9 (by omega);have e:((i+1:Nat):Int)-1=(i:Int):=by omega
  rw[e];refine⟨pcV L[i],de (by rw[QK,ha];rfl),?_⟩;walk_at "WP";rw[oz,bgS ha] at k;exact .inl k
theorem tu {as st Q}(h:bS as st Q):aw Γ eX (frame 10 as) st (ag st Q):=by
 obtain⟨j,m,nx,ny,fx,fy,x,rfl,⟨j1,j2⟩,⟨z1,z2,z3,z4,z5⟩,⟨v1,v2,v3⟩,k⟩:=h;unfold eX;walk_at "WP";have hD:nx.1*x.2<=x.1*nx.2:=(jf z1.pos z5.pos).mpr v2;have hE:x.1*fx.2<=fx.1*x.2:=(jf z5.pos z3.pos).mpr v3;have cD:(x.1:Int)*nx.2-nx.1*x.2=((x.1*nx.2-nx.1*x.2:Nat):Int):=by rw[T7 hD,QW,QW]
 have cE:(fx.1:Int)*x.2-x.1*fx.2=((fx.1*x.2-x.1*fx.2:Nat):Int):=by rw[T7 hE,QW,QW]
 refine⟨_,_,rfl,z5.mono (by omega),z1.mono (by omega),?_⟩;rw[cD];walk_at "WP";refine⟨?_,_,_,rfl,z3.mono (by omega),z5.mono (by omega),?_⟩
 rotate_left
 rw[cE];walk_at "WP";simp only[<-Int.natCast_mul,<-Int.natCast_add];generalize hDd:x.1*nx.2-nx.1*x.2=D;generalize hEe:fx.1*x.2-x.1*fx.2=E;have p1:=cb z1.pos;have p2:=cb z2.pos;have p3:=cb z3.pos;have p4:=cb z4.pos;have p5:=cb z5.pos;have qD:(D:Rat)=(val x-val nx)*(x.2*nx.2):=by have:=Q0 (fun k:Nat=>(k:Rat)) (UG hD);rw[hDd] at this;simp only[Rat.natCast_add,Rat.natCast_mul] at this;rw[ky z1.pos,ky z5.pos] at this;grind
 have qE:(E:Rat)=(val fx-val x)*(fx.2*x.2):=by have:=Q0 (fun k:Nat=>(k:Rat)) (UG hE);rw[hEe] at this;simp only[Rat.natCast_add,Rat.natCast_mul] at this;rw[ky z3.pos,ky z5.pos] at this;grind
 have bD:D<2 ^ (m+j):=by rw[<-hDd];exact Q3 (VB _ _) (eC z5.a z1.b)
 have bE:E<2 ^ (j+m):=by rw[<-hEe];exact Q3 (VB _ _) (eC z3.a z5.b)
 have b1:D*fx.2<2 ^ (m+j+j):=eC bD z3.b;have b2:E*nx.2<2 ^ (m+j+j):=by
  have:=eC bE z1.b
  rwa [U5 j m] at this
 have a1:ny.1*fy.2<2 ^ (j+j):=eC z2.a z4.b;have a2:fy.1*ny.2<2 ^ (j+j):=eC z4.a z2.b;have a3:ny.2*fy.2<2 ^ (j+j):=eC z2.b z4.b;have b3:E*nx.2+D*fx.2<2 ^ (m+j+j+1):=by
  have:(2:Nat) ^ (m+j+j+1)=2 ^ (m+j+j)+2 ^ (m+j+j):=by rw[UA];omega
  omega
 have c1:=eC a1 b2;have c2:=eC a2 b1;have c3:=eC a3 b3;have c4:ny.1*fy.2*(E*nx.2)+fy.1*ny.2*(D*fx.2)<2 ^ (m+4*j+2):=by
  have h1:(2:Nat) ^ (j+j+(m+j+j))+2 ^ (j+j+(m+j+j))<=2 ^ (m+4*j+2):=by have e:2 ^ (j+j+(m+j+j)+1)<=2 ^ (m+4*j+2):=dS (by omega);rw[UA] at e;omega
  omega
 have up:∀ {a j:Nat},a<2 ^ j->j<=3000->a<2 ^ 3000:=fun h hj=>P7 h (dS hj);have dpos:0<E*nx.2+D*fx.2:=by
  refine Nat.pos_of_ne_zero fun z=>?_;have e:((E*nx.2+D*fx.2:Nat):Rat)=0:=by rw[z];rfl
  simp only[Rat.natCast_add,Rat.natCast_mul] at e;rw[qD,qE] at e;have:(val fx-val nx)*((fx.2:Rat)*x.2*nx.2)=0:=by grind
  have w:0<(val fx-val nx)*((fx.2:Rat)*x.2*nx.2):=TM (by grind) (TM (TM p3 p5) p1);grind
 have hpos:=RM (RM z2.pos z4.pos) dpos;refine⟨fE (up bE (by omega)) (up z1.b (by omega)),fE (up z2.a (by omega)) (up z4.b (by omega)),fE (up a1 (by omega)) (up b2 (by omega)),fE (up z4.a (by omega)) (up z2.b (by omega)),fE (up a2 (by omega)) (up b1 (by omega)),fE (up z2.b (by omega)) (up z4.b (by omega)),fE (up a3 (by omega)) (up b3 (by omega)),
  _,_,rfl,hpos,P7 c3 (dS (by omega)),.inl ?_⟩
 rw[uN];refine k _ ⟨fo hpos,xF hpos⟩ ⟨Q3 (q_ _ _) c4,Q3 (sk _ _) (P7 c3 (dS (by omega))),fo hpos⟩ ?_;rw[aU hpos];simp only[Rat.natCast_add,Rat.natCast_mul];rw[qD,qE,ky z2.pos,ky z4.pos];have hc:(ny.2:Rat)*fy.2*fx.2*x.2*nx.2≠0:=by have:=TM (TM (TM (TM p2 p4) p3) p5) p1;grind
 rw[<-GW (Y:=val ny) (G:=val fy) (X:=val x) hc v1];congr 1 <;> grind
 exact fE (P7 (Q3 (VB _ _) (eC z5.a z1.b)) (dS (by omega))) (P7 z3.b (dS (by omega)))
theorem MX {i:Nat}{t:Rat}(hR:RtF L)(hp:L[i]?=some p)(hb:i=0\/val (bg L i)<t)(ht:t<=p.E):cm 0 L t=some (if val (bg L i)=p.E then p.L else p.L+(p.H-p.L)*((t-val (bg L i))/(p.E-val (bg L i)))):=by have il:=(P8.mp hp).1;rw[vI hR (Q_ il) hb,RV il,(P8.mp hp).2,cm,QA ht]
theorem Di {as st Q}(h:gq as st Q):aw Γ jN (frame 6 as) st (ag st Q):=by
 obtain⟨j,m,L,i,p,t,rfl,⟨j1,j2⟩,hR,hz,hp,ct,zt,bt,ht,k⟩:=h;rw[oz] at bt k;unfold jN;walk_at "WP";have il:=(P8.mp hp).1;have pz:=hz p (P_ hp);obtain⟨pok,p1,p2⟩:=hR.at_ hp;obtain⟨n1,n2,n3,n4⟩:=nb hR hp;have bz:Sz j (bg L i):=bgZ hz (by omega) j1;refine⟨pcV p,de (by rw[QK,hp];rfl),?_⟩;walk_at "WP";refine ji ?_;by_cases q:t=p.e
 ·rw[QM q,QA rfl];refine .inl (k p.h pok.h (pz.h.mono (by omega)) ?_);rw[q];by_cases z:val (bg L i)=p.E
  ·rw[QA z];exact(n3 z).symm
  ·rw[QC z];have:val p.e-val (bg L i)≠0:=by grind
   grind
 ·rw[QJ q,QC P5];have lt:val t<p.E:=by have:val t≠p.E:=fun z=>q (hJ ct pok.e z);grind
  refine⟨L,i,rfl,by omega,?_⟩;rw[oz];walk_at "WP";refine⟨j,m,_,_,_,_,_,rfl,⟨j1,j2⟩,⟨bz,pz.l,pz.e,pz.h,zt⟩,⟨by grind,bt,ht⟩,fun r cr sr vr=>.inl (k r cr sr ?_)⟩;rw[QC (by grind),vr]
noncomputable def gCo (t:Nat × Nat):PV->Bool
 | .tup (.tup [.int a,.int b]::_)=>decide (a.toNat*t.2<t.1*b.toNat)
 | _=>false
theorem Ch.cut {t:Rat}:∀ {L:List Pc}{b:Rat},Ch b L->∃k,k<=L.length/\(∀(i:Nat) p,L[i]?=some p->i<k->p.E<t)/\∀(i:Nat) p,L[i]?=some p->k<=i->t<=p.E
 | [],b,_=>⟨0,P6 _,fun i p e=>by simp at e,fun i p e=>by simp at e⟩
 | p::r,b,⟨h1,h2,h3,h4⟩=>by
  by_cases q:t<=p.E
  ·refine⟨0,Q8 _,fun i p _ h=>absurd h (RS _),fun i p' e _=>?_⟩;cases i with
   | zero=>cases e;exact q
   | succ i =>
    have:∀ {r:List Pc}{b:Rat}{i:Nat}{p':Pc},Ch b r->r[i]?=some p'->b<p'.E:=by
     intro r
     induction r with
     | nil=>intro b i p' _ e;simp at e
     | cons a r ih =>
      intro b i p' ⟨g1,g2,g3,g4⟩ e;cases i with
      | zero=>cases e;exact g2
      | succ i=>have:=ih g4 (by simpa using e);grind
    have:=this h4 (by simpa using e);grind
  ·obtain⟨k,k1,k2,k3⟩:=h4.cut (t:=t);refine⟨k+1,by simp;omega,fun i p' e h=>?_,fun i p' e h=>?_⟩
   ·cases i with
    | zero=>cases e;grind
    | succ i=>exact k2 i p' (by simpa using e) (by omega)
   ·cases i with
    | zero=>omega
    | succ i=>exact k3 i p' (by simpa using e) (by omega)
theorem RtF.cut {t:Rat}(h:RtF L):∃k,k<=L.length/\(∀(i:Nat) p,L[i]?=some p->i<k->p.E<t)/\∀(i:Nat) p,L[i]?=some p->k<=i->t<=p.E:=by
 cases L with
 | nil=>exact⟨0,P6 _,fun i p e=>by simp at e,fun i p e=>by simp at e⟩
 | cons a r=>exact Ch.cut (b:=a.E-1) ⟨h.1,by grind,h.2.1,h.2.2.2.2.ch⟩
theorem Ec {as st Q}(h:iP as st Q):aw Γ jF (frame 3 as) st (ag st Q):=by
 obtain⟨j,m,L,t,rfl,⟨j1,j2⟩,hR,hz,ct,tz,hl,k⟩:=h;unfold jF;walk_at "WP";obtain⟨n,n1,n2,n3⟩:=hR.cut (t:=val t);have hbg:n=0\/val (bg L n)<val t:=by
  cases n with
  | zero=>exact .inl rfl
  | succ n =>have ha:L[n]?=some L[n]:=P9 (by omega);rw[bgS ha];exact .inr (n2 n _ ha (by omega))
 have hg:∀(i:Nat) p,L[i]?=some p->gCo t ((L.map pcV).getD i .non)=decide (p.e.1*t.2<t.1*p.e.2):=fun i p e=>by rw[R_,QK,e];rfl
 have hb:bsr (gCo t) (L.map pcV)=n:=by
  refine yD (by simpa using n1) (fun i hi=>?_) (fun i h1 h2=>?_)
  ·have ha:L[i]?=some L[i]:=P9 (by omega);rw[hg i _ ha];exact QM ((dm (hz _ (P_ ha)).e.pos ct.pos).mpr (n2 i _ ha hi))
  ·have h3:i<L.length:=by simpa using h2
   have ha:L[i]?=some L[i]:=P9 h3;rw[hg i _ ha];refine QJ fun z=>?_;have:=(dm (hz _ (P_ ha)).e.pos ct.pos).mp z;have:=n3 i _ ha h1;grind
 refine⟨by simp;omega,fun i hi=>?_,gCo t,fun y hy Q' q=>?_,?_⟩
 ·rw[QI] at hi;subst hi;exact⟨fr t,rfl,by simp[PV.bel,PV.bels]⟩
 ·obtain⟨p,hp,rfl⟩:=QQ.mp hy;walk_at "WP";exact⟨_,_,rfl,(hz p hp).e.mono (by omega),tz.mono (by omega),q⟩
 ·rw[hb,QO];by_cases e:n=L.length
  ·rw[QA (by rw[e])];refine .inl (k none (fun z hz=>nomatch hz) ?_);rw[vI hR (US e) hbg,e,T1];rfl
  ·rw[QC (by omega)];have ha:L[n]?=some L[n]:=P9 (by omega);have bt:val (bg L n)<=val t:=by
    rcases hbg with rfl|hb
    ·show val (0,1)<=_;rw[val_nought];exact gD ct.pos
    ·exact RR hb
   refine⟨j,m,L,n,_,t,rfl,⟨j1,j2⟩,hR,hz,ha,ct,tz,by rw[oz];exact bt,n3 n _ ha (P6 _),fun r cr sr hc=>.inl (k (some r) (fun z hz=>by cases hz;exact⟨cr,sr⟩) ?_)⟩;rw[MX hR ha hbg (n3 n _ ha (P6 _)),TF,hc,oz]
theorem vd (h:bW st v=some n):(bH "tuple" n=true/\∃xs,v=.tup xs)\/(bH "tuple" n=false/\∀xs,v≠.tup xs):=by
 cases v with
 | tup xs=>cases h;exact .inl ⟨by decide,xs,rfl⟩
 | ref k =>unfold bW at h;simp only at h;split at h <;> cases h <;> exact .inr ⟨by decide,fun xs e=>nomatch e⟩
 | fn _=>cases h
 | _=>cases h;exact .inr ⟨by decide,fun xs e=>nomatch e⟩
theorem xI {xs:List PV}(h:xs.length=3):∃x y z,xs=[x,y,z]:=by
 match xs,h with
 | [x,y,z],_=>exact⟨x,y,z,rfl⟩
theorem Bn {xs:List PV}(h:xs.length≠3):pcP (.tup xs)=none:=by
 match xs,h with
 | [],_=>rfl
 | [_],_=>rfl
 | [_,_],_=>rfl
 | [_,_,_],h=>exact absurd rfl h
 | _::_::_::_::_,_=>rfl
theorem Bl (h:∀xs,v≠.tup xs):pcP v=none:=by
 cases v with
 | tup xs=>exact absurd rfl (h xs)
 | _=>rfl
theorem ur (h:∀xs,v≠.tup xs):jw v=none:=by
 cases v with
 | tup xs=>exact absurd rfl (h xs)
 | _=>rfl
theorem kz (h:jw v=none):js v=false:=by unfold js;rw[h]
theorem uk {L:List Pc}(h:∀p∈L,p.Ok):js (bf L)=iA L:=by unfold js;rw[iK h]
theorem tR {a:PV}:(pcP (.tup [a,b,c])).isSome=(bP a && (bP b && bP c)):=by rw[<-zM,<-zM,<-zM];show ((frP a).bind fun x=>(frP b).bind fun y=>(frP c).map fun z=>(⟨x,y,z⟩:Pc)).isSome=_;cases frP a <;> cases frP b <;> cases frP c <;> rfl
theorem up6 (h:Sz 600 p):Sz 3000 p:=h.mono (by decide)
theorem zJ {as st Q}(h:dN as st Q):aw Γ iq (frame 1 as) st (ag st Q):=by
 obtain⟨v,rfl,hb,k⟩:=h;obtain⟨n,hn⟩:=bo hb;unfold iq;walk_at "WP";refine⟨n,hn,?_⟩;rcases vd hn with⟨e,xs,rfl⟩|⟨e,hx⟩
 ·rw[QA e];walk_at "WP";by_cases hl:xs.length=3
  ·obtain⟨a,b,c,rfl⟩:=xI hl;rw[QA (show ((([a,b,c]:List PV).length:Nat):Int)=3 from rfl)];refine⟨by simp,?_⟩;rw[PV.bel] at hb;refine FW.comp_map Γm (fun x=>.bl (bP x)) trivial (fun x hx=>?_) ?_
   ·walk_at "WP";exact⟨x,rfl,kb hb hx,rfl,rfl⟩
   ·refine⟨_,au aE,_,eJ (f:=bP),.app rfl ?_⟩;rw[tR] at k;have:([a,b,c].map bP).all id=(bP a && (bP b && bP c)):=by simp
    rw[this];exact .inl k
  ·rw[QC (by omega)];rw[Bn hl] at k;exact .inl k
 ·rw[QC (by rw[e];decide)];rw[Bl hx] at k;exact .inl k
theorem nR {as st Q}(h:bb as st Q):aw Γ dq (frame 4 as) st (ag st Q):=by
 obtain⟨p,rfl,hz,k⟩:=h;unfold dq;walk_at "WP";refine⟨p.h,p.l,rfl,up6 hz.h,up6 hz.l,_,rfl,?_⟩;by_cases h1:p.h.1*p.l.2<p.l.1*p.h.2
 ·rw[QC (by rw[QM h1];decide)];refine .inl (k false ⟨fun z=>Bool.noConfusion z,fun z=>?_⟩);have:=(dm hz.h.pos hz.l.pos).mp h1;exact absurd z.1 (UH.mpr this)
 ·rw[QA (QJ h1)];refine⟨p.h,p.e,rfl,up6 hz.h,up6 hz.e,_,rfl,.inl (k _ ?_)⟩;rw[Bool.not_eq_true',decide_eq_false_iff_not,dm hz.h.pos hz.e.pos,SA];refine⟨fun z=>⟨?_,z⟩,fun z=>z.2⟩;rw[dm hz.h.pos hz.l.pos,SA] at h1;exact h1
theorem nO {as st Q}(h:a_ as st Q):aw Γ di (frame 4 as) st (ag st Q):=by
 obtain⟨p,rfl,ok,hz,k⟩:=h;unfold di;walk_at "WP";refine ji (q:=(0,1)) ?_;by_cases h1:p.e=(0,1)
 ·rw[QC (by rw[QM h1];decide)];refine ji (.inl (k _ ?_));rw[decide_eq_true_eq];refine⟨fun z _=>by unfold Pc.L Pc.H;rw[z],fun z=>hJ ok.l ok.h (z ?_)⟩;unfold Pc.E;rw[h1,val_nought]
 ·rw[QA (QJ h1)];refine .inl (k true ⟨fun _ z=>absurd (hJ ok.e AA ?_) h1,fun _=>rfl⟩);rw[val_nought];exact z.symm
theorem mC {as st Q}(h:aX as st Q):aw Γ cO (frame 2 as) st (ag st Q):=by
 obtain⟨a,p,rfl,ha,hp,k⟩:=h;unfold cO;walk_at "WP";refine⟨a.e,p.e,rfl,up6 ha.e,up6 hp.e,_,rfl,?_⟩;by_cases h1:a.e.1*p.e.2<p.e.1*a.e.2
 ·rw[QA (QM h1)];refine⟨p.l,a.h,rfl,up6 hp.l,up6 ha.h,_,rfl,.inl (k _ ?_)⟩;rw[Bool.not_eq_true',decide_eq_false_iff_not,dm hp.l.pos ha.h.pos,SA];exact⟨fun z=>⟨(dm ha.e.pos hp.e.pos).mp h1,z⟩,fun z=>z.2⟩
 ·rw[QC (by rw[QJ h1];decide)];refine .inl (k false ⟨fun z=>Bool.noConfusion z,fun z=>absurd ((dm ha.e.pos hp.e.pos).mpr z.1) h1⟩)
theorem Ji:∀ {r:List Pc}{a:Pc},(∀p∈r,p.Ok)->(∀p∈r,p.L<=p.H/\p.E<=p.H)->(∀(i:Nat) q p,(a::r)[i]?=some q->(a::r)[i+1]?=some p->q.E<p.E/\q.H<=p.L)->Rt a.E a.H r
 | [],a,_,_,_=>trivial
 | p::r,a,ok,h1,h3=>by obtain⟨k1,k2⟩:=h3 0 a p rfl rfl;obtain⟨k3,k4⟩:=h1 p QL;exact⟨ok p QL,k1,k2,k3,k4,Ji (fun q hq=>ok q (QD _ hq)) (fun q hq=>h1 q (QD _ hq)) fun i q p' e1 e2=>h3 (i+1) q p' (by simpa using e1) (by simpa using e2)⟩
theorem EJ {L:List Pc}(ok:∀p∈L,p.Ok)(h1:∀p∈L,p.L<=p.H/\p.E<=p.H)(h2:∀p,L[0]?=some p->0=p.E->p.L=p.H)(h3:∀(i:Nat) q p,L[i]?=some q->L[i+1]?=some p->q.E<p.E/\q.H<=p.L):RtF L:=by
 cases L with
 | nil=>trivial
 | cons a r =>obtain⟨k3,k4⟩:=h1 a QL;exact⟨ok a QL,k3,k4,h2 a rfl,Ji (fun q hq=>ok q (QD _ hq)) (fun q hq=>h1 q (QD _ hq)) h3⟩
theorem RtF.first (h:RtF L)(e:L[0]?=some p):0=p.E->p.L=p.H:=by
 cases L with
 | nil=>cases e
 | cons a r=>cases e;exact h.2.2.2.1
theorem VSz.row {L:List Pc}(ok:∀p∈L,p.Ok)(h:VSz (bf L)):SzL 600 L/\L.length<1000:=by obtain⟨h1,h2⟩:=h _ rfl;refine⟨fun p hp=>?_,by simpa using h1⟩;have h3:=h2 (pcV p) (QQ.mpr ⟨p,hp,rfl⟩) _ rfl;obtain⟨a1,a2⟩:=h3 (fr p.e) (by simp) _ _ rfl;obtain⟨b1,b2⟩:=h3 (fr p.l) (by simp) _ _ rfl;obtain⟨c1,c2⟩:=h3 (fr p.h) (by simp) _ _ rfl;obtain⟨o1,o2,o3⟩:=ok p hp;exact⟨⟨a1,a2,o1.pos⟩,⟨b1,b2,o2.pos⟩,⟨c1,c2,o3.pos⟩⟩
open Classical in
noncomputable def alP (x:PV):Bool :=
 match pcP x with
 | some p=>decide (p.L<=p.H/\p.E<=p.H)
 | none=>false
open Classical in
noncomputable def beP (x:PV):Bool :=
 match x with
 | .tup [x,y]=>(match pcP x,pcP y with
  | some a,some p=>decide (a.E<p.E/\a.H<=p.L)
  | _,_=>false)
 | _=>false
theorem y4 {p:Pc}(h:p.Ok):alP (pcV p)=true↔p.L<=p.H/\p.E<=p.H:=by unfold alP;rw[uS h];exact decide_eq_true_iff
theorem Am {a p:Pc}(ha:a.Ok)(hp:p.Ok):beP (.tup [pcV a,pcV p])=true↔a.E<p.E/\a.H<=p.L:=by unfold beP;simp only[uS ha,uS hp];exact decide_eq_true_iff
theorem kl {a b:Bool}{P:Prop}(h1:a=true↔P)(h2:b=true↔P):a=b:=SR.mpr (h1.trans h2.symm)
theorem jS {L:List Pc}{i:Nat}(h:(ig (L.map pcV) ((L.drop 1).map pcV))[i]?=some v):∃a p,L[i]?=some a/\L[i+1]?=some p/\v=.tup [pcV a,pcV p]:=by obtain⟨x,y,e1,e2,rfl⟩:=qY h;rw[QK] at e1 e2;obtain⟨a,ha,rfl⟩:=Q9.mp e1;obtain⟨p,hp,rfl⟩:=Q9.mp e2;rw[TJ] at hp;exact⟨a,p,ha,by rw[U5];exact hp,rfl⟩
theorem qa {L:List Pc}(ok:∀p∈L,p.Ok):((ig (L.map pcV) ((L.drop 1).map pcV)).map beP).all id=true↔∀(i:Nat) q p,L[i]?=some q->L[i+1]?=some p->q.E<p.E/\q.H<=p.L:=by
 rw[UU,SN];constructor
 ·intro h i q p e1 e2;have:(ig (L.map pcV) ((L.drop 1).map pcV))[i]?=some (.tup [pcV q,pcV p]):=by
   have hl:i<(ig (L.map pcV) ((L.drop 1).map pcV)).length:=by rw[nk];have:=(P8.mp e2).1;simp;omega
   obtain⟨a,b,h1,h2,h3⟩:=jS (P9 hl);rw[e1] at h1;rw[e2] at h2;cases h1;cases h2;rw[P9 hl,h3]
  exact(Am (ok q (P_ e1)) (ok p (P_ e2))).mp (h _ (P_ this))
 ·intro h v hv;obtain⟨i,hi⟩:=SG hv;obtain⟨a,p,h1,h2,rfl⟩:=jS hi;exact(Am (ok a (P_ h1)) (ok p (P_ h2))).mpr (h i a p h1 h2)
open Classical in
theorem ma {c:Bool}(h:c=true↔RtF L):c=iA L:=by unfold iA;exact kl h decide_eq_true_iff
theorem DX {as st Q}(h:gk as st Q):aw Γ jV (frame 1 as) st (ag st Q):=by
 obtain⟨v,rfl,hb,hz,k⟩:=h;obtain⟨n,hn⟩:=bo hb;unfold jV;walk_at "WP";refine⟨n,hn,?_⟩;rcases vd hn with⟨e,xs,rfl⟩|⟨e,hx⟩
 case inr =>rw[QA e];rw[kz (ur hx)] at k;exact .inl k
 rw[QC (by rw[e];decide)];obtain⟨lx,_⟩:=hz xs rfl;have hb':=hb;rw[PV.bel] at hb';refine⟨xs,rfl,by omega,?_⟩;refine FW.comp_map Γm (fun x=>.bl (pcP x).isSome) trivial (fun x hx=>?_) ?_
 ·walk_at "WP";exact⟨x,rfl,kb hb' hx,rfl,rfl⟩
 refine⟨_,au aE,_,eJ (f:=fun x=>(pcP x).isSome),.app rfl ?_⟩;have ea:(xs.map fun x=>(pcP x).isSome).all id=(jw (.tup xs)).isSome:=by rw[UU];exact kA
 rw[ea];walk_at "WP";cases hr:jw (.tup xs) with
 | none =>rw[kz hr] at k;exact .inl k
 | some L =>
  obtain⟨ev,ok⟩:=lB hr;obtain rfl:xs=L.map pcV:=by cases ev;rfl
  obtain⟨sz,ll⟩:=hz.row ok;rw[uk ok] at k;rw[QC (by simp)];refine⟨by simp;omega,?_⟩;refine FW.comp_map Γm (fun x=>.bl (alP x)) trivial (fun x hx=>?_) ?_
  ·obtain⟨p,hp,rfl⟩:=QQ.mp hx;walk_at "WP";exact⟨p,rfl,sz p hp,fun c hc=>⟨Q0 PV.bl (kl hc (y4 (ok p hp))),rfl⟩⟩
  refine⟨_,au aE,_,eJ (f:=alP),.app rfl ?_⟩;have e1:((L.map pcV).map alP).all id=true↔∀p∈L,p.L<=p.H/\p.E<=p.H:=by
   rw[UU,SN];constructor
   ·intro h p hp;exact(y4 (ok p hp)).mp (h _ (QQ.mpr ⟨p,hp,rfl⟩))
   ·intro h v hv;obtain⟨p,hp,rfl⟩:=QQ.mp hv;exact(y4 (ok p hp)).mpr (h p hp)
  walk_at "WP";cases c1:((L.map pcV).map alP).all id with
  | false =>
   rw[QA rfl];have:false=iA L:=ma ⟨fun z=>Bool.noConfusion z,fun z=>by
    rw[SW] at c1;exact absurd (e1.mpr fun p hp=>by obtain⟨i,hi⟩:=SG hp;exact(z.at_ hi).2) c1⟩
   rw[<-this] at k;exact .inl k
  | true =>
   rw[QC (by decide)];have a1:=e1.mp c1;have last:∀(hf:∀p,L[0]?=some p->0=p.E->p.L=p.H),(ig (L.map pcV) (kM (L.map pcV) (some 1) none)).length<100000 /\
     BF Γ (E.call 17 (Es.cons (E.var 0) (Es.cons (E.var 1) Es.nil))) (Tg.tup (Tgs.cons (Tg.name 0) (Tgs.cons (Tg.name 1) Tgs.nil))) Es.nil (fun st'=>iF st (PV.tup (L.map pcV)) st'/\iF st (PV.tup (kM (L.map pcV) (some 1) none)) st') [none,none] (ig (L.map pcV) (kM (L.map pcV) (some 1) none)) st
      fun vs st3=>∃xs,bG (st3++[Cell.lst vs]) (PV.ref (List.length st3))=some xs/\∃x,nC xs=some x/\Tmp st (fun v st1=>Ret st Q v st1) (PV.bl (x.all id)) (st3++[Cell.lst vs]):=by
    intro hf;rw[O_,<-List.map_drop];refine⟨by rw[nk];simp;omega,?_⟩;refine BJ Γm (fun j acc s=>s=st/\acc=((ig (L.map pcV) ((L.drop 1).map pcV)).take j).map fun x=>.bl (beP x)) ⟨rfl,by simp⟩ ?_ ?_
    ·rintro j x acc s hj ⟨rfl,rfl⟩;refine⟨⟨trivial,trivial⟩,?_⟩;obtain⟨a,p,h1,h2,rfl⟩:=jS hj;have m1:=P_ h1;have m2:=P_ h2;walk_at "WP";refine⟨a,p,rfl,sz a m1,sz p m2,fun c hc=>⟨rfl,?_⟩⟩;rw[UM,hj,TC,kl hc (Am (ok a m1) (ok p m2))];rfl
    ·rintro acc s ⟨rfl,rfl⟩;rw[SJ];refine⟨⟨trivial,trivial⟩,_,au aE,_,eJ (f:=beP),.app rfl ?_⟩
     ·refine .inl ?_;have:(List.map beP (ig (L.map pcV) ((L.drop 1).map pcV))).all id=iA L:=ma ⟨fun z=>EJ ok a1 hf ((qa ok).mp z),fun z=>(qa ok).mpr fun i q p e1 e2=>z.two e1 e2⟩;rw[this];exact k
   refine eh (n:=4) (by decide) cI rfl ?_;rw[l'];cases L with
   | nil =>rw[QC (by decide)];exact last fun p e=>by cases e
   | cons a r =>
    rw[QA (show (List.map pcV (a::r)).isEmpty=false from rfl)];have am:a∈a::r:=QL;refine⟨pcV a,o7,a,rfl,ok a am,sz a am,fun c hc=>?_⟩;walk_at "WP";cases c with
    | false =>
     rw[QA rfl];have:false=iA (a::r):=ma ⟨fun z=>Bool.noConfusion z,fun z=>by have:=hc.mpr (z.first rfl);cases this⟩
     rw[<-this] at k;exact .inl k
    | true =>rw[QC (by decide)];exact last fun p e=>by cases e;exact hc.mp rfl
theorem HP (h:pcV a=pcV p):a=p:=by
 obtain⟨⟨a1,a2⟩,⟨a3,a4⟩,⟨a5,a6⟩⟩:=a;obtain⟨⟨p1,p2⟩,⟨p3,p4⟩,⟨p5,p6⟩⟩:=p;simp only[pcV,fr,PV.tup.injEq,List.cons.injEq,PV.int.injEq,and_true] at h;obtain⟨⟨h1,h2⟩,⟨h3,h4⟩,h5,h6⟩:=h;have h1:a1=p1:=by omega
 have h2:a2=p2:=by omega
 have h3:a3=p3:=by omega
 have h4:a4=p4:=by omega
 have h5:a5=p5:=by omega
 have h6:a6=p6:=by omega
 subst h1 h2 h3 h4 h5 h6;rfl
theorem xZ {M:List Pc}(h:bf L=bf M):L=M:=by
 have h:L.map pcV=M.map pcV:=PV.tup.inj h
 induction L generalizing M with
 | nil=>cases M with|nil=>rfl|cons _ _=>cases h
 | cons a r ih =>
  cases M with
  | nil=>cases h
  | cons b s =>simp only[List.map_cons,List.cons.injEq] at h;rw[HP (a:=a) (p:=b) (PV.tup.injEq _ _ ▸ by simpa using h.1),ih (by rw[bf,bf,h.2]) h.2]
open Classical in
theorem B2 (h:iA L=true):RtF L:=by unfold iA at h;exact RB h
open Classical in
theorem Da (h:RtF L):(bf (eF L)).same (bf L)=stB L:=by
 unfold stB;refine kl (P:=NG (0,1) L) ⟨fun z=>?_,fun z=>?_⟩ decide_eq_true_iff
 ·have:=xZ (PV.same_eq z);have n:=qH h;rw[this] at n;exact n
 ·rw[yy z];exact b7 _
theorem Ap {as st Q}(h:dM as st Q):aw Γ ie (frame 1 as) st (ag st Q):=by
 obtain⟨v,rfl,hb,hz,k⟩:=h;unfold ie;walk_at "WP";refine⟨v,rfl,hb,hz,_,rfl,?_⟩;unfold mQ at k;unfold js;cases hr:jw v with
 | none =>rw[hr] at k;exact .inl k
 | some L =>
  rw[hr] at k;obtain⟨rfl,ok⟩:=lB hr;obtain⟨sz,ll⟩:=hz.row ok;dsimp only at k |-
  by_cases hB:iA L=true
  ·rw[hB] at k;rw[QA hB];have hR:RtF L:=B2 hB;refine⟨L,rfl,sz,hR.lok,ll,?_⟩;refine eh (n:=4) (by decide) cI cI ?_;rw[Da hR];exact .inl k
  ·rw[QC hB];rw[SW.mpr hB] at k;exact .inl k
theorem F7 {n d:Nat}(h:0<d):(decide (((n/Nat.gcd n d:Nat):Int)=n) && decide (((d/Nat.gcd n d:Nat):Int)=d))=decide (Nat.gcd n d=1):=by
 have hg:0<Nat.gcd n d:=S8 _ h;refine kl (P:=Nat.gcd n d=1) ⟨fun z=>?_,fun z=>?_⟩ decide_eq_true_iff
 ·rw[QB,decide_eq_true_eq,decide_eq_true_eq] at z;have z2:d/Nat.gcd n d=d:=by omega
  by_cases g1:Nat.gcd n d=1
  ·exact g1
  ·have:=Nat.div_lt_self h (show 1<Nat.gcd n d by omega);omega
 ·rw[z];simp
theorem oA {as st Q}(h:ba as st Q):aw Γ dh (frame 1 as) st (ag st Q):=by
 obtain⟨v,rfl,hb,hz,k⟩:=h;obtain⟨n,hn⟩:=bo hb;unfold dh;walk_at "WP";refine⟨n,hn,?_⟩;obtain⟨kt,kf⟩:=qO hn;cases e:bH "tuple" n with
 | false =>rw[kf e] at k;exact .inl k
 | true =>
  obtain⟨xs,rfl⟩:=kt e;walk_at "WP";by_cases hl:xs.length=2
  ·obtain⟨x,y,rfl⟩:=Ei hl;obtain⟨bx,by'⟩:=xB hb;rw[mH] at k;walk_at "WP";refine⟨x,rfl,bx,?_⟩;cases x with
   | int i =>
    simp only[iu];walk_at "WP";refine⟨y,rfl,by',?_⟩;cases y with
    | int j =>
     simp only[iu];walk_at "WP";by_cases h0:0<=i
     ·rw[QA h0];by_cases h1:0<j
      ·rw[QA h1];obtain⟨z1,z2⟩:=hz i j rfl;have e1:i.natAbs=i.toNat:=by omega
       have e2:j.natAbs=j.toNat:=by omega
       refine⟨i.toNat,j.toNat,?_,by omega,P7 (by rw[<-e2];exact z2) (dS (by decide)),?_⟩
       ·rw[RL h0,RL (by omega)]
       ·refine ym ?_;have i1:i=(i.toNat:Int):=by omega
        have j1:j=(j.toNat:Int):=by omega
        have:=F7 (n:=i.toNat) (d:=j.toNat) (by omega);rw[<-i1,<-j1] at this;rw[this];have e3:decide (0<=i/\1<=j/\Nat.gcd i.natAbs j.natAbs=1)=decide (Nat.gcd i.toNat j.toNat=1):=by rw[e1,e2];simp[h0,show 1<=j by omega]
        simp only[e3] at k;exact .inl k
      ·rw[QC h1];have h1':¬(1<=j):=by omega
       simp only[h1',false_and,and_false,decide_false] at k;exact .inl k
     ·rw[QC h0];simp only[h0,false_and,decide_false] at k;exact .inl k
    | _=>simp only[iu];walk_at "WP";exact .inl k
   | _=>simp only[iu];walk_at "WP";exact .inl k
  ·rw[xG hl] at k;rw[QA (by omega)];exact .inl k
def RjI (st:AH)(L:List Pc)(i:Nat)(ρ:Fr)(s:AH):Prop:=∃a b c d,s=st/\ρ=[some (bf L),some (fr (bg L i)),some (fr (hg L i)),a,b,c,d]/\(∀(j:Nat) p,j<i->L[j]?=some p->p.L<=p.H/\p.E<=p.H)/\(0<i->∀p,L[0]?=some p->0=p.E->p.L=p.H) /\
 ∀(j:Nat) q p,j+1<i->L[j]?=some q->L[j+1]?=some p->q.E<p.E/\q.H<=p.L
theorem pM {as st Q}(h:bw as st Q):aw Γ dF (frame 7 as) st (ag st Q):=by
 obtain⟨L,rfl,ok,hz,k⟩:=h;unfold dF;walk_at "WP";have s01:Sz 600 (0,1):=⟨U3 (by decide),TH (by decide),by decide⟩;refine iD Γm (RjI st L) ⟨none,none,none,none,rfl,rfl,fun j p h=>absurd h (RS _),fun h=>absurd h (RX _),fun j q p h=>absurd h (RS _)⟩ ?_ ?_
 ·rintro i v ρ s hi ⟨a,b,c,d,rfl,rfl,I1,I2,I3⟩;refine⟨trivial,?_⟩;obtain⟨x,hx,rfl⟩:=oH hi;rw[QK] at hx;obtain⟨p,hp,rfl⟩:=Q9.mp hx;have pm:=P_ hp;have pz:=hz p pm;have pok:=ok p pm;have il:=(P8.mp hp).1;have facts:Sz 600 (bg L i)/\Sz 600 (hg L i)/\(i=0->bg L i=(0,1)/\hg L i=(0,1))/\(∀j q,i=j+1->L[j]?=some q->bg L i=q.e/\hg L i=q.h/\q.E<=q.H):=by
   cases i with
   | zero=>exact⟨s01,s01,fun _=>⟨rfl,rfl⟩,fun j q e=>by omega⟩
   | succ i =>
    have hq:L[i]?=some L[i]:=P9 (by omega);have e1:bg L (i+1)=(L[i]).e:=by show ((L[i]?).map Pc.e).getD (0,1)=_;rw[hq];rfl
    have e2:hg L (i+1)=(L[i]).h:=by show ((L[i]?).map Pc.h).getD (0,1)=_;rw[hq];rfl
    have qz:=hz _ (P_ hq);refine⟨by rw[e1];exact qz.e,by rw[e2];exact qz.h,fun e=>by omega,fun j q e hj=>?_⟩;obtain rfl:i=j:=by omega
    rw[hq] at hj;cases hj;exact⟨e1,e2,(I1 i _ (by omega) hq).2⟩
  obtain⟨zb,zh,f0,f1⟩:=facts;have no:∀ {c:Bool},(RtF L->False)->Q (.bl (iA L)) s->c=false->Q (.bl c) s:=fun h q e=>by subst e;have:false=iA L:=ma ⟨fun z=>Bool.noConfusion z,fun z=>(h z).elim⟩;rw[this];exact q
  have lt:∀ {x y:Nat × Nat},Sz 600 x->Sz 600 y->(x.1*y.2<y.1*x.2↔val x<val y):=fun hx hy=>dm hx.pos hy.pos;have two:RtF L->∀j q,i=j+1->L[j]?=some q->q.E<p.E/\q.H<=p.L:=fun hR j q e hq=>by subst e;exact hR.two hq hp
  have hgL:RtF L->val (hg L i)<=p.L:=fun hR=>by
   cases i with
   | zero=>rw[(f0 rfl).2,val_nought];exact gD pok.l.pos
   | succ i =>have hq:L[i]?=some L[i]:=P9 (by omega);rw[(f1 i _ rfl hq).2.1];exact(two hR i _ rfl hq).2
  have bgL:RtF L->val (bg L i)<=p.L:=fun hR=>by
   cases i with
   | zero=>rw[(f0 rfl).1,val_nought];exact gD pok.l.pos
   | succ i =>have hq:L[i]?=some L[i]:=P9 (by omega);obtain⟨e1,e2,e3⟩:=f1 i _ rfl hq;rw[e1];have:=(two hR i _ rfl hq).2;grind
  walk_at "WP";refine⟨_,_,rfl,up6 pz.h,up6 pz.l,?_⟩;by_cases h1:p.h.1*p.l.2<p.l.1*p.h.2
  ·rw[QM h1];walk_at "WP";refine .inl (no (fun hR=>?_) k rfl);exact absurd (hR.at_ hp).2.1 (UH.mpr ((lt pz.h pz.l).mp h1))
  rw[QJ h1];walk_at "WP";refine⟨_,_,rfl,up6 pz.l,up6 zh,?_⟩;by_cases h2:p.l.1*(hg L i).2<(hg L i).1*p.l.2
  ·rw[QM h2];walk_at "WP";exact .inl (no (fun hR=>absurd (hgL hR) (UH.mpr ((lt pz.l zh).mp h2))) k rfl)
  rw[QJ h2];walk_at "WP";refine⟨_,_,rfl,up6 pz.l,up6 zb,?_⟩;by_cases h3:p.l.1*(bg L i).2<(bg L i).1*p.l.2
  ·rw[QM h3];walk_at "WP";exact .inl (no (fun hR=>absurd (bgL hR) (UH.mpr ((lt pz.l zb).mp h3))) k rfl)
  rw[QJ h3];walk_at "WP";refine⟨_,_,rfl,up6 pz.h,up6 pz.e,?_⟩;by_cases h4:p.h.1*p.e.2<p.e.1*p.h.2
  ·rw[QM h4];walk_at "WP";exact .inl (no (fun hR=>absurd (hR.at_ hp).2.2 (UH.mpr ((lt pz.h pz.e).mp h4))) k rfl)
  rw[QJ h4];walk_at "WP";refine⟨_,_,rfl,up6 zb,up6 pz.e,?_⟩;rw[lt pz.h pz.l,SA] at h1;rw[lt pz.l zh,SA] at h2;rw[lt pz.h pz.e,SA] at h4;have nx:(val (bg L i)<p.E\/(i=0/\(0=p.E->p.L=p.H)))->RjI s L (i+1) [some (bf L),some (fr p.e),some (fr p.h),some (.int (0+(i:Int))),some (fr p.e),some (fr p.l),some (fr p.h)] s:=fun hh=>by
   have e1:bg L (i+1)=p.e:=by show ((L[i]?).map Pc.e).getD (0,1)=_;rw[hp];rfl
   have e2:hg L (i+1)=p.h:=by show ((L[i]?).map Pc.h).getD (0,1)=_;rw[hp];rfl
   refine⟨some (.int (0+(i:Int))),some (fr p.e),some (fr p.l),some (fr p.h),rfl,by rw[e1,e2],fun j q hj hq=>?_,fun _ q hq=>?_,fun j q r hj hq hr=>?_⟩
   ·by_cases hji:j<i
    ·exact I1 j q hji hq
    ·obtain rfl:j=i:=by omega
     rw[hp] at hq;cases hq;exact⟨h1,h4⟩
   ·by_cases hi0:0<i
    ·exact I2 hi0 q hq
    ·obtain rfl:i=0:=by omega
     rw[hp] at hq;cases hq;rcases hh with hh|hh
     ·rw[(f0 rfl).1,val_nought] at hh;intro z;rw[<-z] at hh;exact absurd hh (by grind)
     ·exact hh.2
   ·by_cases hji:j+1<i
    ·exact I3 j q r hji hq hr
    ·obtain rfl:i=j+1:=by omega
     rw[hp] at hr;cases hr;obtain⟨k1,k2,k3⟩:=f1 j q rfl hq;rw[k2] at h2;refine⟨?_,h2⟩;rcases hh with hh|hh
     ·rw[k1] at hh;exact hh
     ·omega
  by_cases h5:(bg L i).1*p.e.2<p.e.1*(bg L i).2
  ·rw[QM h5];walk_at "WP";simpa using nx (.inl ((lt zb pz.e).mp h5))
  ·rw[QJ h5];rw[lt zb pz.e,SA] at h5;walk_at "WP";by_cases hi0:i=0
   ·subst hi0;rw[QC (by decide)];have e0:p.E=0:=by rw[(f0 rfl).1,val_nought] at h5;have:=gD (p:=p.e) pok.e.pos;have h5:p.E<=0:=h5;have:0<=p.E:=this;grind
    refine⟨_,_,rfl,up6 pz.e,up6 zb,?_⟩;rw[Mx pz.e zb (by rw[(f0 rfl).1,val_nought];exact gD pok.e.pos)];walk_at "WP";refine ji ?_;by_cases h6:p.l=p.h
    ·rw[QM h6];walk_at "WP";simpa using nx (.inr ⟨rfl,fun _=>by unfold Pc.L Pc.H;rw[h6]⟩)
    ·rw[QJ h6];walk_at "WP";exact .inl (no (fun hR=>h6 (hJ pok.l pok.h (hR.first hp e0.symm))) k rfl)
   ·rw[QA (by omega)];refine .inl (no (fun hR=>?_) k rfl);obtain⟨j,rfl⟩:∃j,i=j+1:=⟨i-1,by omega⟩;have hq:L[j]?=some L[j]:=P9 (by omega);obtain⟨k1,k2,k3⟩:=f1 j _ rfl hq;rw[k1] at h5;have:=(two hR j _ rfl hq).1;exact absurd h5 (UH.mpr this)
 ·rintro ρ s ⟨a,b,c,d,rfl,rfl,I1,I2,I3⟩;refine⟨trivial,?_⟩;walk_at "WP";have ll:(jv 0 (L.map pcV)).length=L.length:=by rw[oD,QO]
  rw[ll] at I1 I2 I3;have:true=iA L:=ma ⟨fun _=>EJ ok (fun p hp=>?_) (fun p hp=>I2 (P8.mp hp).1 p hp) fun i q p h1 h2=>I3 i q p (P8.mp h2).1 h1 h2,fun _=>rfl⟩
  ·rw[this];exact .inl k
  ·obtain⟨i,hi⟩:=SG hp;exact I1 i p (P8.mp hi).1 hi
theorem Cn {xs:List PV}{i:Nat}(h:xs[i]?=some x)(hx:pcP x=none):jw (.tup xs)=none:=by
 have:=kA (xs:=xs);show df (xs.map pcP)=none;cases e:df (xs.map pcP) with
 | none=>rfl
 | some L =>rw[e] at this;have a:=SN.mp this x (P_ h);rw[hx] at a;cases a
theorem sI {as st Q}(h:bV as st Q):aw Γ eZ (frame 2 as) st (ag st Q):=by
 obtain⟨v,rfl,hb,hz,k⟩:=h;obtain⟨n,hn⟩:=bo hb;unfold eZ;walk_at "WP";refine⟨n,hn,?_⟩;rcases vd hn with⟨e,xs,rfl⟩|⟨e,hx⟩
 case inr =>rw[QA e];rw[kz (ur hx)] at k;exact .inl k
 rw[QC (by rw[e];decide)];obtain⟨lx,zx⟩:=hz xs rfl;have hb':=hb;rw[PV.bel] at hb';refine⟨xs,rfl,?_⟩;refine iD Γm (fun i ρ s=>s=st/\(∃a,ρ=[some (.tup xs),a])/\∀j x,j<i->xs[j]?=some x->(pcP x).isSome=true) ⟨rfl,⟨_,rfl⟩,fun j x h=>absurd h (RS _)⟩ ?_ ?_
 ·rintro i x ρ s hi ⟨rfl,⟨a,rfl⟩,I⟩;refine⟨trivial,?_⟩;have bx:=kb hb' (P_ hi);obtain⟨m,hm⟩:=bo bx;have no:pcP x=none->Ret s Q (.bl false) s:=fun h=>by rw[kz (Cn hi h)] at k;exact .inl k
  walk_at "WP";refine⟨m,hm,?_⟩;rcases vd hm with⟨e,ys,rfl⟩|⟨e,hx⟩
  case inr =>rw[QA e];exact no (Bl hx)
  rw[QC (by rw[e];decide)];walk_at "WP";by_cases hl:ys.length=3
  ·obtain⟨a,b,c,rfl⟩:=xI hl;rw[QC (show ¬ ¬((([a,b,c]:List PV).length:Nat):Int)=3 from fun z=>z rfl)];refine⟨by simp,?_⟩;rw[PV.bel] at bx;refine FW.comp_map Γm (fun x=>.bl (bP x)) trivial (fun y hy=>?_) ?_
   ·walk_at "WP";exact⟨y,rfl,kb bx hy,zx _ (P_ hi) _ rfl y hy,rfl,rfl⟩
   ·refine⟨_,au aE,_,eJ (f:=bP),.app rfl ?_⟩;have:([a,b,c].map bP).all id=(pcP (.tup [a,b,c])).isSome:=by rw[tR];simp
    rw[this];walk_at "WP";cases hc:pcP (.tup [a,b,c]) with
    | none=>exact no hc
    | some p =>
     rw[QC (by simp)];refine fun j y hj hy=>?_;by_cases hji:j<i
     ·exact I j y hji hy
     ·obtain rfl:j=i:=by omega
      rw[hi] at hy;cases hy;rw[hc];rfl
  ·rw[QA (by omega)];exact no (Bn hl)
 ·rintro ρ s ⟨rfl,⟨a,rfl⟩,I⟩;refine⟨trivial,?_⟩;walk_at "WP";have all:(xs.all fun x=>(pcP x).isSome)=true:=SN.mpr fun x hx=>by obtain⟨i,hi⟩:=SG hx;exact I i x (P8.mp hi).1 hi
  rw[kA] at all;obtain⟨L,hL⟩:=Option.isSome_iff_exists.mp all;have hr:jw (.tup xs)=some L:=hL;obtain⟨ev,ok⟩:=lB hr;obtain rfl:xs=L.map pcV:=by cases ev;rfl
  obtain⟨sz,ll⟩:=hz.row ok;rw[uk ok] at k;exact⟨L,rfl,ok,sz,.inl k⟩
theorem Kf:∀ {L:List Pc}{b:Nat × Nat},(∀(i:Nat) a p,L[i]?=some a->L[i+1]?=some p->gB (if i=0 then b else bg L i) a p=false)->NG b L
 | [],_,_=>trivial
 | [_],_,_=>trivial
 | a::p::r,b,h=>by
  refine⟨h 0 a p rfl rfl,Kf fun i q s h1 h2=>?_⟩;have:=h (i+1) q s (by simpa using h1) (by simpa using h2);rw[QC (by omega)] at this;cases i with
  | zero=>simpa[bg] using this
  | succ i=>rw[QC (by omega)];simpa[bg] using this
open Classical in
theorem rD {c:Bool}(h:c=true↔NG (0,1) L):c=stB L:=by unfold stB;exact kl h decide_eq_true_iff
theorem qy {as st Q}(h:bK as st Q):aw Γ dY (frame 6 as) st (ag st Q):=by
 obtain⟨L,rfl,hR,hz,hl,k⟩:=h;unfold dY;walk_at "WP";rw[QO];refine⟨by omega,?_⟩;refine FW.comp_map Γm (fun x=>match x with | .tup [a,_,_]=>a|v=>v) trivial (fun x hx=>?_) ?_
 ·obtain⟨p,_,rfl⟩:=QQ.mp hx;walk_at "WP"
 have em:(L.map pcV).map (fun x=>match x with | .tup [a,_,_]=>a|v=>v)=L.map (fun p=>fr p.e):=by rw[SO];rfl
 rw[em];have gl:∀g:AH,(st++g)[st.length]?=g[0]?:=fun g=>qC;refine⟨_,by rw[QY,gl];rfl,by simp;omega,by omega,by omega,?_⟩;walk_at "WP";generalize hs0:st++[Cell.lst [PV.tup [PV.int 0,PV.int 1]],Cell.lst (L.map fun p=>fr p.e),Cell.lst (PV.tup [PV.int 0,PV.int 1]::L.map fun p=>fr p.e)]=s0;have hb:s0[st.length+2]?=some (.lst (PV.tup [PV.int 0,PV.int 1]::L.map fun p=>fr p.e)):=by rw[<-hs0];exact g9 (k:=2)
 have hbi:∀i,i<=L.length->atI (PV.tup [PV.int 0,PV.int 1]::L.map fun p=>fr p.e) (i:Int)=some (fr (bg L i)):=fun i hi=>by
  refine de ?_;cases i with
  | zero=>rfl
  | succ i =>have ha:L[i]?=some L[i]:=P9 (by omega);rw[SL,QK,ha,bgS ha];rfl
 have hpi:∀(i:Nat) (p:Pc),L[i]?=some p->atI (L.map pcV) (i:Int)=some (pcV p):=fun i p hp=>de (by rw[QK,hp];rfl);have no:∀g:AH,(NG (0,1) L->False)->Ret st Q (.bl false) (s0++g):=fun g h=>by have:false=stB L:=rD ⟨fun z=>Bool.noConfusion z,fun z=>(h z).elim⟩;rw[<-this] at k;refine .inr ?_;rw[<-hs0,QY];exact .app rfl k
 refine iD Γm (fun i ρ s=>IlI s0 (st.length+2) L ρ s/\∀(j:Nat) a p,j<i->L[j]?=some a->L[j+1]?=some p->gB (bg L j) a p=false) ⟨⟨[],none,none,none,none,by simp,rfl⟩,fun j a p h=>absurd h (RS _)⟩ ?_ ?_
 ·rintro i v ρ s hi ⟨⟨g,a,b,c,d,rfl,rfl⟩,Ij⟩;obtain⟨rfl,hi⟩:=yK hi;refine⟨trivial,?_⟩;have il:i+1<L.length:=by omega
  obtain⟨q,hq⟩:∃q,L[i]?=some q:=⟨_,P9 (by omega)⟩;obtain⟨p,hp⟩:∃p,L[i+1]?=some p:=⟨_,P9 il⟩;have pz:=hz p (P_ hp);have qz:=hz q (P_ hq);obtain⟨pok,p1,p2⟩:=hR.at_ hp;obtain⟨qok,q1,q2⟩:=hR.at_ hq;obtain⟨t1,t2⟩:=hR.two hq hp;obtain⟨n1,n2,n3,n4⟩:=nb hR hq;have bz:Sz 600 (bg L i):=bgZ hz (by omega) (by decide);have yes:gB (bg L i) q p=true->NG (0,1) L->False:=fun h hN=>by have ng:=hN.at_ hq hp;rw[bg0,h] at ng;cases ng
  have nx:gB (bg L i) q p=false->∀(j:Nat) a p,j<i+1->L[j]?=some a->L[j+1]?=some p->gB (bg L j) a p=false:=fun h j a r hj h1 h2=>by
   by_cases hji:j<i
   ·exact Ij j a r hji h1 h2
   ·obtain rfl:j=i:=by omega
    rw[hq] at h1;rw[hp] at h2;cases h1;cases h2;exact h
  have e1:1+(i:Int)=((i+1:Nat):Int):=by omega
  have e2:((i+1:Nat):Int)-1=((i:Nat):Int):=by omega
  walk_at "WP";rw[e1];refine⟨_,hpi _ _ hp,?_⟩;walk_at "WP";rw[e2];refine⟨_,hpi _ _ hq,?_⟩;walk_at "WP";refine ji ?_;by_cases hpq:p.l=q.h
  ·rw[QM hpq];walk_at "WP";refine⟨_,hpi _ _ hq,?_⟩;walk_at "WP";refine⟨_,ao (f9 hb),_,hbi i (by omega),?_⟩;refine ji ?_;obtain⟨s,hs⟩:=Sl.ex t1;by_cases ne:q.e=bg L i
   ·rw[QM ne];walk_at "WP";refine no _ (yes ((nN n1 qok pok n2 t1 q1 p1 hs).mpr ⟨hpq,?_⟩));unfold Sl;have e:val (bg L i)=q.E:=by rw[<-ne]
    have:=n3 e;rw[e];grind
   have lt:val (bg L i)<q.E:=by have:val (bg L i)≠q.E:=fun z=>ne (hJ qok.e n1 z.symm);grind
   rw[QJ ne];walk_at "WP";have R0:∀j,j<2->∃w,L[i+j]?=some w/\w.Ok/\w.Sz 600/\w.L<=w.H/\val (bg L (i+j))<w.E/\[ik (bF q.h q.l) (bF q.e (bg L i)),ik (bF p.h p.l) (bF p.e (bg L (i+1)))][j]?=some (ik (bF w.h w.l) (bF w.e (bg L (i+j)))):=fun j hj=>by
    have:j=0\/j=1:=by omega
    rcases this with rfl|rfl
    ·exact⟨q,hq,qok,qz,q1,lt,rfl⟩
    ·refine⟨p,hp,pok,pz,p1,?_,rfl⟩;rw[bgS hq];exact t1
   refine iD Γm (IrI (s0++g) (st.length+2) (s0.length+g.length) L (i+1) [ik (bF q.h q.l) (bF q.e (bg L i)),ik (bF p.h p.l) (bF p.e (bg L (i+1)))]) ⟨[],c,d,by simp,by simp,rfl⟩ ?_ ?_
   ·rintro j v ρ s hj ⟨g',a,b,rfl,hnr,rfl⟩;have j2:j<2:=by have:=(P8.mp hj).1;simpa using this
    refine⟨trivial,?_⟩;obtain⟨w,hw,wok,wz,w1,w2,hr⟩:=R0 j j2;have ev:v=.int ((i+j:Nat):Int):=by
     have:j=0\/j=1:=by omega
     rcases this with rfl|rfl <;> (cases hj;rfl)
    subst ev;have bzw:Sz 600 (bg L (i+j)):=bgZ hz (by omega) (by decide);have up:∀ {z:Nat × Nat},Sz 600 z->Sz 3000 z:=fun z=>z.mono (by decide);walk_at "WP";refine⟨_,hpi _ _ hw,?_⟩;walk_at "WP";refine⟨_,hpi _ _ hw,?_⟩;walk_at "WP";refine⟨_,_,rfl,up wz.h,up wz.l,sub_le (up wz.h) (up wz.l) w1,?_⟩;have gr':((s0++g)++Cell.lst (List.map fr (List.take j [ik (bF q.h q.l) (bF q.e (bg L i)),ik (bF p.h p.l) (bF p.e (bg L (i+1)))]))::g')[s0.length+g.length]?=some (.lst (List.map fr (List.take j [ik (bF q.h q.l) (bF q.e (bg L i)),ik (bF p.h p.l) (bF p.e (bg L (i+1)))]))):=by rw[hnr];exact b_
    have hb':∀x:AH,(s0++(g++x))[st.length+2]?=some (.lst (PV.tup [PV.int 0,PV.int 1]::L.map fun p=>fr p.e)):=fun x=>f9 hb;rw[QY] at gr';refine⟨⟨_,au gr'⟩,_,hpi _ _ hw,?_⟩;walk_at "WP";refine⟨_,ao (hb' _),_,hbi _ (by omega),_,_,rfl,up wz.e,up bzw,sub_le (up wz.e) (up bzw) (RR w2),?_⟩;refine⟨_,_,rfl,(kr wz.h wz.l).mono (by decide),(kr wz.e bzw).mono (by decide),Hw wz.e bzw w2,?_⟩;refine⟨_,gr',by simp;omega,g',_,_,?_,hnr,rfl⟩;rw[<-QY,hnr,gO,UM,hr];simp
   ·rintro ρ s ⟨g',a,b,rfl,hnr,rfl⟩;refine⟨trivial,?_⟩;have gr':((s0++g)++Cell.lst (List.map fr [ik (bF q.h q.l) (bF q.e (bg L i)),ik (bF p.h p.l) (bF p.e (bg L (i+1)))])::g')[s0.length+g.length]?=some (.lst [fr (ik (bF q.h q.l) (bF q.e (bg L i))),fr (ik (bF p.h p.l) (bF p.e (bg L (i+1))))]):=by rw[hnr];exact b_
    rw[QY] at gr';walk_at "WP";refine⟨_,ao gr',_,o7,_,ao gr',_,oM,?_⟩;refine ji ?_;have ner:ik (bF q.h q.l) (bF q.e (bg L i))=ik (bF p.h p.l) (bF p.e (bg L (i+1)))↔gB (bg L i) q p=true:=by
     rw[bgS hq,nN n1 qok pok n2 t1 q1 p1 hs];have c1:=en (p:=q.h) (q:=q.l) qok.h.pos qok.l.pos;have c2:=en (p:=q.e) (q:=bg L i) qok.e.pos n1.pos;have c3:=en (p:=p.h) (q:=p.l) pok.h.pos pok.l.pos;have c4:=en (p:=p.e) (q:=q.e) pok.e.pos qok.e.pos;have v1:=gg qok.h.pos qok.l.pos q1;have v2:=gg qok.e.pos n1.pos (RR lt);have v3:=gg pok.h.pos pok.l.pos p1;have v4:=gg pok.e.pos qok.e.pos (RR t1);have d1:0<val (bF q.e (bg L i)):=by rw[v2];grind
     have d2:0<val (bF p.e q.e):=by rw[v4];grind
     have w1:p.E-q.E≠0:=by grind
     have w2:q.E-val (bg L i)≠0:=by grind
     have u1:=Bm c1.pos c2.pos d1;have u2:=Bm c3.pos c4.pos d2;rw[v1,v2] at u1;rw[v3,v4] at u2;constructor
     ·intro z;refine⟨hpq,?_⟩;have z:=Q0 val z;rw[u1,u2] at z;unfold Sl at hs |-
      grind
     ·rintro⟨_,z⟩;refine hJ (wR c1.pos ((pY c2.pos).mpr d1)) (wR c3.pos ((pY c4.pos).mpr d2)) ?_;rw[u1,u2];unfold Sl at hs z;grind
    by_cases ge:gB (bg L i) q p=true
    ·rw[QM (ner.mpr ge)];walk_at "WP";have:=no (g++Cell.lst (List.map fr [ik (bF q.h q.l) (bF q.e (bg L i)),ik (bF p.h p.l) (bF p.e (bg L (i+1)))])::g') (yes ge);simpa using this
    ·rw[QJ fun z=>ge (ner.mp z)];walk_at "WP";exact⟨⟨_,_,_,_,_,rfl,rfl⟩,nx (SW.mpr ge)⟩
  ·rw[QJ hpq];walk_at "WP";refine⟨⟨g,_,_,_,_,rfl,rfl⟩,nx ?_⟩;unfold gB;rw[QJ hpq,UB]
 ·rintro ρ s ⟨⟨g,a,b,c,d,rfl,rfl⟩,Ij⟩;refine⟨trivial,?_⟩;walk_at "WP";have lr:(dH 1 ((L.length:Int)-1).toNat).length=L.length-1:=by simp[dH]
  have:true=stB L:=rD ⟨fun _=>Kf fun i a p h1 h2=>by rw[bg0];refine Ij i a p ?_ h1 h2;have:=(P8.mp h2).1;rw[lr];omega,fun _=>rfl⟩
  rw[<-this] at k;refine .inr ?_;rw[<-hs0,QY];exact .app rfl k
theorem E4 (h1:∀p,o=some p->Cop p/\Sz j p)(h2:∀p,o'=some p->Cop p/\Sz j' p)(h:o.map val=o'.map val):o=o':=by
 cases o with
 | none=>cases o' with|none=>rfl|some b=>cases h
 | some a =>
  cases o' with
  | none=>cases h
  | some b=>rw[hJ (h1 a rfl).1 (h2 b rfl).1 (Q2 h)]
theorem qc:aY 3 (Cz o)=true:=by cases o <;> rfl
noncomputable def qi (b:Nat × Nat)(Y:List Pc):Nat × Nat:=(Y.getLast?.map Pc.e).getD b
theorem qv {a:Pc}{Y:List Pc}:qi b (a::Y)=qi a.e Y:=by
 unfold qi;cases Y with
 | nil=>rfl
 | cons c Y=>simp[List.getLast?_cons]
theorem ou {p:Pc}:∀ {r:List Pc}{b:Nat × Nat}{a:Pc},∃Y c,aS b a r=Y++[c]/\aS b a (r++[p])=(if gB (qi b Y) c p=true then Y++[c.mg p] else Y++[c,p]) /\
  (∀z,(a::r).getLast?=some z->c.e=z.e/\c.h=z.h)
 | [],b,a=>⟨[],a,rfl,by
   show aS b a [p]=_;rw[aS];show (if gB b a p=true then aS b (a.mg p) [] else a::aS a.e p [])=if gB b a p=true then []++[a.mg p] else []++[a,p]
   rfl,fun z e=>by cases e;exact⟨rfl,rfl⟩⟩
 | q::r,b,a=>by
  rw[aS,List.cons_append,aS];by_cases g:gB b a q=true
  ·rw[QA g,QA g];obtain⟨Y,c,e1,e2,e3⟩:=ou (p:=p) (r:=r) (b:=b) (a:=a.mg q);refine⟨Y,c,e1,e2,fun z e=>?_⟩;cases r with
   | nil =>
    have:z=q:=by simpa using e.symm
    subst this;exact e3 (a.mg z) rfl
   | cons x r=>exact e3 z (by simpa[List.getLast?_cons_cons] using e)
  ·rw[QC g,QC g];obtain⟨Y,c,e1,e2,e3⟩:=ou (p:=p) (r:=r) (b:=a.e) (a:=q);refine⟨a::Y,c,by rw[e1];rfl,?_,fun z e=>e3 z (by simpa[List.getLast?_cons_cons] using e)⟩;rw[e2,qv];split <;> rfl
theorem Rt.snoc {c p:Pc}(h1:p.Ok)(h2:c.E<p.E)(h3:c.H<=p.L)(h4:p.L<=p.H)(h5:p.E<=p.H):∀ {Y:List Pc}{b hh:Rat},Rt b hh (Y++[c])->Rt b hh (Y++[c,p])
 | [],b,hh,⟨k1,k2,k3,k4,k5,_⟩=>⟨k1,k2,k3,k4,k5,h1,h2,h3,h4,h5,trivial⟩
 | a::Y,b,hh,⟨k1,k2,k3,k4,k5,k6⟩=>⟨k1,k2,k3,k4,k5,Rt.snoc h1 h2 h3 h4 h5 k6⟩
theorem RtF.snoc {c p:Pc}(h1:p.Ok)(h2:c.E<p.E)(h3:c.H<=p.L)(h4:p.L<=p.H)(h5:p.E<=p.H){Y:List Pc}(h:RtF (Y++[c])):RtF (Y++[c,p]):=by
 cases Y with
 | nil=>exact⟨h.1,h.2.1,h.2.2.1,h.2.2.2.1,h1,h2,h3,h4,h5,trivial⟩
 | cons a Y=>exact⟨h.1,h.2.1,h.2.2.1,h.2.2.2.1,Rt.snoc h1 h2 h3 h4 h5 h.2.2.2.2⟩
theorem u0 {c:Pc}:∀ {Y:List Pc}{b:Nat × Nat},NG b (Y++[c])->(NG b (Y++[c,p])↔gB (qi b Y) c p=false)
 | [],b,_=>⟨fun h=>h.1,fun h=>⟨h,trivial⟩⟩
 | [a],b,h=>⟨fun z=>z.2.1,fun z=>⟨h.1,z,trivial⟩⟩
 | a::a'::Y,b,h=>by rw[qv];have:=u0 (c:=c) (p:=p) (Y:=a'::Y) (b:=a.e) h.2;exact⟨fun z=>this.mp z.2,fun z=>⟨h.1,this.mpr z⟩⟩
theorem Rt.take:∀ {L:List Pc}{b hh:Rat} (i:Nat),Rt b hh L->Rt b hh (L.take i)
 | [],_,_,i,_=>by rw[List.take_nil];trivial
 | _::_,_,_,0,_=>trivial
 | _::_,_,_,i+1,⟨h1,h2,h3,h4,h5,h6⟩=>⟨h1,h2,h3,h4,h5,h6.take i⟩
theorem RtF.take (i:Nat)(h:RtF L):RtF (L.take i):=by
 cases L with
 | nil=>rw[List.take_nil];trivial
 | cons a r =>
  cases i with
  | zero=>trivial
  | succ i=>exact⟨h.1,h.2.1,h.2.2.1,h.2.2.2.1,h.2.2.2.2.take i⟩
def LlI (st:AH)(L:List Pc)(i:Nat)(ρ:Fr)(s:AH):Prop:=∃(g:AH) (a b c d:Option PV),s=st++.lst ((eF (L.take i)).map pcV)::g/\ρ=[some (bf L),some (.ref st.length),a,b,c,d]
theorem B5 {α:Type}{X:List α}{x:α}:(X++[x])[(X++[x]).length-1]?=some x:=by simp
theorem xg {as st Q}(h:cZ as st Q):aw Γ gG (frame 6 as) st (ag st Q):=by
 obtain⟨L,rfl,hR,hz,hl,k⟩:=h;unfold gG;walk_at "WP";refine iD Γm (LlI st L) ⟨[],none,none,none,none,rfl,rfl⟩ ?_ ?_
 ·rintro i v ρ s hi ⟨g,a,b,c,d,rfl,rfl⟩;refine⟨trivial,?_⟩;rw[QK] at hi;obtain⟨p,hp,rfl⟩:=Q9.mp hi;have il:=(P8.mp hp).1;have pz:=hz p (P_ hp);obtain⟨pok,p1,p2⟩:=hR.at_ hp;have ht:L.take (i+1)=L.take i++[p]:=by rw[List.take_succ,hp];rfl
  walk_at "WP";obtain⟨F,hF⟩:∃F,eF (L.take i)=F:=⟨_,rfl⟩;have lF:F.length<=60:=by rw[<-hF];exact QP ue (by simp;omega)
  have fz:SzL 60 F:=by rw[<-hF];exact xa (fun q hq=>hz q (SZ hq))
  have key:(F=[]/\i=0/\eF (L.take (i+1))=[p])\/∃Y c,F=Y++[c]/\NG (0,1) (Y++[c])/\RtF (Y++[c])/\c.E<p.E/\c.H<=p.L/\eF (L.take (i+1))=(if gB (qi (0,1) Y) c p=true then Y++[c.mg p] else Y++[c,p]):=by
   rw[ht];cases e:L.take i with
   | nil =>
    rw[e] at hF;refine .inl ⟨by rw[<-hF];rfl,?_,rfl⟩;rcases List.take_eq_nil_iff.mp e with h|h
    ·exact h
    ·rw[h] at il;simp at il
   | cons a r =>
    rw[e] at hF;obtain⟨Y,c,e1,e2,e3⟩:=ou (p:=p) (r:=r) (b:=(0,1)) (a:=a);have hR':=hR.take i;rw[e] at hR';have i0:0<i:=by
     cases i with
     | zero=>simp at e
     | succ i=>omega
    have hz':L[i-1]?=some L[i-1]:=P9 (by omega);obtain⟨z1,z2⟩:=e3 L[i-1] (by rw[<-e,List.getLast?_take,QC (by omega),hz'];rfl);have hp':L[i-1+1]?=some p:=by rw[UG i0];exact hp
    obtain⟨t1,t2⟩:=hR.two hz' hp';have ng:=qH hR';have rt:=xU hR';rw[show eF (a::r)=_ from e1] at ng rt;refine .inr ⟨Y,c,by rw[<-hF];exact e1,ng,rt,?_,?_,e2⟩
    ·show val c.e<val p.e;rw[z1];exact t1
    ·show val c.h<=val p.l;rw[z2];exact t2
  rw[hF,gO];refine⟨⟨_,au b_⟩,by simp;omega,_,ao b_,F++[p],Q0 (fun z=>[PV.tup z]) map_snoc.symm,?_,fun q hq=>?_,by simp;omega,?_⟩
  ·rcases key with⟨rfl,rfl,_⟩|⟨Y,c,rfl,_,rt,c1,c2,_⟩
   ·obtain⟨n1,n2,n3,n4⟩:=nb hR hp;exact⟨pok,p1,p2,fun z=>n3 (by rw[<-z];exact val_nought),trivial⟩
   ·rw[QY];exact RtF.snoc pok c1 c2 p1 p2 rt
  ·rcases Q5.mp hq with hq|hq
   ·exact(fz q hq).mono (by decide)
   ·rw[QI] at hq;rw[hq];exact pz.mono (by decide)
  rcases key with⟨rfl,rfl,e⟩|⟨Y,c,rfl,ng,rt,c1,c2,e⟩
  ·have:stB ([]++[p])=true:=(rD (L:=[]++[p]) (c:=true) ⟨fun _=>(show NG (0,1) [p] from trivial),fun _=>rfl⟩).symm;rw[this];walk_at "WP";exact⟨g,_,_,_,_,by rw[e];rfl,rfl⟩
  ·cases gb:gB (qi (0,1) Y) c p with
   | true =>
    have:stB (Y++[c]++[p])=false:=(rD (L:=Y++[c]++[p]) (c:=false) ⟨(fun z=>nomatch z),fun z=>by rw[QY] at z;have:=(u0 ng).mp z;rw[gb] at this;cases this⟩).symm
    rw[this];walk_at "WP";rw[gb,QA rfl] at e;rw[gO,List.dropLast_concat,map_snoc];refine⟨⟨_,au b_⟩,pcV p,by simp,_,rfl,rfl,_,_,rfl,_,_,rfl,_,_,rfl,rfl,⟨_,au b_⟩,⟨_,au b_⟩,_,b_,pcV c,B5,?_⟩;rw[gO,List.dropLast_concat];walk_at "WP";refine⟨by simp at lF |-;omega,g,_,_,_,_,?_,rfl⟩;rw[gO,e,map_snoc]
   | false =>
    have:stB (Y++[c]++[p])=true:=(rD (L:=Y++[c]++[p]) (c:=true) ⟨fun _=>by rw[QY];exact(u0 ng).mpr gb,fun _=>rfl⟩).symm
    rw[this];walk_at "WP";rw[gb,QC P5] at e;exact⟨g,_,_,_,_,by rw[e];simp,rfl⟩
 ·rintro ρ s ⟨g,a,b,c,d,rfl,rfl⟩;refine⟨trivial,?_⟩;walk_at "WP";rw[QO,SJ];refine⟨_,ao b_,.inr (.app vY k)⟩
theorem Sz.low {n d:Nat}(h0:0<d)(h1:n<2 ^ k)(h2:d<2 ^ k):Sz k (cj n d):=⟨Q3 (q_ _ _) h1,Q3 (sk _ _) h2,fo h0⟩
noncomputable def bR (b:Rat)(L:List Pc):Nat->Rat
 | 0=>b
 | i+1=>((L[i]?).map Pc.E).getD b
theorem Ao {y:Rat}:∀ {L:List Pc}{b:Rat}{acc:Option Rat}{n:Nat},n<=L.length->(∀(i:Nat) p,L[i]?=some p->i<n->p.L<=y)->(∀(i:Nat) p,L[i]?=some p->n<=i->y<p.L/\p.L<=p.H) ->
  lb y b acc L=(if n=0 then acc else (L[n-1]?).map fun p=>if p.H<=y then p.E else bR b L (n-1)+(y-p.L)/(p.H-p.L)*(p.E-bR b L (n-1)))
 | [],b,acc,n,h,_,_=>by
  have:n=0:=by simpa using h
  rw[QA this];rfl
 | p::r,b,acc,0,_,h1,h2=>by have:=h2 0 p rfl (P6 _);rw[lb,QC (by grind),QC (by grind),Ao (n:=0) (Q8 _) (fun i q _ z=>absurd z (RS _)) (fun i q e _=>h2 (i+1) q (by simpa using e) (Q8 _))];rfl
 | p::r,b,acc,n+1,h,h1,h2=>by
  have hp:=h1 0 p rfl (Nat.succ_pos _);rw[lb,Ao (n:=n) (by simpa using h) (fun i q e z=>h1 (i+1) q (by simpa using e) (by omega)) (fun i q e z=>h2 (i+1) q (by simpa using e) (by omega)),QC (UQ n),UI];cases n with
  | zero =>
   rw[QA rfl,List.getElem?_cons_zero,TF,QA hp];by_cases h3:p.H<=y
   ·rw[QA h3,QA h3]
   ·rw[QC h3,QC h3];rfl
  | succ n =>
   rw[QC (UQ n),UI,SL];have e:bR p.E r n=bR b (p::r) (n+1):=by
    cases n with
    | zero=>rfl
    | succ n =>
     have:n<r.length:=by simp at h;omega
     show ((r[n]?).map Pc.E).getD p.E=(((p::r)[n+1]?).map Pc.E).getD b;rw[SL,P9 this];rfl
   rw[e]
theorem Rt.cutL {y:Rat}:∀ {L:List Pc}{b hh:Rat},Rt b hh L->∃k,k<=L.length/\(∀(i:Nat) p,L[i]?=some p->i<k->p.L<=y)/\∀(i:Nat) p,L[i]?=some p->k<=i->y<p.L/\p.L<=p.H
 | [],b,hh,_=>⟨0,P6 _,fun i p e=>by simp at e,fun i p e=>by simp at e⟩
 | p::r,b,hh,⟨k1,k2,k3,k4,k5,k6⟩=>by
  by_cases q:p.L<=y
  ·obtain⟨k,h1,h2,h3⟩:=k6.cutL (y:=y);refine⟨k+1,by simp;omega,fun i p' e h=>?_,fun i p' e h=>?_⟩
   ·cases i with
    | zero=>cases e;exact q
    | succ i=>exact h2 i p' (by simpa using e) (by omega)
   ·cases i with
    | zero=>omega
    | succ i=>exact h3 i p' (by simpa using e) (by omega)
  ·refine⟨0,Q8 _,fun i p _ h=>absurd h (RS _),fun i p' e _=>?_⟩;cases i with
   | zero=>cases e;exact⟨by grind,k4⟩
   | succ i =>obtain⟨_,a1,_,_,a2⟩:=k6.at_ (show r[i]?=some p' by simpa using e);exact⟨by grind,a1⟩
theorem RtF.cutL {y:Rat}(h:RtF L):∃k,k<=L.length/\(∀(i:Nat) p,L[i]?=some p->i<k->p.L<=y)/\∀(i:Nat) p,L[i]?=some p->k<=i->y<p.L/\p.L<=p.H:=by
 cases L with
 | nil=>exact⟨0,P6 _,fun i p e=>by simp at e,fun i p e=>by simp at e⟩
 | cons a r=>exact Rt.cutL (b:=a.E-1) (hh:=a.L) ⟨h.1,by grind,by grind,h.2.1,h.2.2.1,h.2.2.2.2⟩
theorem M0:bR 0 L i=val (bg L i):=by
 cases i with
 | zero=>exact val_nought.symm
 | succ i =>
  show ((L[i]?).map Pc.E).getD 0=val (((L[i]?).map Pc.e).getD (0,1));cases L[i]? with
  | none=>exact val_nought.symm
  | some p=>rfl
noncomputable def gLa (y:Nat × Nat):PV->Bool
 | .tup (_::.tup [.int a,.int b]::_)=>!decide (y.1*b.toNat<a.toNat*y.2)
 | _=>false
theorem Fz {as st Q}(h:iH as st Q):aw Γ jW (frame 6 as) st (ag st Q):=by
 obtain⟨j,m,L,y,rfl,⟨j1,j2⟩,hR,hz,cy,yz,hl,k⟩:=h;unfold jW;walk_at "WP";obtain⟨n,n1,n2,n3⟩:=hR.cutL (y:=val y);have hc:=Ao (b:=0) (acc:=none) n1 n2 n3;have hg:∀(i:Nat) p,L[i]?=some p->gLa y ((L.map pcV).getD i .non)=!decide (y.1*p.l.2<p.l.1*y.2):=fun i p e=>by rw[R_,QK,e];rfl
 have hb:bsr (gLa y) (L.map pcV)=n:=by
  refine yD (by simpa using n1) (fun i hi=>?_) (fun i h1 h2=>?_)
  ·have ha:L[i]?=some L[i]:=P9 (by omega);rw[hg i _ ha,QJ]
   ·rfl
   ·intro z;have:=(dm cy.pos (hz _ (P_ ha)).l.pos).mp z;have:=n2 i _ ha hi;grind
  ·have h3:i<L.length:=by simpa using h2
   have ha:L[i]?=some L[i]:=P9 h3;rw[hg i _ ha,QM]
   ·rfl
   ·exact(dm cy.pos (hz _ (P_ ha)).l.pos).mpr (n3 i _ ha h1).1
 refine⟨by simp;omega,fun i hi=>?_,gLa y,fun x hx Q' q=>?_,?_⟩
 ·rw[QI] at hi;subst hi;exact⟨fr y,rfl,by simp[PV.bel,PV.bels]⟩
 ·obtain⟨p,hp,rfl⟩:=QQ.mp hx;walk_at "WP";exact⟨_,_,rfl,yz.mono (by omega),(hz p hp).l.mono (by omega),_,rfl,q⟩
 ·rw[hb];cases n with
  | zero =>rw[QA (by decide)];rw[QA rfl] at hc;exact .inl (k none (fun z hz=>nomatch hz) hc)
  | succ n =>
   have e1:((n+1:Nat):Int)-1=n:=by omega
   rw[QC (by omega),e1];rw[QC (UQ n),UI,M0] at hc;have ha:L[n]?=some L[n]:=P9 (by omega);obtain⟨p,hp⟩:∃p,L[n]?=some p:=⟨_,ha⟩;have pz:=hz p (P_ hp);obtain⟨pok,p1,p2⟩:=hR.at_ hp;obtain⟨b1,b2,b3,b4⟩:=nb hR hp;have bz:Sz j (bg L n):=bgZ hz (by omega) j1;have hly:=n2 n p hp (S1 n);rw[hp,TF] at hc;refine⟨pcV p,de (by rw[QK,hp];rfl),?_⟩;walk_at "WP";refine⟨_,_,rfl,yz.mono (by omega),pz.h.mono (by omega),?_⟩;by_cases q:val y<p.H
   ·rw[QM ((dm yz.pos pz.h.pos).mpr q)];rw[QC (show ¬p.H<=val y by grind)] at hc;walk_at "WP";refine⟨L,n,rfl,by omega,?_⟩;rw[oz];walk_at "WP";refine⟨j,m,_,_,_,_,_,rfl,⟨j1,j2⟩,⟨pz.l,bz,pz.h,pz.e,yz⟩,⟨by grind,hly,by grind⟩,fun r cr sr vr=>.inl (k (some r) (fun z hz=>by cases hz;exact⟨cr,sr⟩) ?_)⟩;rw[hc,TF,vr,Rat.mul_comm]
   ·rw[QJ (fun z=>q ((dm yz.pos pz.h.pos).mp z))];rw[QA (show p.H<=val y by grind)] at hc;walk_at "WP";exact .inl (k (some p.e) (fun z hz=>by cases hz;exact⟨pok.e,pz.e.mono (by omega)⟩) hc)
theorem Lp (c:Nat):(!(Builtin.Str.occurrences "0123456789" ⟨#[c]⟩ 0 (Str.length "0123456789") 1).isEmpty)=decide (48<=c/\c<=57):=by
 have f:=TL (Str.ofString "0123456789") c;refine f.trans ?_;have e:c∈(Str.ofString "0123456789").cps.toList↔48<=c/\c<=57:=by show c∈[48,49,50,51,52,53,54,55,56,57]↔_;simp only[List.mem_cons,List.not_mem_nil,or_false];omega
 exact decide_eq_decide.mpr e
noncomputable def inF:PV->Bool
 | .str x=>!(Builtin.Str.occurrences "0123456789" x 0 (Str.length "0123456789") 1).isEmpty
 | _=>false
theorem Ho (z:Str):((je z).map inF).all id=z.cps.toList.all (fun c=>decide (48<=c/\c<=57)):=by unfold je;rw[SO,UU];congr 1;funext c;exact Lp c
theorem figs_ne {z:Str}:z=Str.ofString ""↔z.cps.toList=[]:=⟨fun h=>by rw[h];rfl,fun h=>jq h⟩
theorem Cw {c:Nat}:(({ cps:=#[c] }:Str)=Str.ofString "0")↔c=48:=⟨fun h=>by have:=Q0 (fun z:Str=>z.cps.toList) h;exact List.head_eq_of_cons_eq this,fun h=>by rw[h];rfl⟩
theorem wt (h:bW st x=some n):(bH "str" n=true->∃z,x=.str z)/\(bH "str" n=false->rdF x=none):=by
 cases x with
 | str z=>cases h;exact⟨fun _=>⟨z,rfl⟩,fun z=>absurd z (by decide)⟩
 | ref k =>unfold bW at h;simp only at h;split at h <;> cases h <;> exact⟨fun z=>absurd z (by decide),fun _=>rfl⟩
 | fn a=>cases h
 | _=>cases h;exact⟨fun z=>absurd z (by decide),fun _=>rfl⟩
theorem nH {as st Q}(h:bc as st Q):aw Γ dj (frame 1 as) st (ag st Q):=by
 obtain⟨z,rfl,hl,k⟩:=h;unfold dj;walk_at "WP";by_cases h0:z=Str.ofString ""
 ·rw[QA h0];have e:eK z=false:=by subst h0;rfl
  rw[e] at k;exact .inl k
 rw[QC h0];refine⟨by simp only[je,List.length_map];rw[<-aq];omega,?_⟩;refine FW.comp_map Γm (fun v=>.bl (inF v)) trivial (fun v hv=>?_) ?_
 ·obtain⟨c,hc,rfl⟩:=QQ.mp hv;walk_at "WP";rfl
 refine⟨_,au aE,_,eJ (f:=inF),.app rfl ?_⟩;rw[Ho];obtain⟨c,r,hz⟩:∃c r,z.cps.toList=c::r:=by
  cases e:z.cps.toList with
  | nil=>exact absurd (figs_ne.mpr e) h0
  | cons c r=>exact⟨c,r,rfl⟩
 cases ha:z.cps.toList.all (fun c=>decide (48<=c/\c<=57)) with
 | false =>
  walk_at "WP";have e:eK z=false:=by unfold eK;rw[ha];simp
  rw[e] at k;exact .inl k
 | true =>
  walk_at "WP";by_cases h1:z=Str.ofString "0"
  ·rw[QA h1];have e:eK z=true:=by subst h1;decide
   rw[e] at k;exact .inl k
  ·rw[QC h1];refine⟨by omega,c,by rw[hz];exact de (xs:=c::r) (j:=0) rfl,?_⟩;have e:eK z=!decide (({ cps:=#[c] }:Str)=Str.ofString "0"):=by unfold eK;rw[ha,hz,QJ h1];simp[Cw]
   rw[<-e];exact .inl k
theorem Ep (h:eK z=true)(hl:z.length<=5000)(k:Nat):PySem.NumText.digitsVal (z.cps.toList.take k)<2 ^ 20000:=by have:=AF (l:=z.cps.toList.take k) fun c hc=>(Gi h).1 c (SZ hc);rw[aq] at hl;exact Ii this (by rw[RI];omega)
theorem tH {as st Q}(h:aN as st Q):dR Γ ΓR eW (frame 4 as) st (me st Q) (qS st Q):=by
 obtain⟨z,rfl,hl,k⟩:=h;unfold eW;walk_at "WP";refine⟨z,rfl,hl,?_⟩;cases hz:eK z with
 | false =>rw[hz] at k;walk_at "WP";exact .inl k
 | true =>
  rw[hz,QA rfl] at k;walk_at "WP";have e64:((z.length:Int) % 64)=((z.length % 64:Nat):Int):=by omega
  rw[e64];have hh:z.length % 64<=z.length:=Nat.mod_le ..;obtain⟨nd,ne⟩:=Gi hz;have hc:=MA hh;have hcl:(l4 z none (some ((z.length % 64:Nat):Int))).length=z.length % 64:=by rw[aq,hc,RI,<-aq];omega
  have h0:(Str.ofString "0").length=1:=rfl;have ef:(Str.ofString "0"++l4 z none (some ((z.length % 64:Nat):Int))).cps.toList=48::z.cps.toList.take (z.length % 64):=by rw [cH,hc];rfl
  have h1:(Str.ofString "0"++l4 z none (some ((z.length % 64:Nat):Int))).length=1+z.length % 64:=by rw [aq,ef,R6,RI,<-aq];omega
  have hr:=PySem.intText_digits (x:=Str.ofString "0"++l4 z none (some ((z.length % 64:Nat):Int))) (by
   intro c hc;rw[ef] at hc;rcases QZ.mp hc with rfl|hc
   ·decide
   ·exact nd c (SZ hc)) (by rw[ef];exact fun z=>nomatch z) (by omega)
  rw[ef,DJ] at hr;refine⟨by omega,by omega,by omega,by omega,_,hr,by omega,by omega,by omega,by omega,by omega,?_⟩;have hn:rSz ((z.length % 64:Nat):Int) z.length 64=z.length/64:=by unfold rSz;split <;> omega
  rw[hn];refine iD Γm (fun i ρ s=>s=st/\∃c,ρ=[some (.str z),some (.int ((z.length % 64:Nat):Int)),some (.int (PySem.NumText.digitsVal (z.cps.toList.take (z.length % 64+i*64)):Nat)),c]) ⟨rfl,none,by rw[U7,Nat.add_zero]⟩ (fun i v ρ s hi hI=>?_) ?_
  ·obtain⟨rfl,c,rfl⟩:=hI;have hin:i<z.length/64:=by have:=(P8.mp hi).1;simpa[jl] using this
   have hv:v=.int ((z.length % 64+i*64:Nat):Int):=by unfold jl at hi;rw[QK,SI hin] at hi;rw[<-Q2 hi];simp
   subst hv;refine⟨trivial,?_⟩;have hb:z.length % 64+i*64+64<=z.length:=by omega
   have hm:=GT (z:=z) (a:=z.length % 64+i*64) (b:=z.length % 64+i*64+64) (by omega) hb;rw[show z.length % 64+i*64+64-(z.length % 64+i*64)=64 by omega] at hm;have eb:((z.length % 64+i*64:Nat):Int)+64=((z.length % 64+i*64+64:Nat):Int):=by omega
   walk_at "WP";rw[eb];have hml:(l4 z (some ((z.length % 64+i*64:Nat):Int)) (some ((z.length % 64+i*64+64:Nat):Int))).length=64:=by rw[aq,hm,RI,R5,<-aq];omega
   have hr2:=PySem.intText_digits (x:=l4 z (some ((z.length % 64+i*64:Nat):Int)) (some ((z.length % 64+i*64+64:Nat):Int))) (by intro c hc;rw[hm] at hc;exact nd c (List.mem_of_mem_drop (SZ hc))) (fun e=>by rw[aq,e] at hml;cases hml) (by omega)
   refine⟨.inl ⟨Ep hz hl _,by decide +kernel⟩,by omega,by omega,_,hr2,⟨s,[],(SD _).symm,rfl,fun _ _=>.inl rfl,rfl,?_⟩⟩;walk_at "WP";have ev:PySem.NumText.digitsVal (z.cps.toList.take (z.length % 64+(i+1)*64))=PySem.NumText.digitsVal (z.cps.toList.take (z.length % 64+i*64))*10 ^ 64+PySem.NumText.digitsVal (l4 z (some ((z.length % 64+i*64:Nat):Int)) (some ((z.length % 64+i*64+64:Nat):Int))).cps.toList:=by rw[hm,show z.length % 64+(i+1)*64=(z.length % 64+i*64)+64 by omega,List.take_add,Bi,show ((z.cps.toList.drop (z.length % 64+i*64)).take 64).length=64 by rw[<-hm,<-aq];exact hml,<-hm]
   rw[ev];rw[T5,QW];rfl
  ·rintro ρ s ⟨rfl,c,rfl⟩;refine⟨trivial,?_⟩;walk_at "WP";have e:z.length % 64+(jl ((z.length % 64:Nat):Int) 64 (z.length/64)).length*64=z.length:=by simp only[jl,List.length_map,List.length_range];omega
   rw[e,aq,SJ];exact .inl k
theorem Mf (z:Str):rdF (.str z)=if eK (kI z)=true then (if sD z=true then (if eK (lJ z)=true/\2<=eE (lJ z)/\Nat.gcd (eE (kI z)) (eE (lJ z))=1 then some (eE (kI z),eE (lJ z)) else none) else some (eE (kI z),1)) else none:=rfl
theorem pb {as st Q}(h:aJ as st Q):dR Γ ΓR dI (frame 6 as) st (me st Q) (qS st Q):=by
 obtain⟨x,rfl,⟨hb,hl⟩,k⟩:=h;unfold dI;walk_at "WP";obtain⟨n,hn⟩:=bo hb;obtain⟨k1,k2⟩:=wt hn;refine⟨n,hn,?_⟩;cases hk:bH "str" n with
 | false =>rw[QA rfl];rw[k2 hk] at k;exact .inl k
 | true =>
  rw[QC (by decide)];obtain⟨z,rfl⟩:=k1 hk;have hl:=hl z rfl;refine⟨z,rfl,by omega,?_⟩;rw[AX];have hA:=GH z;have hB:=Dw z;rw[Mf] at k;cases hs:sD z with
  | false =>
   rw[QC (by decide)];rw[hs,AW hs] at k;refine⟨rfl,_,_,rfl,_,_,rfl,_,_,rfl,rfl,z,rfl,hl,?_⟩;cases hz:eK z with
   | true =>rw[hz] at k;rw[QA rfl];simp only[kg];walk_at "WP";exact .inl k
   | false =>rw[hz] at k;exact .inl k
  | true =>
   rw[QA rfl];rw[hs] at k;refine⟨rfl,_,_,rfl,_,_,rfl,_,_,rfl,rfl,_,rfl,by omega,?_⟩;cases hz:eK (kI z) with
   | false =>rw[hz] at k;exact .inl k
   | true =>
    rw[hz,QA rfl,QA rfl] at k;rw[QA rfl];simp only[kg];walk_at "WP";rw[QC (by decide)];refine⟨_,rfl,by omega,?_⟩;cases hy:eK (lJ z) with
    | false =>rw[hy,QC (fun z=>absurd z.1 (by decide))] at k;exact .inl k
    | true =>
     rw[hy] at k;rw[QA rfl];simp only[kg];walk_at "WP";by_cases h2:eE (lJ z)<2
     ·rw[QC (fun z=>by omega)] at k;rw[QA (by omega)];exact .inl k
     ·rw[QC (by omega)];refine⟨_,_,rfl,?_⟩;walk_at "WP";by_cases hg:Nat.gcd (eE (kI z)) (eE (lJ z))=1
      ·rw[QA ⟨rfl,by omega,hg⟩] at k;rw[hg];walk_at "WP";exact .inl k
      ·rw[QC (fun z=>hg z.2.2)] at k;rw[QA (by omega)];exact .inl k
open PySem L2 HX FW
noncomputable def jn (s:List Nat):List (List Nat)->List Nat
 | []=>[]
 | [x]=>x
 | x::y::r=>x++(s++jn s (y::r))
noncomputable abbrev tl (z:Str):List Nat:=z.cps.toList
theorem mZ (y:Str):∀ps:List Str,tl (Str.join y ps)=jn (tl y) (ps.map tl)
 | []=>rfl
 | [x]=>rfl
 | x::z::r=>by show tl (x++y++Str.join y (z::r))=tl x++(tl y++jn (tl y) ((z::r).map tl));rw[<-mZ y (z::r)];show (x++y++_).cps.toList=_;rw[cH,cH,QY]
theorem xK (z y:Str):tl z=jn (tl y) ((Txt.split z y).map tl):=by rw[<-mZ,S9]
theorem JM:∀ {ps:List (List Nat)},p∈ps->p <:+: jn s ps
 | [x],h=>by rw[QI.mp h];exact List.infix_refl _
 | x::y::r,h=>by
  rcases QZ.mp h with rfl|h
  ·exact⟨[],s++jn s (y::r),rfl⟩
  ·exact(JM (s:=s) h).trans ⟨x++s,[],by simp[jn]⟩
theorem Al:∀ {ps:List (List Nat)},c∈jn s ps->c∈s\/∃p∈ps,c∈p
 | [x],h=>.inr ⟨x,QI.mpr rfl,h⟩
 | x::y::r,h=>by
  rcases Q5.mp h with h|h
  ·exact .inr ⟨x,QL,h⟩
  ·rcases Q5.mp h with h|h
   ·exact .inl h
   ·rcases Al h with h|⟨p,hp,h⟩
    ·exact .inl h
    ·exact .inr ⟨p,QD _ hp,h⟩
theorem Dk {s:List Nat}:∀ {ps:List (List Nat)},ps≠[]->(jn s ps).length+s.length=(ps.map List.length).sum+ps.length*s.length
 | [],h=>absurd rfl h
 | [x],_=>by simp[jn]
 | x::y::r,_=>by have:=Dk (s:=s) (ps:=y::r) (fun e=>nomatch e);rw[jn,QS,QS,QN,List.sum_cons,R6,Nat.succ_mul];omega
theorem Gc (z y:Str):Txt.split z y≠[]:=by
 unfold Txt.split;split
 ·exact fun e=>nomatch e
 ·split
  ·exact fun e=>nomatch e
  ·rw[PySem.StrLaws.partsBetween_eq];obtain⟨p,r,e⟩:=PySem.StrLaws.partsFrom_ne z y.length 0 (Builtin.Str.occurrences z y 0 z.length (z.length+1));rw[e];exact fun e=>nomatch e
theorem E8 {p:Str}(h:p∈Txt.split z y):tl p <:+: tl z:=by rw[xK z y];exact JM (QQ.mpr ⟨p,h,rfl⟩)
theorem xH {p:Str}(h:p∈Txt.split z y):p.length<=z.length:=by rw[aq,aq];exact(E8 h).length_le
theorem Ce (z y:Str):z.length+y.length=((Txt.split z y).map Str.length).sum+(Txt.split z y).length*y.length:=by have:=Dk (s:=tl y) (ps:=(Txt.split z y).map tl) (fun e=>Gc z y (List.map_eq_nil_iff.mp e));rw[<-xK,<-aq,<-aq,SO,QO] at this;rw[this];rw[show (Txt.split z y).map Str.length=(Txt.split z y).map (List.length ∘ tl) from List.map_congr_left fun p _=>aq p]
theorem rQ {z y:Str}(h:1<=y.length):(Txt.split z y).length*y.length<=z.length+y.length:=by have:=Ce z y;omega
theorem Asked.sub (h:Asked z)(hp:tl p <:+: tl z):Asked p:=fun l hl=>h l (hl.trans hp)
theorem Bz:∀(n:Nat) {l:List Nat},l.length=n->(∀c∈l,48<=c/\c<=57)->l≠[]->(l=[48]\/l.head?≠some 48)->dg (PySem.NumText.digitsVal l)=l
 | 0,l,hn,_,h,_=>absurd (RZ.mp hn) h
 | n+1,l,hn,hf,hne,hh=>by
  have e:=(List.dropLast_concat_getLast hne).symm;generalize l.dropLast=a at e;generalize l.getLast hne=c at e;subst e;have hc:=hf c (by simp);rw[Ez];cases a with
  | nil=>rw[show PySem.NumText.digitsVal []=0 from rfl,fq (by omega)];simp;omega
  | cons x r =>
   have hx:x≠48:=by
    rcases hh with h|h
    ·simp at h
    ·intro e;subst e;simp at h
   have ih:=Bz n (l:=x::r) (by simpa using hn) (fun c h=>hf c (RY _ h)) (fun e=>nomatch e) (.inr (by simpa using hx));have h0:PySem.NumText.digitsVal (x::r)≠0:=fun e=>by rw[e] at ih;have:dg 0=[48]:=fq (by decide);rw[this] at ih;exact hx (List.cons.inj ih).1.symm
   rw[p_ (by omega),show (PySem.NumText.digitsVal (x::r)*10+(c-48))/10=PySem.NumText.digitsVal (x::r) by omega,ih,show (PySem.NumText.digitsVal (x::r)*10+(c-48)) % 10=c-48 by omega,show 48+(c-48)=c by omega]
theorem Mp {z:Str}(hf:∀c∈tl z,48<=c/\c<=57)(hne:tl z≠[]):eK z=true↔nt (eE z)=z:=by
 constructor
 ·intro h;refine jq ?_;rw[f6];refine Bz _ rfl hf hne ?_;unfold eK at h;rw[QB,R3] at h;rcases h.2 with h|h
  ·exact .inl (by rw[RB h];rfl)
  ·exact .inr fun e=>by rw[QM e] at h;cases h
 ·intro h;have h:dg (eE z)=z.cps.toList:=by rw[<-f6,h]
  obtain⟨c,r,e1,e2⟩:=BG (eE z);unfold eK;rw[QB,QB,R3];refine⟨⟨by cases q:z.cps.toList with|nil=>exact absurd q hne|cons _ _=>rfl,SN.mpr fun c hc=>QM (hf c hc)⟩,?_⟩;by_cases hc:c=48
  ·left
   have e0:=e2 hc;rw[e0] at h;exact QM (jq (by rw[<-h];exact fq (by decide)))
  ·right
   rw[<-h,e1];simp[hc]
theorem uw (z:Str):sD z=decide (47∈tl z):=TL z 47
theorem lE {p:Str}(h:p∈Txt.split z "/"):47 ∉ tl p:=PySem.StrLaws.split_free z 47 p h
theorem HJ {a:Str}(h:Txt.split z "/"=[a]):a=z/\rdW z=if eK z=true then some (eE z,1) else none:=by
 have e:a=z:=by have:=S9 z "/";rw[h] at this;exact this
 subst e;have hs:sD a=false:=by rw[uw];exact QJ (lE (by rw[h];exact QI.mpr rfl))
 refine⟨rfl,?_⟩;unfold rdW rdF;simp only[hs,AW hs,Bool.false_eq_true,if_false]
theorem GR {a:Str}(h:Txt.split z "/"=[a,b]):z=a++("/":Str)++b/\rdW z=if eK a=true/\eK b=true/\2<=eE b/\Nat.gcd (eE a) (eE b)=1 then some (eE a,eE b) else none:=by
 have e:a++("/":Str)++b=z:=by have:=S9 z "/";rw[h] at this;exact this
 have fa:47 ∉ tl a:=lE (by rw[h];simp);have fb:47 ∉ tl b:=lE (by rw[h];simp);have hs:sD z=true:=by rw[uw,<-e];refine QM ?_;show 47∈(a++("/":Str)++b).cps.toList;rw[cH,cH];simp;exact .inr (.inl (by decide +kernel))
 have p1:=Gg fa fb;rw[e,AX,QA hs] at p1;simp only[List.cons.injEq,PV.str.injEq,and_true,true_and] at p1;refine⟨e.symm,?_⟩;unfold rdW rdF;simp only[hs,p1.1,p1.2,if_true];by_cases ha:eK a=true
 ·simp only[ha,if_true,true_and]
 ·rw[QC ha,QC (fun q=>ha q.1)]
theorem iQ {α β γ:Type}{f:α->Option β}{g:β->γ}:∀ {ws:List α},df (ws.map fun w=>(f w).map g)=(df (ws.map f)).map (List.map g)
 | []=>rfl
 | w::ws=>by
  rw[QN,QN];cases h:f w with
  | none=>rfl
  | some b =>show (df (ws.map fun w=>(f w).map g)).map (g b::·)=((df (ws.map f)).map (b::·)).map (List.map g);rw[iQ];cases df (ws.map f) <;> rfl
theorem nX {sp:FSp}{chk:AH->Prop}{f:Str->Option PV}{Q:LK}{Wx:XW}(hc:chk st):∀(ws:List Str) (acc:List PV),(∀w∈ws,∀K:EK,K (Ab (f w)) st->sp [.str w] st K)->(∀vs,df (ws.map f)=some vs->Q (acc++vs) st)->(df (ws.map f)=none->Wx 0 st)->fP sp chk (ws.map PV.str) acc st Q Wx
 | [],acc,_,h,_=>by have:=h [] rfl;rw[SD] at this;exact⟨hc,this⟩
 | w::ws,acc,hs,h,hn=>by
  refine⟨hc,hs w QL _ ?_⟩;cases hw:f w with
  | none=>exact hn (by rw[QN,hw];rfl)
  | some v =>
   refine nX hc ws (acc++[v]) (fun w' h'=>hs w' (QD _ h')) (fun vs e=>?_) fun e=>hn ?_
   ·rw[QY];exact h (v::vs) (by rw[QN,hw];show (df _).map _=_;rw[e];rfl)
   ·rw[QN,hw];show (df _).map _=_;rw[e];rfl
theorem GG:(pV l).bel k=true:=by
 rw[PV.bel]
 induction l with
 | nil=>rfl
 | cons p l ih=>rw[QN,PV.bels,FT,ih];rfl
theorem Fj:(lV L).bel k=true:=by
 rw[PV.bel]
 induction L with
 | nil=>rfl
 | cons p l ih=>rw[QN,PV.bels,GG,ih];rfl
theorem Hg (o:Option (Nat × Nat)):frR o=Ab (o.map fr):=by
 cases o with
 | none=>rfl
 | some p=>rfl
theorem v_ {as st Q}(h:a0 as st Q):dR Γ ΓR fG (frame 1 as) st (me st Q) (qS st Q):=by
 obtain⟨z,rfl,h1,k⟩:=h;unfold fG;walk_at "WP";have hm:=rQ (z:=z) (y:=" ") (by decide);rw [show (Str.ofString " ").length=1 from rfl,Nat.mul_one] at hm;refine⟨by decide,by omega,by omega,_,ao aE,by rw[QO];omega,?_⟩;refine nX (f:=fun w=>(rdW w).map fr) (by rw[rT]) _ [] (fun w hw K hK=>⟨_,rfl,⟨rfl,fun z' e=>?_⟩,?_⟩) (fun vs e=>?_) fun e=>?_
 ·cases e;exact QP (xH hw) h1
 ·rw[Hg];exact hK
 ·rw[iQ] at e;have hk:rdP z=df ((Txt.split z " ").map rdW):=rfl;rw[<-hk] at e;obtain⟨l,e1,rfl⟩:=Q9.mp e;rw[e1] at k;rw[QY];exact .inr (.app GG k)
 ·rw[iQ] at e;have hk:rdP z=df ((Txt.split z " ").map rdW):=rfl;rw[<-hk] at e;rw[Option.map_eq_none_iff.mp e] at k;exact .inr (.app rfl k)
theorem vT {as st Q}(h:aZ as st Q):dR Γ ΓR fA (frame 2 as) st (me st Q) (qS st Q):=by
 obtain⟨x,rfl,⟨⟨hb,hl⟩,hz⟩,k⟩:=h;unfold fA;walk_at "WP";obtain⟨n,hn⟩:=bo hb;obtain⟨k1,_⟩:=wt hn;refine⟨n,hn,?_⟩;cases hk:bH "str" n with
 | false =>
  rw[QA rfl];have:rdS x=none:=by
   cases x with
   | str z=>cases hn;exact absurd hk (by decide)
   | _=>rfl
  rw[this] at k;exact .inl k
 | true =>
 rw[QC (by decide)];obtain⟨z,rfl⟩:=k1 hk;have hl:=hl z rfl;have hz:=hz z rfl;show if decide (z=Str.ofString "never")=true then _ else _
 by_cases hv:z=Str.ofString "never"
 ·rw[QA (QM hv)];have:rdS (.str z)=some (.tup []):=by rw[rdS,QA hv]
  rw[this] at k;exact .inl k
 rw[QC (by rw[QJ hv];decide)];rw[rdS,QC hv] at k;have hm:=rQ (z:=z) (y:="; ") (by decide);rw [show (Str.ofString "; ").length=2 from rfl] at hm;refine⟨⟨z,rfl⟩,by decide,by omega,by omega,_,ao aE,by rw[QO];omega,?_⟩;refine nX (f:=fun w=>(rdP w).map pV) (by rw[rT]) _ [] (fun w hw K hK=>⟨_,rfl,QP (xH hw) hl,hK⟩) (fun vs e=>?_) fun e=>?_
 ·rw[iQ] at e;have hk:rdL z=df ((Txt.split z "; ").map rdP):=rfl;rw[<-hk] at e;obtain⟨L,e1,rfl⟩:=Q9.mp e;rw[e1] at k;have hz:=hz L e1;rw[T4];refine⟨_,rfl,Fj,hz,?_⟩;cases hi:mQ (lV L) with
  | false =>simp only[hi,Bool.false_eq_true,if_false] at k;walk_at "WP";exact .inr (.app rfl k)
  | true =>simp only[hi,if_true] at k;walk_at "WP";exact .inr (.app Fj k)
 ·rw[iQ] at e;have hk:rdL z=df ((Txt.split z "; ").map rdP):=rfl;rw[<-hk] at e;rw[Option.map_eq_none_iff.mp e] at k;exact .inr (.app rfl k)
theorem mn (y:Str)(ps:List Str):Txt.join y ps=Str.join y ps:=PySem.StrLaws.glued_eq_join y ps
theorem iV {sep:Str}{S:List Str}{B:Nat}(hB:∀y∈S,y.length<=B)(h:S.length*B+S.length*sep.length<=16777216):JoinOk sep S=true:=by unfold JoinOk;rw[PySem.StrLaws.joinFits hB h];rfl
theorem L8 {B:Nat}:∀ {S:List Str},(∀y∈S,y.length<=B)->(S.map (fun x=>x.length)).sum<=S.length*B:=fun {S} h=>PySem.StrLaws.sumLen_le S h
theorem BN {sep:Str}{S:List Str}{B:Nat}(h:∀y∈S,y.length<=B):(Txt.join sep S).length<=S.length*B+S.length*sep.length:=by rw[mn];exact QP (PySem.StrLaws.join_length_le sep S) (Nat.add_le_add_right (L8 h) _)
theorem at_iff {x y:Str}:PySem.StrLaws.At x y x.length k↔k+y.length<=x.length/\((tl x).drop k).take y.length=tl y:=by unfold PySem.StrLaws.At;rw[PySem.StrLaws.subAt_eq,TZ]
theorem Bs {x:Str}{c:Nat}{ys:List Nat}(hy:tl y=c::ys)(h:PySem.StrLaws.At x y x.length k):(tl x)[k]?=some c:=by
 obtain⟨_,h⟩:=at_iff.mp h;rw[hy] at h;have e:=Q0 (fun l:List Nat=>l[0]?) h;have hl:y.length=ys.length+1:=by rw[aq];show (tl y).length=_;rw[hy];rfl
 simp only[List.getElem?_cons_zero] at e;rw[SH (by omega),TJ] at e;exact e
theorem lQ {x:Str}{c:Nat}{ys:List Nat}(hy:tl y=c::ys):∀(S:List Str) (cuts:List Nat) (a f:Nat),S≠[]->(∀p∈S,c ∉ tl p)->(tl x).drop a=jn (tl y) (S.map tl)->PySem.StrLaws.ChainG x y x.length a cuts f->(∀k,f<=k->¬PySem.StrLaws.At x y x.length k)->PySem.StrLaws.partsFrom x y.length a cuts=S
 | [],_,_,_,h,_,_,_,_=>absurd rfl h
 | [p],cuts,a,f,_,hf,e,hc,hn=>by
  have e:(tl x).drop a=tl p:=e;cases cuts with
  | nil =>show [Builtin.Str.strSub x a x.length]=[p];congr 1;refine jq ?_;rw[RC,TU (by rw[R5,aq];exact P6 _)];exact e
  | cons d r =>exfalso;obtain⟨h1,h2,_⟩:=hc;have:=Bs hy h2;rw[show d=a+(d-a) by omega,<-TJ,e] at this;exact hf p (QI.mpr rfl) (P_ this)
 | p::q::S,cuts,a,f,_,hf,e,hc,hn=>by
  have e:(tl x).drop a=tl p++(tl y++jn (tl y) ((q::S).map tl)):=e;have hl:=Q0 List.length e;rw[R5,QS,QS] at hl;have hlx:x.length=(tl x).length:=aq x;have hly:y.length=(tl y).length:=aq y;have hy1:(tl y).length=ys.length+1:=by rw[hy];rfl
  have ha:PySem.StrLaws.At x y x.length (a+(tl p).length):=at_iff.mpr ⟨by omega,by rw[<-List.drop_drop,e,List.drop_left,hly,U1]⟩
  have hno:∀k,a<=k->k<a+(tl p).length->¬PySem.StrLaws.At x y x.length k:=fun k h1 h2 hA=>by have:=Bs hy hA;rw[show k=a+(k-a) by omega,<-TJ,e,QT (by omega)] at this;exact hf p QL (P_ this)
  cases cuts with
  | nil =>have hc:f=a:=hc;exact absurd ha (hn _ (by omega))
  | cons d r =>
   obtain⟨h1,h2,h3,h4⟩:=hc;have hd:d=a+(tl p).length:=by
    by_cases g:d<a+(tl p).length
    ·exact absurd h2 (hno d h1 g)
    ·by_cases g2:a+(tl p).length<d
     ·exact absurd ha (h3 _ (by omega) g2)
     ·omega
   show Builtin.Str.strSub x a d::PySem.StrLaws.partsFrom x y.length (d+y.length) r=p::q::S;congr 1
   ·refine jq ?_;rw[RC];show ((tl x).drop a).take (d-a)=tl p;rw[e,show d-a=(tl p).length by omega,U1]
   ·refine lQ hy (q::S) r _ f (fun z=>nomatch z) (fun p' hp=>hf p' (QD _ hp)) ?_ h4 hn;rw[hd,hly,Nat.add_assoc,<-List.drop_drop,e,<-QY,List.drop_left' (by rw[QS])]
theorem Gy (x:Str):1<=Builtin.Str.strKind x:=by
 unfold Builtin.Str.strKind;split
 ·exact P6 _
 ·split <;> decide
theorem i3 {c:Nat}{ys:List Nat}(hy:tl y=c::ys)(hk:Builtin.Str.strKind y=1){S:List Str}(hS:S≠[])(hf:∀p∈S,c ∉ tl p):Txt.split (Str.join y S) y=S:=by
 have hj:tl (Str.join y S)=jn (tl y) (S.map tl):=mZ y S;generalize Str.join y S=x at hj;have hy1:1<=y.length:=by rw[aq];show 1<=(tl y).length;rw[hy];simp
 obtain⟨f,hG,hn⟩:=PySem.StrLaws.occ_tight x y hy1;have none_:(∀k,¬PySem.StrLaws.At x y x.length k)->[x]=S:=fun h=>by have:=lQ (x:=x) hy S [] 0 0 hS hf (by rw[R8];exact hj) rfl (fun k _=>h k);rw[<-this];show [x]=[Builtin.Str.strSub x 0 x.length];rw[PySem.StrLaws.sub_whole]
 unfold Txt.split;split
 ·rename_i hc;rw[R3,decide_eq_true_eq,decide_eq_true_eq] at hc;have:=Gy x;exact none_ fun k hA=>by have:=hA.1;omega
 ·split
  ·rename_i he;rw[List.isEmpty_iff.mp he] at hG;have ef:f=0:=hG;subst ef;exact none_ fun k=>hn k (Q8 _)
  ·rw[PySem.StrLaws.partsBetween_eq];exact lQ hy S _ 0 f hS hf (by rw[R8];exact hj) hG hn
theorem KB (n:Nat):eK (nt n)=true/\eE (nt n)=n:=by
 have hv:eE (nt n)=n:=by unfold eE;rw[f6,Mv]
 refine⟨(Mp (fun c hc=>by rw[tl,f6] at hc;exact zP n c hc) (fun e=>?_)).mpr (by rw[hv]),hv⟩;rw[tl,f6] at e;obtain⟨c,r,e',_⟩:=BG n;rw[e'] at e;cases e
theorem y6 (h:Cop p):rdW (ftp p)=some p:=by
 obtain⟨n,d⟩:=p;have h0:0<d:=h.pos;obtain⟨n1,n2⟩:=KB n;obtain⟨d1,d2⟩:=KB d;show rdW (ft n d)=_;unfold ft;by_cases hd:d=1
 ·subst hd;rw[QA rfl];have:=i3 (y:="/") (c:=47) (ys:=[]) rfl (by decide +kernel) (S:=[nt n]) (fun z=>nomatch z) (fun p hp=>by rw [QI.mp hp];exact JU);rw[(HJ (z:=nt n) (a:=nt n) this).2,QA n1,n2]
 ·rw[QC hd];have:=i3 (y:="/") (c:=47) (ys:=[]) rfl (by decide +kernel) (S:=[nt n,nt d]) (fun z=>nomatch z) (fun p hp=>by simp only[List.mem_cons,List.not_mem_nil,or_false] at hp;rcases hp with rfl|rfl <;> exact JU)
  rw [(GR (z:=nt n++("/":Str)++nt d) (a:=nt n) (b:=nt d) this).2,n2,d2,QA ⟨n1,d1,by omega,h.one⟩]
theorem AZ {c:Nat}(h:c∈tl (ftp p)):47<=c/\c<=57:=by
 have hn:∀ {n:Nat},c∈(nt n).cps.toList->47<=c/\c<=57:=fun {n} h=>by rw[f6] at h;have:=zP n c h;omega
 unfold ftp ft at h;split at h
 ·exact hn h
 ·have h:c∈(nt p.1++("/":Str)++nt p.2).cps.toList:=h;rw[cH,cH,Q5,Q5] at h;rcases h with (h|h)|h
  ·exact hn h
  ·have:c=47:=QI.mp h;omega
  ·exact hn h
theorem HB {p:Pc}(h:p.Ok):rdP (pTx p)=some [p.e,p.l,p.h]:=by
 unfold rdP pTx;rw [mn,i3 (y:=" ") (c:=32) (ys:=[]) rfl (by decide +kernel) (S:=[ftp p.e,ftp p.l,ftp p.h]) (fun z=>nomatch z) (fun q hq m=>by simp only[List.mem_cons,List.not_mem_nil,or_false] at hq;rcases hq with rfl|rfl|rfl <;> (have:=AZ m;omega))]
 rw[QN,QN,QN,y6 h.e,y6 h.l,y6 h.h];rfl
theorem wX {c:Nat}(h:c∈tl (pTx p)):c≠59/\c<=57:=by
 have h:c∈tl (Txt.join " " [ftp p.e,ftp p.l,ftp p.h]):=h;rw[mn,mZ] at h;rcases Al h with h|⟨q,hq,h⟩
 ·have:c=32:=QI.mp h;omega
 ·obtain⟨w,hw,rfl⟩:=QQ.mp hq;simp only[List.mem_cons,List.not_mem_nil,or_false] at hw;rcases hw with rfl|rfl|rfl <;> (have:=AZ h;omega)
noncomputable def pcL (p:Pc):List (Nat × Nat):=[p.e,p.l,p.h]
theorem yC:∀ {L:List Pc},(∀p∈L,p.Ok)->df ((L.map pTx).map rdP)=some (L.map pcL)
 | [],_=>rfl
 | p::L,h=>by have ih:=yC (L:=L) fun q hq=>h q (QD _ hq);rw[QN,QN,HB (h p QL)];show (df ((L.map pTx).map rdP)).map _=_;rw[ih];rfl
theorem qx {p:Pc}{L:List Pc}:sTx (p::L)=Str.join "; " ((p::L).map pTx):=mn _ _
theorem BS {L:List Pc}(hL:L≠[])(h:∀p∈L,p.Ok):rdL (sTx L)=some (L.map pcL):=by
 cases L with
 | nil=>exact absurd rfl hL
 | cons p L =>
  unfold rdL;rw [qx,i3 (y:="; ") (c:=59) (ys:=[32]) rfl (by decide +kernel) (S:=(p::L).map pTx) (fun z=>nomatch z) (fun q hq m=>by obtain⟨w,_,rfl⟩:=QQ.mp hq;exact(wX m).1 rfl)]
  exact yC h
theorem FM {L:List Pc}:lV (L.map pcL)=bf L:=by show PV.tup ((L.map pcL).map pV)=PV.tup (L.map pcV);rw[SO];rfl
theorem Co {L:List Pc}(hL:L≠[]):sTx L≠"never":=by
 cases L with
 | nil=>exact absurd rfl hL
 | cons p L =>
  intro e;rw[qx] at e;have h:(110:Nat)∈tl (Str.join "; " ((p::L).map pTx)):=by rw [e];decide
  rw[mZ] at h;rcases Al h with h|⟨q,hq,h⟩
  ·exact absurd h (by decide)
  ·obtain⟨w,hw,rfl⟩:=QQ.mp hq;obtain⟨v,_,rfl⟩:=QQ.mp hw;have:=(wX h).2;omega
theorem Bo {L:List Pc}(h:∀p∈L,p.Ok):rdS (.str (sTx L))=if L=[] then some (bf []) else if (iA L && stB L)=true then some (bf L) else none:=by
 by_cases hL:L=[]
 ·subst hL;rw [QA rfl,rdS,QA (show sTx []="never" from rfl)];rfl
 ·rw[QC hL,rdS,QC (Co hL),BS hL h];dsimp only;rw[FM];have:mQ (bf L)=(iA L && stB L):=by unfold mQ;rw[iK h]
  rw[this]
theorem RtF.oks (h:RtF L):∀p∈L,p.Ok:=fun p hp=>by obtain⟨i,hi⟩:=SG hp;exact(h.at_ hi).1
open Classical in
theorem nD (hR:RtF L)(hN:NG (0,1) L):rdS (.str (sTx L))=some (bf L):=by
 rw[Bo hR.oks];by_cases hL:L=[]
 ·rw[QA hL,hL]
 ·rw[QC hL,QA];unfold iA stB;rw[QM hR,QM hN];rfl
open Classical in
theorem HI (hR:RtF L)(hN:eF L≠L):rdS (.str (sTx L))=none:=by rw[Bo hR.oks,QC (fun e=>by subst e;exact hN rfl),QC];unfold iA stB;rw[QJ (fun z=>hN (yy z)),Bool.and_false];decide
theorem gw {n:Nat}(h:n<10 ^ 64):(nt n).length<=64:=by rw[aq,f6];exact Ag 63 n h
theorem d_ (h:P64 p):(ftp p).length<=129:=by
 unfold ftp ft;have:=gw h.1;have:=gw h.2;split
 ·omega
 ·rw[aq,cH,cH,QS,QS,<-aq,<-aq,<-aq];show (nt p.1).length+1+(nt p.2).length<=129;omega
theorem BB {p:Pc}{B:Nat}(h1:(ftp p.e).length<=B)(h2:(ftp p.l).length<=B)(h3:(ftp p.h).length<=B):∀y∈[ftp p.e,ftp p.l,ftp p.h],y.length<=B:=by intro y hy;simp only[List.mem_cons,List.not_mem_nil,or_false] at hy;rcases hy with rfl|rfl|rfl <;> assumption
theorem vo {p:Pc}{B:Nat}(h1:(ftp p.e).length<=B)(h2:(ftp p.l).length<=B)(h3:(ftp p.h).length<=B):(pTx p).length<=3*B+3:=by have:=BN (sep:=" ") (BB h1 h2 h3);have e:(Str.ofString " ").length=1:=rfl;have:(Txt.join " " [ftp p.e,ftp p.l,ftp p.h]).length<=3*B+3*(Str.ofString " ").length:=this;unfold pTx;omega
theorem BA {L:List Pc}{B:Nat}(h:∀p∈L,(pTx p).length<=B):(sTx L).length<=L.length*B+L.length*2+5:=by
 cases L with
 | nil=>show (Str.ofString "never").length<=_;exact Nat.le_add_left _ _
 | cons p L =>
  have:=BN (sep:="; ") (S:=(p::L).map pTx) (B:=B) fun y hy=>by obtain⟨q,hq,rfl⟩:=QQ.mp hy;exact h q hq
  rw[QO] at this;have e:(Str.ofString "; ").length=2:=rfl;have:(Txt.join "; " ((p::L).map pTx)).length<=(p::L).length*B+(p::L).length*(Str.ofString "; ").length:=this;rw[e] at this;show (Txt.join "; " ((p::L).map pTx)).length<=_;omega
theorem Ba {n:Nat}(h:n<10 ^ 64):(n:Int).natAbs.log2<1920:=by
 rw[UE];by_cases h0:n=0
 ·rw[h0];decide
 ·refine(UK h0).mpr (RQ h ?_);exact P7 (by decide:10 ^ 64<2 ^ 213) (RE (by decide) (by decide))
theorem sy {as st Q}(h:bT as st Q):aw Γ eS (frame 3 as) st (ag st Q):=by obtain⟨n,rfl,hn,k⟩:=h;unfold eS;walk_at "WP";refine l6 Γm (fun m ρ s=>ρ=[some (.int n),some (.ref st.length),none]/\s=st++[.lst []]) (n:=0) ⟨rfl,rfl⟩ ?_;rintro m ρ s ⟨rfl,rfl⟩;walk_at "WP";rw[QC (by omega)];rw[GJ];refine⟨⟨_,au aE⟩,Ba hn,by decide,_,aE,QP (gw hn) (by decide),?_⟩;exact .inr (.app rfl k)
theorem pA {as st Q}(h:aG as st Q):aw Γ dE (frame 3 as) st (ag st Q):=by
 obtain⟨p,rfl,⟨h1,h2⟩,k⟩:=h;unfold dE;walk_at "WP";by_cases hd:p.2=1
 ·have k:Q (.str (nt p.1)) st:=by rw[show ftp p=nt p.1 by unfold ftp ft;rw[QA hd]] at k;exact k
  rw[QA (show ((p.2:Int))=1 by omega)];exact⟨p.1,rfl,h1,.inl k⟩
 ·have k:Q (.str (nt p.1++("/":Str)++nt p.2)) st:=by rw [show ftp p=nt p.1++("/":Str)++nt p.2 by unfold ftp ft;rw [QC hd]] at k;exact k
  rw[QC (by omega)];have:=gw h1;have:=gw h2;refine⟨p.1,rfl,h1,?_⟩;walk_at "WP";have e:(Str.ofString "/").length=1:=rfl;have e2:(nt p.1++Str.ofString "/").length=(nt p.1).length+1:=by rw [aq,cH,QS,<-aq];rfl
  refine⟨by omega,p.2,rfl,h2,?_⟩;walk_at "WP";exact⟨by omega,.inl k⟩
theorem lS {as st Q}(h:bQ as st Q):aw Γ cF (frame 1 as) st (ag st Q):=by
 obtain⟨p,rfl,⟨h1,h2⟩,k⟩:=h;unfold cF;walk_at "WP";have l1:(Str.ofString (toString (p.1:Int))).length<=64:=gw h1;have l2:(Str.ofString (toString (p.2:Int))).length<=64:=gw h2;have l3:(Str.ofString "/").length=1:=rfl;refine⟨Ba h1,by omega,Ba h2,by rw[PySem.Str.length_append];omega,Ba h1,_,ao aE,?_⟩;by_cases e:p.2=1
 ·have k:Q (.str (nt p.1)) st:=by rw[show ftp p=nt p.1 by unfold ftp ft;rw[QA e]] at k;exact k
  rw[QM (show (p.2:Int)=1 by omega)];exact⟨_,rfl,.app rfl (.inl k)⟩
 ·have k:Q (.str (nt p.1++("/":Str)++nt p.2)) st:=by rw [show ftp p=nt p.1++("/":Str)++nt p.2 by unfold ftp ft;rw [QC e]] at k;exact k
  rw[QJ (show ¬(p.2:Int)=1 by omega)];exact⟨_,rfl,.app rfl (.inl k)⟩
noncomputable def mT:PV->Str
 | .tup [.int n,.int d]=>ft n.toNat d.toNat
 | _=>""
noncomputable def pT:PV->Str
 | .tup xs=>Txt.join " " (xs.map mT)
 | _=>""
theorem zY (h:C64 p):∀y∈[fr p.e,fr p.l,fr p.h].map mT,y.length<=129:=BB (d_ h.1) (d_ h.2.1) (d_ h.2.2)
theorem u9 {as st Q}(h:cB as st Q):aw Γ fM (frame 1 as) st (ag st Q):=by
 obtain⟨p,rfl,hp,k⟩:=h;unfold fM;walk_at "WP";have s1:(Str.ofString " ").length=1:=rfl;refine⟨by decide,?_⟩;refine FW.comp_map Γm (fun x=>.str (mT x)) trivial (fun x hx=>?_) ?_
 ·simp only[List.mem_cons,List.not_mem_nil,or_false] at hx;rcases hx with rfl|rfl|rfl
  ·walk_at "WP";exact⟨p.e,rfl,hp.1,rfl,rfl⟩
  ·walk_at "WP";exact⟨p.l,rfl,hp.2.1,rfl,rfl⟩
  ·walk_at "WP";exact⟨p.h,rfl,hp.2.2,rfl,rfl⟩
 ·exact⟨[fr p.e,fr p.l,fr p.h].map mT,au aE,iV (zY hp) (by rw[s1];simp),.app rfl (.inl k)⟩
theorem GK {L:List Pc}(h:∀p∈L,C64 p):∀y∈(L.map pcV).map pT,y.length<=390:=by intro y hy;obtain⟨x,hx,rfl⟩:=QQ.mp hy;obtain⟨p,hp,rfl⟩:=QQ.mp hx;exact vo (d_ (h p hp).1) (d_ (h p hp).2.1) (d_ (h p hp).2.2)
theorem EZ {L:List Pc}:(L.map pcV).map pT=L.map pTx:=by rw[SO];rfl
theorem wd {as st Q}(h:aM as st Q):aw Γ fD (frame 1 as) st (ag st Q):=by
 obtain⟨L,rfl,h1,h2,k⟩:=h;unfold fD;walk_at "WP";refine eh (n:=4) (by decide) cI rfl ?_;rw[l'];cases L with
 | nil=>exact .inl k
 | cons a r =>
 rw[QC (by simp)];refine⟨by rw[QO];omega,?_⟩;have s2:(Str.ofString "; ").length=2:=rfl;refine FW.comp_map Γm (fun x=>.str (pT x)) trivial (fun x hx=>?_) ?_
 ·obtain⟨p,hp,rfl⟩:=QQ.mp hx;walk_at "WP";exact⟨p,rfl,h2 p hp,rfl,rfl⟩
 ·refine⟨((a::r).map pcV).map pT,au (by rw[aE];simp),iV (GK h2) (by rw[QO,QO,s2];omega),?_⟩;rw[EZ];exact .app rfl (.inl k)
theorem ye {as st Q}(h:fY as st Q):aw Γ gK (frame 1 as) st (ag st Q):=by
 obtain⟨L,rfl,h1,h2,k⟩:=h;unfold gK;walk_at "WP";refine eh (n:=4) (by decide) cI rfl ?_;rw[l'];cases L with
 | nil=>exact .inl k
 | cons a r =>
 rw[QC (by simp)];refine⟨by rw[QO];omega,?_⟩;have s1:(Str.ofString " ").length=1:=rfl;have s2:(Str.ofString "; ").length=2:=rfl;refine FW.comp_map Γm (fun x=>.str (pT x)) trivial (fun x hx=>?_) ?_
 ·obtain⟨p,hp,rfl⟩:=QQ.mp hx;have hp:=h2 p hp;walk_at "WP";refine⟨by decide,?_⟩;refine FW.comp_map Γm (fun x=>.str (mT x)) trivial (fun x hx=>?_) ?_
  ·simp only[List.mem_cons,List.not_mem_nil,or_false] at hx;rcases hx with rfl|rfl|rfl
   ·walk_at "WP";exact⟨p.e,rfl,hp.1,rfl,rfl⟩
   ·walk_at "WP";exact⟨p.l,rfl,hp.2.1,rfl,rfl⟩
   ·walk_at "WP";exact⟨p.h,rfl,hp.2.2,rfl,rfl⟩
  ·exact⟨[fr p.e,fr p.l,fr p.h].map mT,au aE,iV (zY hp) (by rw[s1];simp),.app rfl ⟨rfl,rfl⟩⟩
 ·refine⟨((a::r).map pcV).map pT,au (by rw[aE];simp),iV (GK h2) (by rw[QO,QO,s2];omega),?_⟩;rw[EZ];exact .app rfl (.inl k)
theorem so {as st Q}(h:bI as st Q):fw Γ ΓR FX.xs.length OF dW (frame 2 as) st (ag st Q):=by obtain⟨z,rfl,hz,hn,k⟩:=h;unfold dW;walk_at "WP";refine⟨.str z,rfl,hz,?_⟩;rw[hn];exact⟨by decide,rfl,.inl k⟩
theorem BU {t:Rat}:∀ {L:List Pc}{b:Rat}{p:Pc},L.getLast?=some p->t<=p.E->∃y,cm b L t=some y
 | [],b,p,e,_=>by cases e
 | [a],b,p,e,h=>by have e:a=p:=Q2 e;subst e;rw[cm,QA h];exact⟨_,rfl⟩
 | a::c::r,b,p,e,h=>by
  rw[cm];by_cases q:t<=a.E
  ·rw[QA q];exact⟨_,rfl⟩
  ·rw[QC q];exact BU (L:=c::r) (by rw[<-e,R1]) h
theorem P64.of (h:Sz j p)(hj:j<=210):P64 p :=
 have k:(2:Nat) ^ j<10 ^ 64:=Q3 (RE (by decide) hj) (by decide)
 ⟨RQ h.a k,RQ h.b k⟩
theorem C64.of {p:Pc}(h:p.Sz j)(hj:j<=210):C64 p:=⟨.of h.e hj,.of h.l hj,.of h.h hj⟩
theorem vO {j:Nat}(hj:j<=600)(h:SzL j L)(hl:L.length<1000):VSz (bf L):=by
 have up:∀ {z:Nat × Nat},Sz j z->∀ {n d:Int},fr z=.tup [.int n,.int d]->n.natAbs<2 ^ 600/\d.natAbs<2 ^ 600:=fun {z} hz {n d} e=>by cases e;have hz:=hz.mono hj;exact⟨hz.a,hz.b⟩
 intro xs e;cases e;refine⟨by rw[QO];exact hl,fun x hx ys e y hy n d ey=>?_⟩;obtain⟨p,hp,rfl⟩:=QQ.mp hx;cases e;have pz:=h p hp;simp only[List.mem_cons,List.not_mem_nil,or_false] at hy;rcases hy with rfl|rfl|rfl
 ·exact up pz.e ey
 ·exact up pz.l ey
 ·exact up pz.h ey
theorem pX {j:Nat}(hR:RtF L)(hj:j<=600)(h:SzL j L)(hl:L.length<1000)(hs:(sTx L).length<=5000):Txz st (.str (sTx L)):=by
 refine⟨⟨rfl,fun z e=>by cases e;exact hs⟩,fun z e L' e'=>?_⟩;cases e;by_cases hL:L=[]
 ·subst hL;rw[show rdL (sTx [])=none by decide +kernel] at e';cases e'
 ·rw[BS hL hR.oks] at e';cases e';rw[FM];exact vO hj h hl
theorem Hk (h:Cop g):RtF [⟨g,(0,1),g⟩]:=by
 have h0:=gD h.pos;refine⟨⟨h,AA,h⟩,?_,?_,?_,trivial⟩
 ·show val (0,1)<=val g;rw[val_nought];exact h0
 ·exact SX
 ·intro e;show val (0,1)=val g;rw[val_nought];exact e
theorem Hm (h:Cop g):cm 0 [⟨g,(0,1),g⟩] (val g)=some (val g):=by
 have h0:=gD h.pos;rw[cm,QA (show val g<=val g from SX)];congr 1;show (if 0=val g then val (0,1) else val (0,1)+(val g-val (0,1))*((val g-0)/(val g-0)))=val g;rw[val_nought];split
 ·assumption
 ·rename_i q;have:val g≠0:=fun e=>q e.symm;grind
theorem HH:lb (val g) 0 none [⟨g,(0,1),g⟩]=some (val g):=by rw[lb,QA (show val g<=val g from SX),lb]
open Classical in
theorem Hq (hR:RtF L)(hN:NG (0,1) L):mQ (bf L)=true:=by unfold mQ;rw[iK hR.oks];dsimp only;unfold iA stB;rw[QM hR,QM hN];rfl
theorem eqS {z y:Str}{k:Bool->Prop}(e:z=y)(h:k true):eqW st (.str z) (.str y) k:=by rw[FE,QM e];exact h
theorem Ic {L M:List Pc}(h:L≠M):PV.same (bf L) (bf M)=false:=by
 cases e:PV.same (bf L) (bf M) with
 | false=>rfl
 | true=>exact absurd (xZ (PV.same_eq e)) h
theorem vf {as st Q}(h:bq as st Q):aw Γ fK (frame 7 as) st (ag st Q):=by
 obtain⟨p,L,rfl,hp,hR,hz,hne,hl,k⟩:=h;have e0:=(List.dropLast_concat_getLast hne).symm;obtain⟨Y,a,hLa⟩:∃Y a,L=Y++[a]:=⟨_,_,e0⟩;have ha:a∈L:=by rw[hLa];simp
 have az:=hz a ha;unfold fK;walk_at "WP";refine⟨pcV a,by rw[hLa,TC];exact dZ,?_⟩;walk_at "WP";refine⟨p,rfl,hp,fun d s1 d0 d1 g1=>?_⟩;walk_at "WP";have bigd:d<2 ^ 3000:=P7 d1 (QP (by decide:10 ^ 12<=2 ^ 40) (dS (by decide)));have biga:a.e.1<2 ^ 3000:=P7 az.e.a (dS (by decide));obtain⟨m,hm⟩:∃m:Nat,m=a.e.1*d/a.e.2:=⟨_,rfl⟩;have em:(a.e.1:Int)*d/a.e.2=(m:Nat):=by rw[hm,S3,QW]
 rw[em];have hmin:(if (m:Int)<999999999999 then (m:Int) else 999999999999)<=m/\(if (m:Int)<999999999999 then (m:Int) else 999999999999)<=999999999999/\0<=(if (m:Int)<999999999999 then (m:Int) else 999999999999):=by split <;> omega
 refine⟨Kr,fE biga bigd,?_,p,_,rfl,g1.pot,by omega,by omega,fun x s2 x0 x1 g2=>?_⟩
 ·refine vE (by have:=az.e.pos;omega) ?_;have h1:=az.e.b;have h2:(2:Nat) ^ 40<2 ^ 200:=by decide
  exact Int.ofNat_lt.mpr (RQ h1 h2)
 obtain⟨n,rfl⟩:∃n:Nat,x=n:=⟨x.toNat,by omega⟩;have hn:n<=m:=by omega
 have hn2:n<10 ^ 12:=by omega
 refine⟨n,d,rfl,d0,RQ d1 JR,?_⟩;rw[uN];have tz:Sz 40 (cj n d):=.low d0 (P7 hn2 (by decide)) (P7 d1 (by decide));refine⟨40,40,L,_,rfl,⟨by decide,by decide⟩,hR,hz,.low d0,tz,by omega,fun o ho hc=>?_⟩;obtain⟨y,hy⟩:∃y,cm 0 L (val (cj n d))=some y:=by refine BU (p:=a) (by rw[hLa];simp) ?_;refine(jf (fo d0) az.e.pos).mp ?_;have h1:n*a.e.2<=a.e.1*d:=QP (SY _ hn) (by rw[hm];exact Nat.div_mul_le_self _ _);have h2:=(jf (p:=(n,d)) (q:=a.e) d0 az.e.pos).mp h1;refine(jf (fo d0) az.e.pos).mpr ?_;rw[aU d0];exact h2
 rw[hy] at hc;cases o with
 | none=>cases hc
 | some g =>
 obtain⟨cg,zg⟩:=ho g rfl;have zg:Sz 202 g:=zg;have hR1:=Hk cg;have z1:SzL 202 [⟨g,(0,1),g⟩]:=fun q hq=>by rw[QI.mp hq];exact⟨zg,⟨U3 (by decide),TH (by decide),Nat.one_pos⟩,zg⟩
 have c64:C64 ⟨g,(0,1),g⟩:=.of (z1 _ (QI.mpr rfl)) (by decide);walk_at "WPO";refine⟨fr g,rfl,?_⟩;walk_at "WP";have s1:(Str.ofString " ").length=1:=rfl;refine⟨by decide,FW.comp_map Γm (fun x=>.str (mT x)) trivial (fun x hx=>?_) ?_⟩
 ·simp only[List.mem_cons,List.not_mem_nil,or_false] at hx;rcases hx with rfl|rfl|rfl
  ·walk_at "WP";exact⟨g,rfl,c64.1,rfl,rfl⟩
  ·walk_at "WP";exact⟨(0,1),rfl,c64.2.1,rfl,rfl⟩
  ·walk_at "WP";exact⟨g,rfl,c64.1,rfl,rfl⟩
 refine⟨[fr g,fr (0,1),fr g].map mT,au aE,iV (zY c64) (by rw[s1];simp),.app rfl ?_⟩;have eT:Txt.join (Str.ofString " ") ([fr g,fr (0,1),fr g].map mT)=sTx [⟨g,(0,1),g⟩]:=(qx (p:=⟨g,(0,1),g⟩) (L:=[])).symm;rw[eT];have ls:(sTx [⟨g,(0,1),g⟩]).length<=5000:=by refine QP (BA (B:=390) fun q hq=>?_) (by simp);rw[QI.mp hq];exact vo (d_ c64.1) (d_ c64.2.1) (d_ c64.2.2)
 have hrd:=nD (L:=[⟨g,(0,1),g⟩]) hR1 trivial;have tx:=fun st=>pX (st:=st) hR1 (by decide) z1 (by simp) ls;have hst:mQ (bf [⟨g,(0,1),g⟩])=true:=Hq hR1 trivial;generalize hT:sTx [⟨g,(0,1),g⟩]=T at *;refine⟨fr g,rfl,FT,fun n d e=>?_,?_⟩
 ·cases e;exact⟨P7 zg.a (dS (by decide)),P7 zg.b (dS (by decide))⟩
 rw[cg.isFr];walk_at "WP";refine⟨bf [⟨g,(0,1),g⟩],rfl,vY,vO (by decide) z1 (by simp),?_⟩;rw[hst];walk_at "WP";refine⟨[⟨g,(0,1),g⟩],rfl,by simp,fun q hq=>by rw[QI.mp hq];exact c64,?_⟩;rw[hT];refine eqS rfl ?_;rw[QC (by decide)];refine⟨.str T,rfl,tx _,?_⟩;rw[hrd];simp only[Ab,kg];refine eh (n:=4) (by decide) cI (cI (X:=[⟨g,(0,1),g⟩])) ?_;rw[show PV.same (bf [⟨g,(0,1),g⟩]) (.tup [.tup [fr g,fr (0,1),fr g]])=true from b7 _,QA rfl];refine⟨202,202,[⟨g,(0,1),g⟩],g,rfl,⟨by decide,by decide⟩,hR1,z1,cg,zg,by simp,fun o ho hb=>?_⟩;obtain rfl:o=some g:=E4 ho (fun q e=>by cases e;exact⟨cg,zg⟩) (by rw[<-hb,HH];rfl);refine eh (n:=3) (by decide) qc (qc (o:=some g)) ?_;rw[show PV.same (Cz (some g)) (fr g)=true from b7 _,QA rfl];refine⟨202,202,[⟨g,(0,1),g⟩],g,rfl,⟨by decide,by decide⟩,hR1,z1,cg,zg,by simp,fun o ho hb=>?_⟩;obtain rfl:o=some g:=E4 ho (fun q e=>by cases e;exact⟨cg,zg⟩) (by rw[<-hb,Hm cg];rfl);refine eh (n:=3) (by decide) qc (qc (o:=some g)) ?_;rw[show PV.same (Cz (some g)) (fr g)=true from b7 _];exact .inl (k _ (g1.trans g2))
theorem BdU.sz40 {d:Nat}(h0:0<d)(h1:d<10 ^ 12)(h:BdU (10 ^ 11) U):SzL 40 (U.map (u5 d)):=fun p hp=>by obtain⟨u,hu,rfl⟩:=QQ.mp hp;obtain⟨a,b,c⟩:=h u hu;have k1:∀n,n<=10 ^ 11->n<2 ^ 40:=fun n hn=>Q3 hn (by decide);have k2:d<2 ^ 40:=RQ h1 (by decide);exact⟨.low h0 (k1 _ a) k2,.low h0 (k1 _ b) k2,.low h0 (k1 _ c) k2⟩
theorem xq {n:Nat}(h:n<2 ^ 40):(nt n).length<=13:=by rw[aq,f6];exact Ag 12 n (RQ h (by decide))
theorem sd (h:Sz 40 p):(ftp p).length<=27:=by
 unfold ftp ft;have:=xq h.a;have:=xq h.b;split
 ·omega
 ·rw[aq,cH,cH,QS,QS,<-aq,<-aq,<-aq];show (nt p.1).length+1+(nt p.2).length<=27;omega
theorem FS (h:SzL 40 L)(hl:L.length<=40):(sTx L).length<=5000:=by refine QP (BA (B:=84) fun q hq=>?_) (by omega);exact vo (sd (h q hq).e) (sd (h q hq).l) (sd (h q hq).h)
open Classical in
theorem Oi {as st Q}(h:kW as st Q):aw Γ rJ (frame 7 as) st (ag st Q):=by
 obtain⟨ns,rfl,hl,k⟩:=h;unfold rJ;walk_at "WP";rw[QO];obtain⟨N,hN,hN6⟩:∃N:Nat,(if 1<if 6<(ns.length:Int) then 6 else (ns.length:Int) then if 6<(ns.length:Int) then 6 else (ns.length:Int) else 1)=(N:Int)/\N<=6:=by refine⟨(if 1<if 6<(ns.length:Int) then 6 else (ns.length:Int) then if 6<(ns.length:Int) then 6 else (ns.length:Int) else 1).toNat,?_,?_⟩ <;> (repeat' split) <;> omega
 rw[hN];refine⟨by omega,by omega,?_⟩;refine iD Γm (fun i ρ s=>∃a b c d e f,ρ=[some (.rdl (ns.map PV.int)),a,b,c,d,e,f]) ⟨_,_,_,_,_,_,rfl⟩ ?_ ?_
 ·rintro i v ρ s hi ⟨a,b,c,d,e,f,rfl⟩;obtain⟨rfl,hi⟩:=qt hi;refine⟨trivial,?_⟩;walk_at "WP";refine⟨ns,i,rfl,hl,by omega,fun p s1 hp=>?_⟩;refine⟨p,40,rfl,hp,by decide,fun n U s2 g2 n1 hn hU lU bU=>?_⟩;have nne:n≠p:=by have:=hp.lt;omega
  refine⟨p,rfl,g2.pot,fun d s3 d0 d1 g3=>?_⟩;have hn3:=g3.get hn nne;refine⟨_,d,U,rfl,ao hn3,.inr ⟨n,rfl⟩,d0,d1,by omega,?_⟩;have hR:=hU.rt d0;have hz:=bU.sz40 d0 d1;have hL:(U.map (u5 d)).length<=40:=by simpa using lU
  generalize U.map (u5 d)=L0 at hR hz hL;refine⟨L0,rfl,hR,fun q hq=>(hz q hq).mono (by decide),by omega,?_⟩;have fR:=xU hR;have fz:=xa hz;have fl:(eF L0).length<=40:=QP ue hL;have fn:=qH hR;obtain⟨L,hLe⟩:∃L,eF L0=L:=⟨_,rfl⟩;rw[hLe] at fR fz fl fn;rw[hLe];have G3:=g2.trans g3;dsimp only;have c0:∀q∈L0,C64 q:=fun q hq=>.of (hz q hq) (by decide);have c1:∀q∈L,C64 q:=fun q hq=>.of (fz q hq) (by decide);have great:∀K:EK,(∀s4,K (.bl true) s4)->L≠[]->bq [.ref p,bf L] s3 K:=fun K hK hne=>⟨p,L,rfl,G3.pot,fR,fz,hne,fl,fun s4 _=>hK s4⟩;refine ⟨L,rfl,fl,c1,"str",rfl,?_⟩;rw[QC (by decide)];refine⟨L,rfl,fl,c1,?_⟩;refine eqS rfl ?_;rw[QC (by decide)];refine⟨L,rfl,fl,c1,.str (sTx L),rfl,pX fR (by decide) fz (by omega) (FS fz fl),?_⟩;rw[nD fR fn];simp only[Ab,kg];refine⟨bf L,rfl,vY,vO (by decide) fz (by omega),?_⟩;rw[show js (bf L)=true by unfold js;rw[iK fR.oks];unfold iA;exact QM fR];walk_at "WP";refine eh (n:=4) (by decide) cI cI ?_;rw[b7,QC (by decide)];have last:eqW s3 (bf L) (.tup []) fun k=>if k=false then bq [.ref p,bf L] s3 fun v st2=>fu v st2 fun c st1=>if c=false then Ret st Q (.bl false) st1 else True else True:=by
   refine eh (n:=4) (by decide) cI rfl ?_;rw[l'];cases hL:L with
   | nil=>trivial
   | cons q r =>rw[QA (by simp),<-hL];refine great _ (fun s4=>?_) (by rw[hL];exact fun z=>nomatch z);walk_at "WP"
  refine eh (n:=4) (by decide) cI cI ?_;by_cases hq:L0=L
  ·rw[hq,b7,QC (by decide)];exact last
  ·rw[Ic hq,QA rfl];refine⟨L0,rfl,hL,c0,sTx L0,rfl,pX hR (by decide) hz (by omega) (FS hz hL),HI hR (by rw[hLe];exact fun z=>hq z.symm),?_⟩;walk_at "WP";exact last
 ·rintro ρ s ⟨a,b,c,d,e,f,rfl⟩;refine⟨trivial,?_⟩;walk_at "WP";refine⟨[],rfl,by simp,fun q hq=>(nomatch hq),?_⟩;refine eqS rfl ?_;rw[QA rfl];refine⟨.str (sTx []),rfl,pX (j:=40) (L:=[]) trivial (by decide) (fun q hq=>(nomatch hq)) (by simp) (by decide),?_⟩;rw[nD (L:=[]) trivial trivial];simp only[Ab,kg];refine eh (n:=4) (by decide) cI (cI (X:=[])) ?_;rw[show PV.same (bf []) (.tup [])=true from b7 _];exact .inl (k _)
section
variable {P:Program}{w:World}{K:W.Frag}{mg:Str->Option Value}{base:Heap}
theorem yb (F:At K mg "how_many" dC ["stair","holds"]):Has P w K mg base 23 "how_many" ["stair","holds"] (bZ K (Γ 22)):=B8 F
theorem xo (F:At K mg "how_many" dC ["stair","holds"])(G:GOk P w K mg base lI Γ):CT P w K mg base 22:=Nj F yr rfl rfl yV G (by decide) rfl (fun a L hL as st Q=>yT hL)
theorem C5 {c0:Addr}{an:Option Addr}{kV doc pm ct:Value}(a:W.nsIn K mainGlobals "coming"=some (some (.ref f)))(l:K.lookup f=some ⟨oc,od,.func (W.fnOf "coming" "coming" (bC cN) (af cN) (aa cN) .none kV doc pm an (.ref c0) ct),osl⟩)(t:W.tabIn K "coming"=some (c0,T))(B:i9 K mg base)(F:At K mg "coming" cN ["stair","t"])(cc:W.codeIn K (.ref c0) "coming"=true)(hmg:mg "coming"=some (.ref f))(G:GOk P w K mg base r_ Γ)(M:CT P w K mg base 22):Has P w K mg base 26 "coming" ["stair","t"] (bZ K (Γ 25)):=Bf a l t (by decide) B F cc hmg B6 rfl rfl Dl G (fun k z=>by cases z;exact M) (fun as st Q=>zj (st:=st)) (fun as st Q=>Ec)
theorem CM {c0:Addr}{an:Option Addr}{kV doc pm ct:Value}(a:W.nsIn K mainGlobals "latest"=some (some (.ref f)))(l:K.lookup f=some ⟨oc,od,.func (W.fnOf "latest" "latest" (bC cP) (af cP) (aa cP) .none kV doc pm an (.ref c0) ct),osl⟩)(t:W.tabIn K "latest"=some (c0,T))(B:i9 K mg base)(F:At K mg "latest" cP ["stair","y"])(cc:W.codeIn K (.ref c0) "latest"=true)(hmg:mg "latest"=some (.ref f))(G:GOk P w K mg base qj Γ)(M:CT P w K mg base 22):Has P w K mg base 27 "latest" ["stair","y"] (bZ K (Γ 26)):=Bf a l t (by decide) B F cc hmg B3 rfl rfl DS G (fun k z=>by cases z;exact M) (fun as st Q=>zE (st:=st)) (fun as st Q=>Fz)
end
local macro_rules | `(tactic| walk_at "AR")=>`(tactic| first|exact fun _ _ _ _ _ _ us hl=>ar1 (P:=fun us=>bindArgs _ { pos:=us }=pure (List.zip _ us)) (fun _=>rfl) us hl|exact fun _ _ _ _ _ _ us hl=>ar2 (P:=fun us=>bindArgs _ { pos:=us }=pure (List.zip _ us)) (fun _ _=>rfl) us hl|exact fun _ _ _ _ _ _ us hl=>ar3 (P:=fun us=>bindArgs _ { pos:=us }=pure (List.zip _ us)) (fun _ _ _=>rfl) us hl|exact fun _ _ _ _ _ _ us hl=>ar4 (P:=fun us=>bindArgs _ { pos:=us }=pure (List.zip _ us)) (fun _ _ _ _=>rfl) us hl|exact fun _ _ _ _ _ _ us hl=>ar5 (P:=fun us=>bindArgs _ { pos:=us }=pure (List.zip _ us)) (fun _ _ _ _ _=>rfl) us hl)
abbrev zn (K:W.Frag)(n:Str):Prop:=W.nsIn K mainGlobals n=some none
theorem all_mk {l:W.OpenLaw}{q:Program}{w:World}{K:W.Frag}{h:Heap}{mg:Str->Option Value}{fa:Addr}(X:K.In h)(G:h.Ns mainGlobals mg)(hfa:mg "law"=some (.ref fa))
  {f22:Addr}{oc22 kV22 dc22 pm22 cd22 ct22:Value}{od22 an22:Option Addr}{sl22:Array (Option Value)}
  {f25:Addr}{oc25 kV25 dc25 pm25 ct25:Value}{od25 an25:Option Addr}{sl25:Array (Option Value)}{cc25 tT25:Addr}{tx25:Value}{ty25:Option Addr}{tw25:Array Value}{tu25:Array (Option Value)}{td25:PySem.DefRec}
  {f26:Addr}{oc26 kV26 dc26 pm26 ct26:Value}{od26 an26:Option Addr}{sl26:Array (Option Value)}{cc26 tT26:Addr}{tx26:Value}{ty26:Option Addr}{tw26:Array Value}{tu26:Array (Option Value)}{td26:PySem.DefRec}
  {C0:Addr}
  {tg0:Tok}
  {tg1:Tok}
  {tg2:Tok}
  {ga3:Addr}{gd3:Option Addr}{gn3:Nat}{gs3:Array (Option Value)}{t3_0 t3_1:Tok}
  {tg4:Tok}
  (d0:DI K "is_whole" jj) (d1:DI K "common_divisor" cV) (d2:DI K "is_fraction" e_) (d3:DI K "fraction" jh) (d4:DI K "less" vq) (d5:DI K "times" qe) (d6:DI K "is_below" jg) (d7:DI K "number_text" fg) (d8:DI K "fraction_text" dz) (d9:DI K "is_number_text" c_) (d10:DI K "read_number" fh) (d11:DI K "read_fraction" du) (d12:DI K "crosswise" ib) (d13:DI K "on_straight" fi) (d14:DI K "is_piece" i_) (d15:DI K "is_right_alone" cR) (d16:DI K "is_right_first" cS) (d17:DI K "is_right_behind" cG) (d18:DI K "is_row" mE) (d19:DI K "goes_on" kF) (d20:DI K "lean" vh) (d21:DI K "is_stair" jm) (a22:W.nsIn K mainGlobals "how_many"=some (some (.ref f22))) (l22:K.lookup f22=some ⟨oc22,od22,.func (W.fnOf "how_many" "how_many" (bC dC) (af dC) (aa dC) .none kV22 dc22 pm22 an22 cd22 ct22),sl22⟩) (c22:W.codeIn K cd22 "how_many"=true) (k22:W.keepIn K (.ref f22)=true) (d23:DI K "beginning_of" dX) (d24:DI K "height" mK) (a25:W.nsIn K mainGlobals "coming"=some (some (.ref f25))) (l25:K.lookup f25=some ⟨oc25,od25,.func (W.fnOf "coming" "coming" (bC cN) (af cN) (aa cN) .none kV25 dc25 pm25 an25 (.ref cc25) ct25),sl25⟩) (c25:W.codeIn K (.ref cc25) "coming"=true) (k25:W.keepIn K (.ref f25)=true) (tc25:K.lookup cc25=some ⟨tx25,ty25,.fields tw25,tu25⟩) (tv25:tw25[11]?=some (.ref tT25)) (tn25:K.lookup tT25=none) (tr25:(PyProof.Rows.recsOf q).find? (fun e=>e.name == ("coming":Str))=some td25) (a26:W.nsIn K mainGlobals "latest"=some (some (.ref f26))) (l26:K.lookup f26=some ⟨oc26,od26,.func (W.fnOf "latest" "latest" (bC cP) (af cP) (aa cP) .none kV26 dc26 pm26 an26 (.ref cc26) ct26),sl26⟩) (c26:W.codeIn K (.ref cc26) "latest"=true) (k26:W.keepIn K (.ref f26)=true) (tc26:K.lookup cc26=some ⟨tx26,ty26,.fields tw26,tu26⟩) (tv26:tw26[11]?=some (.ref tT26)) (tn26:K.lookup tT26=none) (tr26:(PyProof.Rows.recsOf q).find? (fun e=>e.name == ("latest":Str))=some td26) (d27:DI K "staying" kC) (d28:DI K "piece_text" fZ) (d29:DI K "stair_text" fW) (d30:DI K "read_piece" fV) (d31:DI K "read_stair" gi) (d32:DI K "_law_pot" jr) (d33:DI K "_law_digit" f7) (d34:DI K "_law_low" jo) (d35:DI K "_law_less" gR) (d36:DI K "_law_over" h_) (d37:DI K "_law_ahead" fU) (d38:DI K "_law_step" ic) (d39:DI K "_law_going_on" dw) (d40:DI K "_law_units" fT) (d41:DI K "_law_bottom" ff) (d42:DI K "_law_row" jd) (d43:DI K "_law_is_whole" dy) (d44:DI K "_law_is_moment" cY) (d45:DI K "_law_is_right" dv) (d46:DI K "_law_is_row" fe) (d47:DI K "_law_is_lean" ee) (d48:DI K "_law_lean" gU) (d49:DI K "_law_moment_text" b9) (d50:DI K "_law_text" gT) (d51:DI K "_law_refused" ei) (d52:DI K "_law_great" f_) (d53:DI K "law" oU) (z0:zn K "isinstance") (z1:zn K "bool") (z2:zn K "int") (z3:zn K "len") (z4:zn K "tuple") (z5:zn K "str") (z6:zn K "divmod") (z7:zn K "all") (z8:zn K "range") (z9:zn K "zip") (z10:zn K "abs") (z11:zn K "max") (z12:zn K "enumerate") (z13:zn K "min") (tz2:zn K "through") (tne_coming_latest:tT25≠tT26) (tne_latest_coming:tT26≠tT25) (y0:CI K "NoText" C0) (ex0:W.excIn K C0 jO "ValueError.__new__"=true) (xv0:W.mroIn K C0 (.type "ValueError")=some true) (rl_0_0:W.mroIn K C0 (.ref C0)=some true) (ga0_:W.nsIn K mainGlobals "FIGURES"=some (some (.str "0123456789" tg0))) (ga1_:W.nsIn K mainGlobals "BLOCK_FIGURES"=some (some (.int 64 tg1))) (ga2_:W.nsIn K mainGlobals "BLOCK"=some (some (.int 10000000000000000000000000000000000000000000000000000000000000000 tg2))) (ga3_:W.nsIn K mainGlobals "NOUGHT"=some (some (.ref ga3))) (gl3_:K.lookup ga3=some ⟨.type "tuple",gd3,.seq #[.int 0 t3_0,.int 1 t3_1] gn3,gs3⟩) (ga4_:W.nsIn K mainGlobals "NEVER_TEXT"=some (some (.str "never" tg4)))
  : ∃fd:FuncData,(∀(s:Shared) (v:Value),BindsTo s fd ⟨[v],[]⟩ [("_law_script",v)])/\IK K/\(∀x∈aV,W.tabIn K x=none\/∃d,(PyProof.Rows.recsOf q).find? (fun e=>e.name == x)=some d)/\∀base:Heap,K.In base->base.Ns mainGlobals mg->i9 K mg base->pB l.prog w K mg base CX0 54 fa fd ["_law_script"] (bZ K kW):=by
 obtain⟨f,oc,od,kV,dc,pm,an,cd,ct,sl,aL,lL,cL,kL⟩:=d53;have e:=hfa.symm.trans (T2 X G aL);cases e;have hb:∀x∈CY,mg x=none:=by
  intro x hx;simp only[CY,List.mem_cons,List.not_mem_nil,or_false] at hx;rcases hx with rfl|rfl|rfl|rfl|rfl|rfl|rfl|rfl|rfl|rfl|rfl|rfl|rfl|rfl
  ·exact RJ X G z0
  ·exact RJ X G z1
  ·exact RJ X G z2
  ·exact RJ X G z3
  ·exact RJ X G z4
  ·exact RJ X G z5
  ·exact RJ X G z6
  ·exact RJ X G z7
  ·exact RJ X G z8
  ·exact RJ X G z9
  ·exact RJ X G z10
  ·exact RJ X G z11
  ·exact RJ X G z12
  ·exact RJ X G z13
 have hgl:∀x v,glL.lookup x=some v->∃u y,mg x=some u/\RelV y u/\∀m H,R K m H v y:=by
  intro x v hx;by_cases q0:x=("FIGURES":Str)
  ·subst q0;have e:v=i2:=by have:glL.lookup ("FIGURES":Str)=some i2:=rfl;rw[this] at hx;cases hx;rfl
   subst e;exact ⟨_,.str "0123456789",T2 X G ga0_,⟨tg0,rfl⟩,fun m H=>R_str.mpr rfl⟩
  by_cases q1:x=("BLOCK_FIGURES":Str)
  ·subst q1;have e:v=br:=by have:glL.lookup ("BLOCK_FIGURES":Str)=some br:=rfl;rw[this] at hx;cases hx;rfl
   subst e;exact⟨_,.int 64,T2 X G ga1_,⟨tg1,rfl⟩,fun m H=>R_int.mpr rfl⟩
  by_cases q2:x=("BLOCK":Str)
  ·subst q2;have e:v=iG:=by have:glL.lookup ("BLOCK":Str)=some iG:=rfl;rw[this] at hx;cases hx;rfl
   subst e;exact⟨_,.int 10000000000000000000000000000000000000000000000000000000000000000,T2 X G ga2_,⟨tg2,rfl⟩,fun m H=>R_int.mpr rfl⟩
  by_cases q3:x=("NOUGHT":Str)
  ·subst q3;have e:v=dO:=by have:glL.lookup ("NOUGHT":Str)=some dO:=rfl;rw[this] at hx;cases hx;rfl
   subst e;exact⟨_,.ref ga3,T2 X G ga3_,rfl,fun m H=>R_tup.mpr ⟨ga3,[.int 0,.int 1],rfl,.inr ⟨_,_,_,gl3_,rfl,rfl,(show 2<=sizeLine by decide),(.cons ⟨t3_0,rfl⟩ (.cons ⟨t3_1,rfl⟩ .nil))⟩,by simp only[Rs_cons',Rs_nil,R_int,and_self]⟩⟩
  by_cases q4:x=("NEVER_TEXT":Str)
  ·subst q4;have e:v=dt:=by have:glL.lookup ("NEVER_TEXT":Str)=some dt:=rfl;rw[this] at hx;cases hx;rfl
   subst e;exact ⟨_,.str "never",T2 X G ga4_,⟨tg4,rfl⟩,fun m H=>R_str.mpr rfl⟩
  exact absurd hx (by simp only[glL,List.lookup_cons,List.lookup_nil];simp only[beq_eq_false_iff_ne.mpr q0,beq_eq_false_iff_ne.mpr q1,beq_eq_false_iff_ne.mpr q2,beq_eq_false_iff_ne.mpr q3,beq_eq_false_iff_ne.mpr q4];exact fun z=>nomatch z)
 have Fq0:At K mg "how_many" dC ["stair","holds"]:=At.mk' X G (fun _ _ _ _ _ _=>ar2 (fun _ _=>rfl)) a22 l22 c22 k22;have Fq1:At K mg "coming" cN ["stair","t"]:=At.mk' X G (fun _ _ _ _ _ _=>ar2 (fun _ _=>rfl)) a25 l25 c25 k25;have Fq2:At K mg "latest" cP ["stair","y"]:=At.mk' X G (fun _ _ _ _ _ _=>ar2 (fun _ _=>rfl)) a26 l26 c26 k26;have t_coming:=F6 a25 l25 tc25 tv25;have t_latest:=F6 a26 l26 tc26 tv26;have t_through:=ML tz2;refine ⟨W.fnOf "law" "law" (bC oU) (af oU) (aa oU) .none kV dc pm an cd ct,fun s v=>.of_eq rfl,?lk,?lq,fun base _ _ B=>?_⟩
 case lk =>
  refine HR fun x hx=>?_;simp only[aV,List.mem_cons,List.not_mem_nil,or_false] at hx;rcases hx with rfl|rfl|rfl
  ·refine .inr ⟨_,_,t_coming,tn25,fun y hy ne d e=>?_⟩;simp only[aV,List.mem_cons,List.not_mem_nil,or_false] at hy;rcases hy with rfl|rfl|rfl
   ·exact ne rfl
   ·rw[t_latest] at e;exact absurd (Q0 (fun z=>z.map Prod.snd) e) (by intro z;injection z with z;exact tne_latest_coming z)
   ·rw[t_through] at e;cases e
  ·refine .inr ⟨_,_,t_latest,tn26,fun y hy ne d e=>?_⟩;simp only[aV,List.mem_cons,List.not_mem_nil,or_false] at hy;rcases hy with rfl|rfl|rfl
   ·rw[t_coming] at e;exact absurd (Q0 (fun z=>z.map Prod.snd) e) (by intro z;injection z with z;exact tne_coming_latest z)
   ·exact ne rfl
   ·rw[t_through] at e;cases e
  ·exact .inl t_through
 case lq =>
  intro x hx;simp only[aV,List.mem_cons,List.not_mem_nil,or_false] at hx;rcases hx with rfl|rfl|rfl
  ·exact .inr ⟨_,tr25⟩
  ·exact .inr ⟨_,tr26⟩
  ·exact .inl t_through
 have T:XT K mg FX.xs ysL (fun k=>([C0]:List Addr).getD k 0) (fun i=>([C0]:List Addr).getD i 0) OF:=by
  refine⟨fun i x e=>?_,fun k hk=>?_,fun k i hk hi=>?_⟩
  ·match i,e with
   | 0,e=>cases e;exact⟨T2 X G y0.1,y0.cl⟩
  ·match k,hk with
   | 0,hk=>exact⟨y0.cl,xv0⟩
  ·match k,hk with
   | 0,hk =>
    match i,hi with
    | 0,hi=>exact⟨rl_0_0,fun z=>absurd z (by decide)⟩
 have G0:JX l.prog w K mg base qk FX Γ ΓR (fun k=>([C0]:List Addr).getD k 0):=by
  refine⟨⟨fun f x hf=>absurd hf (RS _),hb,hgl,Γm⟩,⟨fun f x hf=>absurd hf (RS _),fun k x e=>?_,ΓRm⟩⟩
  match k,e with
  | 0,e=>cases e;exact⟨T2 X G y0.1,ex0⟩
 have G1:JX l.prog w K mg base iL FX Γ ΓR (fun k=>([C0]:List Addr).getD k 0):=G0.nx (sp:=a9) X G d0 xD zv nh zO (by walk_at "AR");have G2:JX l.prog w K mg base kU FX Γ ΓR (fun k=>([C0]:List Addr).getD k 0):=G1.nx (sp:=aO) X G d1 nu nU lH nW (by walk_at "AR");have G3:JX l.prog w K mg base rW FX Γ ΓR (fun k=>([C0]:List Addr).getD k 0):=G2.nx (sp:=bB) X G d2 qf sA pI sY (by walk_at "AR");have G4:JX l.prog w K mg base EX FX Γ ΓR (fun k=>([C0]:List Addr).getD k 0):=G3.nx (sp:=cM) X G d3 xP zV vb yS (by walk_at "AR");have G5:JX l.prog w K mg base Bv FX Γ ΓR (fun k=>([C0]:List Addr).getD k 0):=G4.nx (sp:=ej) X G d4 GS LX xS LV (by walk_at "AR");have G6:JX l.prog w K mg base rA FX Γ ΓR (fun k=>([C0]:List Addr).getD k 0):=G5.nx (sp:=gF) X G d5 Ej HL B0 GU (by walk_at "AR");have G7:JX l.prog w K mg base k8 FX Γ ΓR (fun k=>([C0]:List Addr).getD k 0):=G6.nx (sp:=a8) X G d6 yd Au mO Ad (by walk_at "AR");have G8:JX l.prog w K mg base jz FX Γ ΓR (fun k=>([C0]:List Addr).getD k 0):=G7.nx (sp:=bT) X G d7 qI sZ pN sy (by walk_at "AR");have G9:JX l.prog w K mg base iN FX Γ ΓR (fun k=>([C0]:List Addr).getD k 0):=G8.nx (sp:=aG) X G d8 nM pH gP pA (by walk_at "AR");have G10:JX l.prog w K mg base lh FX Γ ΓR (fun k=>([C0]:List Addr).getD k 0):=G9.nx (sp:=bc) X G d9 mP nY lO nH (by walk_at "AR");have G11:JX l.prog w K mg base jy FX Γ ΓR (fun k=>([C0]:List Addr).getD k 0):=G10.nxX (sp:=aN) X G d10 qu tm pv eI tH (by walk_at "AR");have G12:JX l.prog w K mg base oJ FX Γ ΓR (fun k=>([C0]:List Addr).getD k 0):=G11.nxX (sp:=aJ) X G d11 nJ pF ml dG pb (by walk_at "AR");have G13:JX l.prog w K mg base kX FX Γ ΓR (fun k=>([C0]:List Addr).getD k 0):=G12.nx (sp:=cX) X G d12 vZ w_ s_ yc (by walk_at "AR");have G14:JX l.prog w K mg base rO FX Γ ΓR (fun k=>([C0]:List Addr).getD k 0):=G13.nx (sp:=bS) X G d13 rg sV pK tu (by walk_at "AR");have G15:JX l.prog w K mg base iO FX Γ ΓR (fun k=>([C0]:List Addr).getD k 0):=G14.nx (sp:=dN) X G d14 x_ zo vF zJ (by walk_at "AR");have G16:JX l.prog w K mg base iR FX Γ ΓR (fun k=>([C0]:List Addr).getD k 0):=G15.nx (sp:=bb) X G d15 mS n8 lD nR (by walk_at "AR");have G17:JX l.prog w K mg base gW FX Γ ΓR (fun k=>([C0]:List Addr).getD k 0):=G16.nx (sp:=a_) X G d16 mf nF lC nO (by walk_at "AR");have G18:JX l.prog w K mg base xE FX Γ ΓR (fun k=>([C0]:List Addr).getD k 0):=G17.nx (sp:=aX) X G d17 lz l_ kR mC (by walk_at "AR");have G19:JX l.prog w K mg base tK FX Γ ΓR (fun k=>([C0]:List Addr).getD k 0):=G18.nx (sp:=gk) X G d18 B_ Gw Ak DX (by walk_at "AR");have G20:JX l.prog w K mg base FK FX Γ ΓR (fun k=>([C0]:List Addr).getD k 0):=G19.nx (sp:=eP) X G d19 zL Ci xw CF (by walk_at "AR");have G21:JX l.prog w K mg base qq FX Γ ΓR (fun k=>([C0]:List Addr).getD k 0):=G20.nx (sp:=kE) X G d20 IF Lw GF MH (by walk_at "AR");have G22:JX l.prog w K mg base lI FX Γ ΓR (fun k=>([C0]:List Addr).getD k 0):=G21.nx (sp:=dM) X G d21 xn zq vQ Ap (by walk_at "AR");have M:=xo Fq0 G22.g;have G23:JX l.prog w K mg base j9 FX Γ ΓR (fun k=>([C0]:List Addr).getD k 0):=G22.nxG (yb Fq0);have G24:JX l.prog w K mg base xN FX Γ ΓR (fun k=>([C0]:List Addr).getD k 0):=G23.nx (sp:=bL) X G d23 pf qX oF sg (by walk_at "AR");have G25:JX l.prog w K mg base r_ FX Γ ΓR (fun k=>([C0]:List Addr).getD k 0):=G24.nx (sp:=gq) X G d24 CJ EL Aj Di (by walk_at "AR");have G26:JX l.prog w K mg base qj FX Γ ΓR (fun k=>([C0]:List Addr).getD k 0):=G25.nxG (C5 a25 l25 t_coming B Fq1 c25 (T2 X G a25) G25.g M);have G27:JX l.prog w K mg base tS FX Γ ΓR (fun k=>([C0]:List Addr).getD k 0):=G26.nxG (CM a26 l26 t_latest B Fq2 c26 (T2 X G a26) G26.g M);have G28:JX l.prog w K mg base mz FX Γ ΓR (fun k=>([C0]:List Addr).getD k 0):=G27.nx (sp:=eQ) X G d27 zC CW xA Cj (by walk_at "AR");have G29:JX l.prog w K mg base l7 FX Γ ΓR (fun k=>([C0]:List Addr).getD k 0):=G28.nx (sp:=cB) X G d28 sS vk rP u9 (by walk_at "AR");have G30:JX l.prog w K mg base nq FX Γ ΓR (fun k=>([C0]:List Addr).getD k 0):=G29.nx (sp:=aM) X G d29 sH uZ jZ wd (by walk_at "AR");have G31:JX l.prog w K mg base mI FX Γ ΓR (fun k=>([C0]:List Addr).getD k 0):=G30.nxX (sp:=a0) X G d30 sx u7 qN fB v_ (by walk_at "AR");have G32:JX l.prog w K mg base rE FX Γ ΓR (fun k=>([C0]:List Addr).getD k 0):=G31.nxX (sp:=aZ) X G d31 tF v7 qB fL vT (by walk_at "AR");have G33:JX l.prog w K mg base mR FX Γ ΓR (fun k=>([C0]:List Addr).getD k 0):=G32.nx (sp:=dJ) X G d32 xW yU vG y_ (by walk_at "AR");have G34:JX l.prog w K mg base rY FX Γ ΓR (fun k=>([C0]:List Addr).getD k 0):=G33.nx (sp:=cz) X G d33 tD uR rq u_ (by walk_at "AR");have G35:JX l.prog w K mg base oR FX Γ ΓR (fun k=>([C0]:List Addr).getD k 0):=G34.nx (sp:=dP) X G d34 xC zr vC zS (by walk_at "AR");have G36:JX l.prog w K mg base oY FX Γ ΓR (fun k=>([C0]:List Addr).getD k 0):=G35.nx (sp:=gc) X G d35 vJ yI sC wj (by walk_at "AR");have G37:JX l.prog w K mg base mq FX Γ ΓR (fun k=>([C0]:List Addr).getD k 0):=G36.nx (sp:=gf) X G d36 vg wK sF yA (by walk_at "AR");have G38:JX l.prog w K mg base oN FX Γ ΓR (fun k=>([C0]:List Addr).getD k 0):=G37.nx (sp:=fc) X G d37 tE vV qZ vD (by walk_at "AR");have G39:JX l.prog w K mg base jx FX Γ ΓR (fun k=>([C0]:List Addr).getD k 0):=G38.nx (sp:=c8) X G d38 vt wu sU wH (by walk_at "AR");have G40:JX l.prog w K mg base mY FX Γ ΓR (fun k=>([C0]:List Addr).getD k 0):=G39.nx (sp:=bA) X G d39 nZ pL m5 pG (by walk_at "AR");have G41:JX l.prog w K mg base k9 FX Γ ΓR (fun k=>([C0]:List Addr).getD k 0):=G40.nx (sp:=cw) X G d40 td vS rR vz (by walk_at "AR");have G42:JX l.prog w K mg base qA FX Γ ΓR (fun k=>([C0]:List Addr).getD k 0):=G41.nx (sp:=bX) X G d41 q8 tG pq sT (by walk_at "AR");have G43:JX l.prog w K mg base ju FX Γ ΓR (fun k=>([C0]:List Addr).getD k 0):=G42.nx (sp:=dQ) X G d42 wW Ae wc zd (by walk_at "AR");have G44:JX l.prog w K mg base iI FX Γ ΓR (fun k=>([C0]:List Addr).getD k 0):=G43.nx (sp:=c9) X G d43 og pd mh ph (by walk_at "AR");have G45:JX l.prog w K mg base jA FX Γ ΓR (fun k=>([C0]:List Addr).getD k 0):=G44.nx (sp:=ba) X G d44 mx oq ly oA (by walk_at "AR");have G46:JX l.prog w K mg base kY FX Γ ΓR (fun k=>([C0]:List Addr).getD k 0):=G45.nx (sp:=bw) X G d45 nI pC mj pM (by walk_at "AR");have G47:JX l.prog w K mg base ka FX Γ ΓR (fun k=>([C0]:List Addr).getD k 0):=G46.nx (sp:=bV) X G d46 qV sN pR sI (by walk_at "AR");have G48:JX l.prog w K mg base oW FX Γ ΓR (fun k=>([C0]:List Addr).getD k 0):=G47.nx (sp:=bK) X G d47 pO si nK qy (by walk_at "AR");have G49:JX l.prog w K mg base gz FX Γ ΓR (fun k=>([C0]:List Addr).getD k 0):=G48.nx (sp:=cZ) X G d48 v9 wV tI xg (by walk_at "AR");have G50:JX l.prog w K mg base oK FX Γ ΓR (fun k=>([C0]:List Addr).getD k 0):=G49.nx (sp:=bQ) X G d49 kP lK jM lS (by walk_at "AR");have G51:JX l.prog w K mg base jY FX Γ ΓR (fun k=>([C0]:List Addr).getD k 0):=G50.nx (sp:=fY) X G d50 vW wO sJ ye (by walk_at "AR");have G52:JX l.prog w K mg base mM FX Γ ΓR (fun k=>([C0]:List Addr).getD k 0):=G51.nxT (sp:=bI) T ex0 X G d51 o_ rK nG so (by walk_at "AR");have G53:JX l.prog w K mg base Km FX Γ ΓR (fun k=>([C0]:List Addr).getD k 0):=G52.nx (sp:=bq) X G d52 sL uQ rZ vf (by walk_at "AR");exact Ie (qual:="law") (Fp (st:=oU) lL cL kL) LG rfl rfl NN G53.g (fun as st Q=>HD) (fun as st Q=>Oi)
end My
namespace PySem.W.Fast
def tw6808704404793571464:=Nat
def tw11994101641686190583:=Nat
def tw168775861280030898:=Nat
def tw2620569590075044343:=Nat
def tw17962778551097975859:=Nat
def tw4020522894340747047:=Nat
def tw10522398591413288364:=Nat
def tw8140880053575472103:=Nat
def tw11624780530137930436:=Nat
def tw7977597571965075037:=Nat
def tw4344269153573440597:=Nat
def tw3887357443515679123:=Nat
def tw10071677379043659353:=Nat
def tw17408007048890274898:=Nat
def tw12096209306807673886:=Nat
def tw8661618026065421312:=Nat
def tw8514952412288531702:=Nat
def tw14139380361499207259:=Nat
def tw16834363350982033592:=Nat
def tw3133197424929046585:=Nat
def tw4063431280351947682:=Nat
def tw9786278389470777088:=Nat
def tw1885272387667355338:=Nat
def tw9532559089864958469:=Nat
def tw8887514121251151863:=Nat
def tw12998403424534152334:=Nat
def tw2724665894324365685:=Nat
def tw16564548635000606201:=Nat
def tw7890908478065395505:=Nat
def tw16611687144681475044:=Nat
def tw18434712296295527717:=Nat
def tw5863403284094849063:=Nat
def tw10290154684079323583:=Nat
def tw9629943509276833897:=Nat
def tw437726555885907741:=Nat
def tw1491424128313249912:=Nat
def tw2629601112516801225:=Nat
def tw14186256684862133284:=Nat
def tw4767125800846653000:=Nat
def tw14332582992873390512:=Nat
def tw4292848417053335979:=Nat
def tw15074443661445366950:=Nat
def tw12755970602791081133:=Nat
def tw5669584221418814374:=Nat
def tw4971982391225070545:=Nat
def tw15170454556447044852:=Nat
def tw11157244364848145727:=Nat
def tw6972843780108055018:=Nat
def tw653515299101202328:=Nat
def tw1784457703221391603:=Nat
def tw13644439500852586441:=Nat
def tw16117278992491253161:=Nat
def tw10987138127348427070:=Nat
def tw10989041258051338328:=Nat
def tw14491129330986263709:=Nat
def tw3005736192296296796:=Nat
def tw6080326906147034031:=Nat
def tw15920057376977549406:=Nat
def tw11121819117293812703:=Nat
def tw7438928158667041007:=Nat
def tw13274418503044035874:=Nat
def tw16255830644927679886:=Nat
def tw5589713296402580878:=Nat
def tw10264141673330289583:=Nat
def tw17585246899543909194:=Nat
def tw2346099966931395948:=Nat
def tw3534602247237967719:=Nat
def tw663275580578429127:=Nat
def tw12657922535796482847:=Nat
def tw15113086938653440132:=Nat
def tw10180802348465161692:=Nat
def tw17297480477856178404:=Nat
def tw9608880203484257692:=Nat
def tw4244391877691112878:=Nat
def tw10393985303423654528:=Nat
def tw8688722590828512672:=Nat
def tw16191485094365026101:=Nat
def tw5022658454275417191:=Nat
def tw3346892844648953194:=Nat
def tw16685814639943803643:=Nat
def tw14522709737450491520:=Nat
def tw2321880874791611015:=Nat
def tw730036122306439920:=Nat
def tw4933217830072245977:=Nat
def tw6340680301738300462:=Nat
def tw1180782799091267962:=Nat
def tw13085956101680364240:=Nat
def tw5236513394930264655:=Nat
def tw14633327152608373126:=Nat
def tw14253960758020980194:=Nat
def tw9695799847024470797:=Nat
def tw17057568148920678757:=Nat
def tw3598706433837437145:=Nat
def tw2464968183566721398:=Nat
def tw10801775805820719118:=Nat
def tw17962393668999570694:=Nat
def tw14152398352935909601:=Nat
def tw5604484412073602300:=Nat
def tw8094053321881993581:=Nat
def tw584259985593408449:=Nat
def tw2615870228083824977:=Nat
def tw16539230350432800317:=Nat
def tw5408766439542497025:=Nat
def tw15213548690098275931:=Nat
def tw9427672679813623141:=Nat
def tw5437917031288608911:=Nat
def tw3229699151378704475:=Nat
def tw9392479686935531020:=Nat
def tw3840626503688706726:=Nat
def tw13928979878106666135:=Nat
def tw10752408545553666597:=Nat
def tw8630141986483604382:=Nat
def tw4497633643163234588:=Nat
def tw18158535401140305302:=Nat
def tw10052016169867191046:=Nat
def tw11859630431874835525:=Nat
def tw17212202798155119888:=Nat
def tw6625982326899219310:=Nat
def tw6151849753020668802:=Nat
def tw16065969956433602014:=Nat
def tw1895574320394177735:=Nat
def tw17744915161040113177:=Nat
def tw3899048198573194108:=Nat
def tw4306029041414912731:=Nat
def tw15560961769082775391:=Nat
def tw10868436191342398503:=Nat
def tw9263614800781451401:=Nat
def tw13479084648397414389:=Nat
def tw17255515710168275002:=Nat
def tw10130597093852940432:=Nat
def tw1080598143429904957:=Nat
def tw17902765841123293393:=Nat
def tw2975851412194748395:=Nat
def tw14520534295748811486:=Nat
def tw64528704108150108:=Nat
def tw11945329006503724236:=Nat
def tw1568609954659682044:=Nat
def tw13950782150618550978:=Nat
def tw6574584818488372478:=Nat
def tw4383061691216519314:=Nat
def tw11805028698397798870:=Nat
def tw9614570787920665526:=Nat
def tw9300265900134647809:=Nat
def tw8943628435822100480:=Nat
def tw8165930338734363792:=Nat
def tw810649886205871846:=Nat
def tw8035678195059458574:=Nat
def tw7505773755289526595:=Nat
def tw6979361240855949948:=Nat
def tw5321123286233205576:=Nat
def tw5126548770786411966:=Nat
def tw4767671375749268066:=Nat
def tw4426908593171582904:=Nat
def tw4242047837847161930:=Nat
def tw4213552485061587311:=Nat
def tw4148173610634195077:=Nat
def tw4077956992412194503:=Nat
def tw3570806896912560858:=Nat
def tw3094359158219871466:=Nat
def tw2903848847104548902:=Nat
def tw284683315933383138:=Nat
def tw23393137728861633:=Nat
def tw2039375010739805854:=Nat
def tw17020807687883254944:=Nat
def tw16709235761191645163:=Nat
def tw1636341399350361159:=Nat
def tw15515098914195987731:=Nat
def tw15117210350298679258:=Nat
def tw14977046309122083082:=Nat
def tw13718331694867449497:=Nat
def tw13430705246038489514:=Nat
def tw13256804766377759134:=Nat
def tw13200433222502321351:=Nat
def tw12428050428235513820:=Nat
def tw12256947298982564686:=Nat
def tw11255655478884508277:=Nat
def tw11229651816178699480:=Nat
def tw10205946765258971713:=Nat
def tw10199592737912545703:=Nat
def tw4386718186765690465:=Nat
def tw3121904476738494438:=Nat
def tw2741087693909332168:=Nat
def tw15318349111371657102:=Nat
def tw1466641069736136863:=Nat
def tw9454580376260798447:=Nat
def tw8053644118991193302:=Nat
def tw6463812552271773498:=Nat
def tw5475692942169478994:=Nat
def tw2950504259876540519:=Nat
def tw17741392094230222471:=Nat
def tw17145463948486952180:=Nat
def tw15287855851497820234:=Nat
def tw15265403737295185889:=Nat
def tw13337980988256610838:=Nat
def tw12353517513846411862:=Nat
def tw10743158803115008566:=Nat
def tw10656258224351666848:=Nat
def tw14201209911387687903:=Nat
def tw2885510749875294107:=Nat
def tw14743388664230870109:=Nat
def tw1268977409901864579:=Nat
def tw16020343403555399220:=Nat
def tw6951481000336620453:=Nat
def tw627924952206200741:=Nat
def tw431042028984362522:=Nat
def tw11072039742473552661:=Nat
def tw12324219648127699590:=Nat
def tw4495115282716770884:=Nat
def tw4116599940579220203:=Nat
def tw3851023728084915095:=Nat
def tw9879480974747119380:=Nat
def tw1962800580560754817:=Nat
def tw13287178494944139569:=Nat
def tw3711699406267322581:=Nat
def tw3229602552427064576:=Nat
def tw2906812445245372523:=Nat
def tw13165585349377600112:=Nat
def tw7174474389460695420:=Nat
def tw4318805017033906503:=Nat
def tw4140486793635611044:=Nat
def tw17357940874803924140:=Nat
def tw15738454884176711890:=Nat
def tw6661774562834206804:=Nat
def tw8094692647832042536:=Nat
def tw16540068820188009519:=Nat
def tw15321903087735860896:=Nat
def tw9437136007054067783:=Nat
def tw44874609303377285:=Nat
def tw16055135398382226194:=Nat
def tw15120590313466680823:=Nat
def tw10460075593397006:=Nat
def tw8403242149707980466:=Nat
def tw7575068073893553922:=Nat
def tw6507971442901254567:=Nat
def tw3761310407266529854:=Nat
def tw2971288672446777600:=Nat
def tw15980267833610095451:=Nat
def tw13726547915953841857:=Nat
def tw3408946012578989026:=Nat
def tw2098516840259928172:=Nat
def tw17639036142532447474:=Nat
def tw9995095756825979399:=Nat
def tw9679467802147476366:=Nat
def tw9613857159672866290:=Nat
def tw9024972559363255105:=Nat
def tw8003006464341064171:=Nat
def tw6651643382250234424:=Nat
def tw3444384019948481980:=Nat
def tw338152887592557295:=Nat
def tw2949171135328603998:=Nat
def tw2029471490449888202:=Nat
def tw17890702217191938162:=Nat
def tw14854957996900716602:=Nat
def tw13284096361163717723:=Nat
def tw13357952210516658580:=Nat
def tw9504825838424949742:=Nat
def tw9471122022043396824:=Nat
def tw6990346324838369121:=Nat
def tw2873135086805711395:=Nat
def tw1802627682009716840:=Nat
def tw17147881869264719107:=Nat
def tw16468442787144434349:=Nat
def tw15403855123480236304:=Nat
def tw12388498571733883302:=Nat
def tw17693325653779350834:=Nat
def tw1205073270644724248:=Nat
def tw10127123929429636262:=Nat
def tw2276139546048841984:=Nat
def tw11552430371601570252:=Nat
def tw2278445211187395434:=Nat
def tw13017366340439944727:=Nat
def tw11548223724768245172:=Nat
def tw9870209663976821263:=Nat
def tw9423386380633917845:=Nat
def tw9335271885541865266:=Nat
def tw9293260219741471769:=Nat
def tw9198982904098963508:=Nat
def tw8871203969768229179:=Nat
def tw8737739065195810993:=Nat
def tw8660566982753707306:=Nat
def tw842128670889871942:=Nat
def tw8354775240440400076:=Nat
def tw8048185114844291185:=Nat
def tw802233842611332388:=Nat
def tw7960763968990938373:=Nat
def tw7922526921403192084:=Nat
def tw7877286166351781380:=Nat
def tw7867750502077467355:=Nat
def tw7835349659793626497:=Nat
def tw7118058338854780161:=Nat
def tw6854078676763218482:=Nat
def tw6824684159111355765:=Nat
def tw6534595172744028195:=Nat
def tw6275781599217243467:=Nat
def tw6196057892102361138:=Nat
def tw6073123518934021018:=Nat
def tw6013362990731333398:=Nat
def tw5932485644918953147:=Nat
def tw5816583331070410371:=Nat
def tw5714077071748767257:=Nat
def tw5576326911029366636:=Nat
def tw5415657058283048308:=Nat
def tw5293496048069874268:=Nat
def tw4965892953451591633:=Nat
def tw4490948400439766265:=Nat
def tw4178036705284964979:=Nat
def tw406457880857377137:=Nat
def tw3331094175427063194:=Nat
def tw2912190973194931279:=Nat
def tw2875025637979818286:=Nat
def tw2508458369850650085:=Nat
def tw2304407397329918312:=Nat
def tw2198529169658403838:=Nat
def tw2050845488589985935:=Nat
def tw1936777969555218500:=Nat
def tw18007688493682492652:=Nat
def tw1768915375388375037:=Nat
def tw17393132740407568999:=Nat
def tw17386055624661091201:=Nat
def tw1738148077920111757:=Nat
def tw17146865718947885286:=Nat
def tw16941245534872767377:=Nat
def tw16936700486914680159:=Nat
def tw16872509140335088699:=Nat
def tw1682798669739966199:=Nat
def tw16781260317496083845:=Nat
def tw1661031335336194995:=Nat
def tw16557274350444212892:=Nat
def tw16489674101283036817:=Nat
def tw16341418721735364822:=Nat
def tw16264833903799469253:=Nat
def tw16243980725673570434:=Nat
def tw16175783952556605212:=Nat
def tw16142864740161047039:=Nat
def tw16078478751727271616:=Nat
def tw15790625606701515967:=Nat
def tw15790593228975874753:=Nat
def tw157810644285676865:=Nat
def tw15699752043720195861:=Nat
def tw15694826888773722040:=Nat
def tw15481362737537376911:=Nat
def tw15467597300384882982:=Nat
def tw15267668677947554165:=Nat
def tw15149121330793067393:=Nat
def tw14961260736834512444:=Nat
def tw14906944575095822349:=Nat
def tw14778321364449612621:=Nat
def tw14702076738505246492:=Nat
def tw14605098714614510345:=Nat
def tw14559570746939001362:=Nat
def tw14489193700964499449:=Nat
def tw14458956548226677203:=Nat
def tw14310880799570054911:=Nat
def tw14282835587392278851:=Nat
def tw14031954323657773133:=Nat
def tw13951595312118111688:=Nat
def tw13909428786666610533:=Nat
def tw13793394866581333303:=Nat
def tw13490121260072429526:=Nat
def tw1347007147032725880:=Nat
def tw13395064133499145783:=Nat
def tw13080737806669316729:=Nat
def tw12460999969417823478:=Nat
def tw12380729562739804316:=Nat
def tw12200865160756330340:=Nat
def tw1192533124014031917:=Nat
def tw1176917400852915600:=Nat
def tw11713337245413682149:=Nat
def tw11543982347841987135:=Nat
def tw11466001225117423355:=Nat
def tw10688212537843929319:=Nat
def tw10428622040663804551:=Nat
def tw10423380047356084030:=Nat
def tw10355102461507337433:=Nat
def tw9907361091224059853:=Nat
def tw9659287920478848477:=Nat
def tw956330633113984666:=Nat
def tw9446157583219840370:=Nat
def tw9441367684051570146:=Nat
def tw9211638732826174674:=Nat
def tw9169056604081464493:=Nat
def tw9105252683184291600:=Nat
def tw8729347081987088080:=Nat
def tw7614360072247603713:=Nat
def tw7511317668070768711:=Nat
def tw7467941862737491038:=Nat
def tw6473465523662030039:=Nat
def tw5907514743527376795:=Nat
def tw5741666394203051708:=Nat
def tw5593803664258727790:=Nat
def tw5465556560447373250:=Nat
def tw5301106332610421968:=Nat
def tw5249329813950032321:=Nat
def tw5041376496235218998:=Nat
def tw4944134533742062543:=Nat
def tw3801184151543471089:=Nat
def tw379698022417321583:=Nat
def tw3679445012266755827:=Nat
def tw3577619338333940368:=Nat
def tw3043960768295986975:=Nat
def tw2686965514790166512:=Nat
def tw2483663817591412875:=Nat
def tw2348198566357384131:=Nat
def tw2298801438963287611:=Nat
def tw2193395241136170225:=Nat
def tw1954448465319166279:=Nat
def tw18242357240964920411:=Nat
def tw18139709880336886599:=Nat
def tw18139080470228509399:=Nat
def tw18128639678480408283:=Nat
def tw17887653144768926038:=Nat
def tw17487204226325165223:=Nat
def tw17256757602085358982:=Nat
def tw16994232537482953097:=Nat
def tw16661661135526763508:=Nat
def tw16439888728209809301:=Nat
def tw15471490649425458082:=Nat
def tw15465026801531866363:=Nat
def tw15360321056034785831:=Nat
def tw15315164123419613287:=Nat
def tw1467641456636835817:=Nat
def tw14675232344663041443:=Nat
def tw14587300637269588824:=Nat
def tw14428476164437591859:=Nat
def tw14381257234828423544:=Nat
def tw14234353157186149226:=Nat
def tw12961014837800486041:=Nat
def tw12066523571235626455:=Nat
def tw11769915310988210159:=Nat
def tw11587027461900729627:=Nat
def tw11370211873108905172:=Nat
def tw1100033071051080138:=Nat
def tw10826988720866186398:=Nat
end PySem.W.Fast
open PySem PySem.W PyProof.Rows
local macro_rules | `(tactic| walk_at "DI")=>`(tactic| (refine' FW.DI_mk ?a ?l ?c ?k;(case a=>k_is);(case l=>k_is);(case c=>k_is);(case k=>k_is)))
local macro_rules | `(tactic| walk_at "CI")=>`(tactic| (refine' FW.CI_mk ?a ?b ?c ?d ?e ?f ?g ?h;(case a=>k_is);(case b=>k_is);(case c=>k_is);(case d=>k_is);(case e=>k_is);(case f=>k_is);(case g=>k_is);(case h=>k_is)))
set_option maxRecDepth 100000 in
set_option maxHeartbeats 0 in
theorem PySem.Challenge.cw_hourstairs_k25_texts_there_and_back_holds : PySem.Challenge.rw_hourstairs_k25_texts_there_and_back.Holds := by
 w_on;o_law;k_head;(case hw=>w_witness2)
 k_fill
 refine FW.walkF (l:=PySem.Challenge.rw_hourstairs_k25_texts_there_and_back) (k:=54) (x:="_law_script") rfl rfl ⟨rfl,by decide,by decide,rfl⟩ (fun w h Y=>PySem.W.km_in_of Y) ?F
 case F =>
  intro w mg fa h KX G hmg
  refine' My.all_mk KX G hmg ?d0 ?d1 ?d2 ?d3 ?d4 ?d5 ?d6 ?d7 ?d8 ?d9 ?d10 ?d11 ?d12 ?d13 ?d14 ?d15 ?d16 ?d17 ?d18 ?d19 ?d20 ?d21 ?a22 ?l22 ?c22 ?k22 ?d23 ?d24 ?a25 ?l25 ?c25 ?k25 ?tc25 ?tv25 ?tn25 ?tr25 ?a26 ?l26 ?c26 ?k26 ?tc26 ?tv26 ?tn26 ?tr26 ?d27 ?d28 ?d29 ?d30 ?d31 ?d32 ?d33 ?d34 ?d35 ?d36 ?d37 ?d38 ?d39 ?d40 ?d41 ?d42 ?d43 ?d44 ?d45 ?d46 ?d47 ?d48 ?d49 ?d50 ?d51 ?d52 ?d53 ?z0 ?z1 ?z2 ?z3 ?z4 ?z5 ?z6 ?z7 ?z8 ?z9 ?z10 ?z11 ?z12 ?z13 ?tz2 ?tne_coming_latest ?tne_latest_coming ?y0 ?ex0 ?xv0 ?rl_0_0 ?ga0_ ?ga1_ ?ga2_ ?ga3_ ?gl3_ ?ga4_
  all_goals first|delta My.zn|skip
  (case d0=>walk_at "DI")
  (case d1=>walk_at "DI")
  (case d2=>walk_at "DI")
  (case d3=>walk_at "DI")
  (case d4=>walk_at "DI")
  (case d5=>walk_at "DI")
  (case d6=>walk_at "DI")
  (case d7=>walk_at "DI")
  (case d8=>walk_at "DI")
  (case d9=>walk_at "DI")
  (case d10=>walk_at "DI")
  (case d11=>walk_at "DI")
  (case d12=>walk_at "DI")
  (case d13=>walk_at "DI")
  (case d14=>walk_at "DI")
  (case d15=>walk_at "DI")
  (case d16=>walk_at "DI")
  (case d17=>walk_at "DI")
  (case d18=>walk_at "DI")
  (case d19=>walk_at "DI")
  (case d20=>walk_at "DI")
  (case d21=>walk_at "DI")
  (case a22=>k_is)
  (case l22=>k_is)
  (case c22=>k_is)
  (case k22=>k_is)
  (case d23=>walk_at "DI")
  (case d24=>walk_at "DI")
  (case a25=>k_is)
  (case l25=>k_is)
  (case c25=>k_is)
  (case k25=>k_is)
  (case tc25=>k_is)
  (case tv25=>rfl)
  (case tn25=>rfl)
  (case tr25=>rfl)
  (case a26=>k_is)
  (case l26=>k_is)
  (case c26=>k_is)
  (case k26=>k_is)
  (case tc26=>k_is)
  (case tv26=>rfl)
  (case tn26=>rfl)
  (case tr26=>rfl)
  (case d27=>walk_at "DI")
  (case d28=>walk_at "DI")
  (case d29=>walk_at "DI")
  (case d30=>walk_at "DI")
  (case d31=>walk_at "DI")
  (case d32=>walk_at "DI")
  (case d33=>walk_at "DI")
  (case d34=>walk_at "DI")
  (case d35=>walk_at "DI")
  (case d36=>walk_at "DI")
  (case d37=>walk_at "DI")
  (case d38=>walk_at "DI")
  (case d39=>walk_at "DI")
  (case d40=>walk_at "DI")
  (case d41=>walk_at "DI")
  (case d42=>walk_at "DI")
  (case d43=>walk_at "DI")
  (case d44=>walk_at "DI")
  (case d45=>walk_at "DI")
  (case d46=>walk_at "DI")
  (case d47=>walk_at "DI")
  (case d48=>walk_at "DI")
  (case d49=>walk_at "DI")
  (case d50=>walk_at "DI")
  (case d51=>walk_at "DI")
  (case d52=>walk_at "DI")
  (case d53=>walk_at "DI")
  (case z0=>k_is)
  (case z1=>k_is)
  (case z2=>k_is)
  (case z3=>k_is)
  (case z4=>k_is)
  (case z5=>k_is)
  (case z6=>k_is)
  (case z7=>k_is)
  (case z8=>k_is)
  (case z9=>k_is)
  (case z10=>k_is)
  (case z11=>k_is)
  (case z12=>k_is)
  (case z13=>k_is)
  (case tz2=>k_is)
  (case tne_coming_latest=>decide)
  (case tne_latest_coming=>decide)
  (case y0=>walk_at "CI")
  (case ex0=>kernel_rfl)
  (case xv0=>k_is)
  (case rl_0_0=>k_is)
  (case ga0_=>k_is)
  (case ga1_=>k_is)
  (case ga2_=>k_is)
  (case ga3_=>k_is)
  (case gl3_=>k_is)
  (case ga4_=>k_is)
