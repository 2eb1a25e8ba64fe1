import PyProof.Rows.All
import Wide.All
import OpenK.AllK
import Wide.FinOn
import Lean
import PyProof.EqAt
import PyProof.EqKinds
import PyProof.TupleCall
import PyProof.FactsAll.set
import PyProof.DictWalks
import PyProof.CollectWalk
import PyProof.Rows.SetFrom
import PyProof.Rows.SortWalk
import PyProof.Rows.SortStr
import PyProof.Rows.MinMaxN
import PyProof.StrCalls2
import PyProof.FString5
import KE.LcSums
import KE.KDictSum
import PyProof.DictItems
import PyProof.DictCompW
import PyProof.NeKinds
import KE.KEqDict
import KE.KPairComp
import KE.KDictOf
import PyProof.AttrMissHeap
import PyProof.RaisesMany
import PyProof.Rows.CatchOwn
import PyProof.Rows.TopTwo
import PyProof.IsInstanceT
import OpenK.KOwn
import PyProof.ExcBaseAll.ValueError
import PyProof.ExcAttrAll.ValueError
import PyProof.IsiTupleAll
import OpenK.KMore
import PySem.Challenge.RW_hourstairs_k26_whole_no_texts
open PySem PySem.Spec
open PyProof.Rows hiding K st lo ad
set_option Elab.async false
set_option linter.all false
set_option maxRecDepth 100000
set_option maxHeartbeats 4000000
set_option genSizeOf false
set_option compiler.extract_closed false
set_option genSizeOfSpec false
abbrev OP:=@PySem.wpAny_bind
abbrev OR:=@PySem.Heap.get?_push_of_some
abbrev OS:=@Bool.false_ne_true
abbrev OT:=@List.getElem?_eq_some_iff
abbrev OU:=@Bool.and_eq_true
abbrev OV:=@List.mem_cons_of_mem
abbrev OW:=@Nat.lt_of_lt_of_le
abbrev OX:=@Nat.le_refl
abbrev OY:=@if_neg
abbrev OZ:=@List.mem_of_getElem?
abbrev O0:=@if_pos
abbrev O1:=@List.length_map
abbrev O2:=@PySem.wpAny_pure
abbrev O3:=@PySem.Heap.lt_size
abbrev O4:=@List.nodup_cons
abbrev O5:=@PySem.Heap.get?_push_size
abbrev O6:=@List.getElem?_eq_getElem
abbrev O7:=@Nat.le_trans
abbrev O8:=@List.map_cons
abbrev O9:=@List.mem_map
abbrev O_:=@List.getElem?_append_left
abbrev PB:=@List.getElem?_append_right
abbrev PC:=@List.getElem?_map
abbrev PD:=@List.mem_cons_self
abbrev PF:=@decide_eq_false
abbrev PH:=@List.size_toArray
abbrev PJ:=@decide_eq_true
abbrev PL:=@List.length_append
abbrev PM:=@List.mem_singleton
abbrev PN:=@Nat.ne_of_lt
abbrev PP:=@List.mem_append_right
abbrev PQ:=@List.mem_cons
abbrev PR:=@List.getElem?_set_ne
abbrev PU:=@congrArg
abbrev PY:=@List.append_assoc
abbrev PZ:=@Int.natCast_mul
abbrev P0:=@List.getElem?_set_self
abbrev P1:=@Option.map_eq_some_iff
abbrev P2:=@of_decide_eq_true
abbrev P4:=@Option.some.inj
abbrev P5:=@Nat.pow_le_pow_right
abbrev P6:=@List.filterMap_cons
abbrev P7:=@List.mem_append
abbrev P8:=@List.length_take
abbrev P9:=@Nat.zero_le
abbrev P_:=@PyProof.Rows.callWith_type1
abbrev QA:=@PySem.StrLaws.strSub_toList
abbrev QB:=@PySem.W.mg_none_of
abbrev QC:=@PySem.F.plainAttrs_list
abbrev QD:=@List.eraseIdx_eq_take_drop_succ
abbrev QE:=@List.any_cons
abbrev QF:=@List.all_eq_true
abbrev QG:=@PySem.mem_of_lookup
abbrev QH:=@List.replicate_succ
abbrev QI:=@Int.toNat_of_nonneg
abbrev QJ:=@List.mem_append_left
abbrev QK:=@List.length_cons
abbrev QL:=@List.getElem?_of_mem
abbrev QM:=@List.all_cons
abbrev QN:=@Nat.le_of_lt
abbrev QO:=@PySem.Heap.get?_update_other
abbrev QP:=@Array.getElem?_eq_some_iff
abbrev QQ:=@PySem.F.plainAttrs_str
abbrev QR:=@Nat.mul_pos
abbrev QS:=@PyProof.Rows.slot_tuple_getitem
abbrev QT:=@List.drop_eq_getElem_cons
abbrev QU:=@List.getElem?_eq_none
abbrev QV:=@Nat.lt_irrefl
abbrev QW:=@Rat.le_of_lt
abbrev QX:=@List.length_eq_zero_iff
abbrev QY:=@Bool.or_eq_true
abbrev QZ:=@PySem.W.Looks.here
abbrev Q0:=@PySem.W.kia_one
abbrev Q1:=@Nat.le_add_right
abbrev Q2:=@List.mem_filterMap
abbrev Q3:=@PySem.F.slot_tuple_iterator_next
abbrev Q4:=@Rat.not_lt
abbrev Q5:=@PySem.Heap.get?_update_self
abbrev Q6:=@PyProof.Rows.cnt_cons
abbrev Q7:=@List.append_nil
abbrev Q8:=@List.map_append
abbrev Q9:=@Int.toNat_natCast
abbrev Q_:=@List.flatten_cons
abbrev RA:=@List.map_map
abbrev RB:=@List.getElem?_take_of_lt
abbrev RC:=@List.length_filterMap_le
abbrev RD:=@List.getElem?_range
abbrev RE:=@List.length_drop
abbrev RG:=@List.take_length
abbrev RI:=@PySem.Heap.size_push
abbrev RJ:=@PySem.StrLaws.subAt_one
abbrev RK:=@List.getLast?_cons_cons
abbrev RL:=@List.map_nil
abbrev RM:=@List.take_of_length_le
abbrev RN:=@Bool.eq_iff_iff
abbrev RO:=@List.forIn_cons
abbrev RP:=@Nat.not_lt_zero
abbrev RQ:=@List.infix_refl
abbrev RR:=@List.take_append_drop
abbrev RS:=@List.nodup_append
abbrev RT:=@PySem.F.typeOf_object_class
abbrev RV:=@Bool.eq_false_iff
abbrev RW:=@List.mem_of_mem_take
abbrev RX:=@Nat.lt_trans
abbrev RY:=@PySem.W.mg_of
abbrev RZ:=@Nat.zero_lt_succ
abbrev R1:=@PySem.wpAny_holding
abbrev R3:=@PySem.F.args_tuple_add_2
abbrev R4:=@PyProof.noPylong_of_log2
abbrev R5:=@Nat.gcd_pos_of_pos_right
abbrev R6:=@PySem.StrLaws.join_split
abbrev R7:=@List.foldl_cons
abbrev R8:=@beq_iff_eq
abbrev R9:=@Nat.lt_of_le_of_lt
abbrev R_:=@PySem.F.entry_tuple_add
abbrev SA:=@PySem.StrLaws.found_one
abbrev SB:=@List.getElem?_cons_succ
abbrev SD:=@PyProof.Rows.cnt_append
abbrev SE:=@Bool.false_and
abbrev SF:=@PySem.F.slot_tuple_add
abbrev SG:=@List.drop_zero
abbrev SH:=@List.take_add_one
abbrev SI:=@Nat.gcd_comm
abbrev SJ:=@Rat.natCast_lt_natCast
abbrev SK:=@Option.map_eq_none_iff
abbrev SL:=@List.set_append_right
abbrev SN:=@List.prefix_refl
abbrev SO:=@Nat.lt_succ_self
abbrev SQ:=@Int.natCast_ediv
abbrev SR:=@Nat.mul_le_mul_right
abbrev SS:=@PySem.intText_digits
abbrev SU:=@List.length_set
abbrev SV:=@List.nil_append
abbrev SW:=@Int.natCast_add
abbrev SX:=@PySem.F.slot_zip_next
abbrev SY:=@List.head?_drop
abbrev SZ:=@List.all_append
abbrev S0:=@beq_eq_false_iff_ne
abbrev S1:=@Nat.mul_comm
abbrev S2:=@List.prefix_append
abbrev S3:=@PySem.F.args_str_split_2
abbrev S4:=@List.tail_drop
abbrev S5:=@Rat.div_lt_iff
abbrev S6:=@Nat.one_lt_two_pow
abbrev S7:=@Rat.not_le
abbrev S8:=@Nat.log2_lt
abbrev S9:=@PySem.F.entry_str_split
abbrev S_:=@List.getElem?_set
abbrev TC:=@Rat.le_refl
abbrev TF:=@PySem.F.slot_str_split
abbrev TH:=@List.drop_length
abbrev TJ:=@List.getElem_mem
abbrev TK:=@Nat.ne_of_gt
abbrev TL:=@Nat.not_lt
abbrev TM:=@List.all_map
abbrev TN:=@List.of_mem_zip
abbrev TQ:=@Int.natCast_pow
abbrev TR:=@Int.ediv_nonneg
abbrev TU:=@List.nodup_nil
abbrev TV:=@List.map_drop
abbrev TY:=@Int.le_of_lt
abbrev TZ:=@Nat.sub_self
abbrev T1:=@Nat.le_of_eq
abbrev T2:=@Nat.zero_mul
abbrev T3:=@Nat.pow_succ
abbrev T4:=@PySem.W.kitx_list
abbrev T5:=@PySem.W.kitx_dict
abbrev T6:=@Nat.pow_pos
abbrev T7:=@Nat.mul_one
abbrev T8:=@Iff.rfl
abbrev T9:=@Nat.mod_lt
namespace L2
noncomputable abbrev Key:=Sum Int Str
noncomputable def GE:Key->Value->Bool
 | .inl k,v=>Value.isInt k v
 | .inr x,v=>Value.isStrOf x v
noncomputable def NU (w:World):Key->Int
 | .inl k=>hashInt k
 | .inr x=>hashStr w x
theorem bO:∀ {k:Key}{v:Value},GE k v=true->(∃i t,k=Sum.inl i/\v=Value.int i t)\/(∃x t,k=Sum.inr x/\v=Value.str x t)
 | .inl i,v,h=>by obtain⟨t,e⟩:=Value.isInt_shape (k:=i) (v:=v) h;exact .inl ⟨i,t,rfl,e⟩
 | .inr x,v,h=>by obtain⟨t,e⟩:=Value.isStrOf_shape (x:=x) (v:=v) h;exact .inr ⟨x,t,rfl,e⟩
theorem JG (a b:Int):decide ((Sum.inl a:Key)=Sum.inl b)=(a == b):=by
 by_cases e:a=b
 ·subst e;simp
 ·have h:¬(Sum.inl a:Key)=Sum.inl b:=fun q=>e (Sum.inl.inj q);rw[PF h];exact(beq_eq_false_iff_ne.mpr e).symm
theorem Jc (a b:Str):decide ((Sum.inr a:Key)=Sum.inr b)=decide (a=b):=by
 by_cases e:a=b
 ·subst e;simp
 ·have h:¬(Sum.inr a:Key)=Sum.inr b:=fun q=>e (Sum.inr.inj q);rw[PF h,PF e]
theorem G_ (a:Int)(b:Str):decide ((Sum.inl a:Key)=Sum.inr b)=false:=PF (fun q=>nomatch q)
theorem HP (a:Str)(b:Int):decide ((Sum.inr a:Key)=Sum.inl b)=false:=PF (fun q=>nomatch q)
noncomputable def t_ (prog:Program)(w:World):PySem.KeyKind prog w Key where
 is:=GE
 hash:=NU w
 inj:=fun v a b ha hb=>by
  rcases bO ha with⟨i,t,rfl,rfl⟩|⟨x,t,rfl,rfl⟩
  ·rcases bO hb with⟨j,u,rfl,e⟩|⟨y,u,rfl,e⟩
   ·injection e with e1 _;rw[e1]
   ·exact nomatch e
  ·rcases bO hb with⟨j,u,rfl,e⟩|⟨y,u,rfl,e⟩
   ·exact nomatch e
   ·injection e with e1 _;rw[e1]
 byValue:=fun k v h=>by rcases bO h with⟨i,t,rfl,rfl⟩|⟨x,t,rfl,rfl⟩ <;> rfl
 pyHash:=fun hv h=>by
  rcases bO hv with⟨i,t,rfl,rfl⟩|⟨x,t,rfl,rfl⟩
  ·exact wpAny_pyHash_int h
  ·exact wpAny_pyHash_str h
 eqBool:=fun hu hv h=>by
  rcases bO hu with⟨i,t,rfl,rfl⟩|⟨x,t,rfl,rfl⟩
  ·rcases bO hv with⟨j,u,rfl,rfl⟩|⟨y,u,rfl,rfl⟩
   ·rw[JG] at h;exact wpAny_eqBool_int h
   ·rw[G_] at h;exact SeqAt.EqAt.int_str i t y u _ _ _ _ h
  ·rcases bO hv with⟨j,u,rfl,rfl⟩|⟨y,u,rfl,rfl⟩
   ·rw[HP] at h;exact SeqAt.EqAt.str_int x t j u _ _ _ _ h
   ·rw[Jc] at h;exact wpAny_eqBool_str h
 «strs»:=fun k x t v h=>by
  rcases bO h with⟨i,u,rfl,e⟩|⟨y,u,rfl,e⟩
  ·exact nomatch e
  ·injection e with e1 _
   subst e1;cases v <;> rfl
end L2
namespace L2
inductive V where
 | non|bl (b:Bool)|int (i:Int)|str (x:Str)|byt (b:Array UInt8)|flt (b:UInt64)|ref (a:Addr)|ty (n:String)
 deriving DecidableEq
noncomputable def RelV:V->Value->Prop
 | .non,u=>u=Value.none
 | .bl b,u=>u=Value.bool b
 | .int i,u=>∃t,u=Value.int i t
 | .str x,u=>∃t,u=Value.str x t
 | .byt b,u=>∃t,u=Value.bytes b t
 | .flt b,u=>∃t,u=Value.float b t
 | .ref a,u=>u=Value.ref a
 | .ty n,u=>u=Value.type n
noncomputable abbrev Vals:List V->List Value->Prop:=Paired RelV
theorem Vals.length (r:Vals xs us):xs.length=us.length:=Paired.length r
theorem Vals.get:∀ {xs:List V}{us:List Value}{i:Nat}{x:V},Vals xs us->xs[i]?=some x->∃u,us[i]?=some u/\RelV x u
 | _,_,_,_,.nil,e=>by simp at e
 | _,_,0,_,.cons r _,e=>by simp at e;subst e;exact⟨_,rfl,r⟩
 | _,_,i+1,x,.cons _ t,e=>by obtain⟨u,h1,h2⟩:=Vals.get (i:=i) (x:=x) t (by simpa using e);exact⟨u,by simpa using h1,h2⟩
theorem Vals.set (r:RelV x u):∀ {xs:List V}{us:List Value} (i:Nat),Vals xs us->Vals (xs.set i x) (us.set i u)
 | _,_,_,.nil=>.nil
 | _,_,0,.cons _ t=>.cons r t
 | _,_,i+1,.cons q t=>.cons q (Vals.set r i t)
theorem Vals.append:∀ {xs ys:List V}{us ws:List Value},Vals xs us->Vals ys ws->Vals (xs++ys) (us++ws)
 | _,_,_,_,.nil,s=>s
 | _,_,_,_,.cons r t,s=>.cons r (Vals.append t s)
theorem Vals.take:∀ {xs:List V}{us:List Value} (n:Nat),Vals xs us->Vals (xs.take n) (us.take n)
 | _,_,0,_=>.nil
 | _,_,_+1,.nil=>.nil
 | _,_,n+1,.cons r t=>.cons r (Vals.take n t)
theorem Vals.drop:∀ {xs:List V}{us:List Value} (n:Nat),Vals xs us->Vals (xs.drop n) (us.drop n)
 | _,_,0,r=>r
 | _,_,_+1,.nil=>.nil
 | _,_,n+1,.cons _ t=>Vals.drop n t
noncomputable def HL:Option V->Option Value->Prop
 | some v,some u=>RelV v u
 | none,none=>True
 | _,_=>False
noncomputable def KV {κ:Type}:List (κ × V)->List (κ × Value)->Prop:=Paired fun (p:κ × V) (q:κ × Value)=>p.1=q.1/\RelV p.2 q.2
noncomputable def kV:Key->V
 | .inl i=>.int i
 | .inr x=>.str x
set_option genInjectivity false
inductive HO where
 | lst (xs:List V)
 | tup (xs:List V)
 | dK (kvs:List (Key × V))|dT (kvs:List (List Key × V))
 | set (S:Int->Bool) (n:Nat)
 | ins (C dx:Addr) (fs:List (Str × V))
 | own (x:Addr)
 | xd (fs:List (Str × V))
 | met (f x:Addr)
 | rng (lo hi:Int)
 | frz (o:Obj) (u:HO)
 | tbl (ps:Array Value)
 | ext (φ:Heap->Prop)
noncomputable abbrev Hp:=Addr->Option HO
noncomputable def upd (H:Hp)(a:Addr)(o:HO):Hp:=fun b=>if b=a then some o else H b
theorem bq:upd H a o a=some o:=by unfold upd;rw[O0 rfl]
theorem ao {a b:Addr}(h:b≠a):upd H a o b=H b:=by unfold upd;rw[OY h]
theorem aH {H:Hp}(h:H a=some o)(h':H b=none):a≠b:=by intro e;subst e;rw[h] at h';cases h'
section
variable (P:Program) (w:World)
noncomputable def ObjOk (H:Hp)(h:Heap)(a:Addr):HO->Prop
 | .lst xs=>xs.length<=sizeLine/\∃(its:List Value) (n:Nat),Vals xs its/\h.get? a=some { cls:=.type "list",data:=.seq its.toArray n }
 | .tup xs=>xs.length<=sizeLine/\∃its:List Value,Vals xs its/\IsTup h a its.toArray
 | .dK kvs=>kvs.length<=sizeLine/\(a == sysModules)=false/\∃vs,KV kvs vs/\h.DictOf (t_ P w) a vs
 | .dT kvs=>kvs.length<=sizeLine/\(a == sysModules)=false/\∃xs:List (List Key × Addr × Value),
   Paired (fun (p:List Key × V) (q:List Key × Addr × Value)=>p.1=q.1/\H q.2.1=some (.tup (p.1.map kV))/\RelV p.2 q.2.2) kvs xs /\
   ∃o es ep,h.get? a=some o/\o.ExactDict/\o.data=.dict es ep/\es.toList=xs.map (entryOfKey (tupleKind (t_ P w)))/\(xs.map (·.1)).Nodup
 | .set S n=>h.SetOf (intKind P w) a S n
 | .ins C dx fs=>H dx=some (.own a)/\fs.length<=1000/\dx≠a/\h.get? a=some (W.instObj C dx) /\
   ∃mA,h.Ns1 dx mA/\(∀f,HL (fs.lookup f) (mA f))/\PySem.Within mA (fs.map (·.1))
 | .own _=>∃o,h.get? a=some o
 | .xd fs=>∃mA,h.Ns1 a mA/\∀f,HL (fs.lookup f) (mA f)
 | .rng lo hi=>∃t u v,h.get? a=some { cls:=.type "range",data:=.fields #[.int lo t,.int hi u,.int 1 v] }
 | .frz o u=>h.get? a=some o/\ObjOk H h a u
 | .tbl ps=>h.get? a=some { cls:=.none,data:=.fields ps }
 | .met f x=>h.get? a=some (W.methodObj (.ref f) (.ref x))
 | .ext φ=>φ h/\(∃o,h.get? a=some o)/\∀h1 h2:Heap,φ h1->(∀o,h1.get? a=some o->h2.get? a=some o)->φ h2
def HOk (H:Hp)(h:Heap):Prop:=∀a o,H a=some o->ObjOk P w H h a o
end
section
variable {P:Program}{w:World}{H H':Hp}{h h':Heap}{a:Addr}{o:HO}
theorem ObjOk.lt (x:ObjOk P w H h a o):a<h.objs.size:=by
 cases o with
 | lst xs=>obtain⟨_,_,_,_,e⟩:=x;exact O3 e
 | tup xs=>obtain⟨_,_,_,p⟩:=x;exact p.lt
 | dK kvs=>obtain⟨_,_,_,_,o,_,_,e,_⟩:=x;exact O3 e
 | dT kvs=>obtain⟨_,_,_,_,o,_,_,e,_⟩:=x;exact O3 e
 | set S n=>obtain⟨o,_,_,_,e,_⟩:=x;exact O3 e
 | ins C dx fs=>obtain⟨_,_,_,e,_⟩:=x;exact O3 e
 | own y=>obtain⟨_,e⟩:=x;exact O3 e
 | xd fs=>obtain⟨_,⟨_,_,_,e,_⟩,_⟩:=x;exact O3 e
 | rng lo hi=>obtain⟨_,_,_,e⟩:=x;exact O3 e
 | frz ob u=>obtain⟨e,_⟩:=x;exact O3 e
 | tbl ps=>exact O3 (show h.get? a=some _ from x)
 | met f y=>exact O3 (show h.get? a=some _ from x)
 | ext φ=>obtain⟨_,⟨_,e⟩,_⟩:=x;exact O3 e
theorem Paired.mapP {α β:Type}{F G:α->β->Prop}:∀ {l₁:List α}{l₂:List β},Paired F l₁ l₂->(∀a b,F a b->G a b)->Paired G l₁ l₂
 | _,_,.nil,_=>.nil
 | _,_,.cons r t,f=>.cons (f _ _ r) (Paired.mapP t f)
theorem ObjOk.stay (x:ObjOk P w H h a o)(k:∀b u,(b=a\/H b=some (.own a))->h.get? b=some u->h'.get? b=some u)
  (ho:∀b,H b=some (.own a)->H' b=some (.own a)) (ht:∀b xs,H b=some (.tup xs)->H' b=some (.tup xs)):ObjOk P w H' h' a o:=by
 induction o with
 | lst xs=>obtain⟨z,its,n,r,e⟩:=x;exact⟨z,its,n,r,k _ _ (.inl rfl) e⟩
 | tup xs=>obtain⟨z,its,r,ob,e,c⟩:=x;exact⟨z,its,r,ob,k _ _ (.inl rfl) e,c⟩
 | dK kvs=>obtain⟨z,y,vs,r,ob,es,ep,e,c⟩:=x;exact⟨z,y,vs,r,ob,es,ep,k _ _ (.inl rfl) e,c⟩
 | dT kvs =>obtain⟨z,y,xs,r,ob,es,ep,e,c⟩:=x;exact⟨z,y,xs,Paired.mapP r fun p q z=>⟨z.1,ht _ _ z.2.1,z.2.2⟩,ob,es,ep,k _ _ (.inl rfl) e,c⟩
 | set S n=>obtain⟨ob,es,ep,t,e,c⟩:=x;exact⟨ob,es,ep,t,k _ _ (.inl rfl) e,c⟩
 | ins C dx fs =>obtain⟨d,z,ne,e,mA,⟨od,es,ep,e2,c⟩,r⟩:=x;exact⟨ho _ d,z,ne,k _ _ (.inl rfl) e,mA,⟨od,es,ep,k _ _ (.inr d) e2,c⟩,r⟩
 | own y=>obtain⟨ob,e⟩:=x;exact⟨ob,k _ _ (.inl rfl) e⟩
 | xd fs=>obtain⟨mA,⟨od,es,ep,e,c⟩,r⟩:=x;exact⟨mA,⟨od,es,ep,k _ _ (.inl rfl) e,c⟩,r⟩
 | rng lo hi=>obtain⟨t,u,v,e⟩:=x;exact⟨t,u,v,k _ _ (.inl rfl) e⟩
 | frz ob u ih=>obtain⟨e,q⟩:=x;exact⟨k _ _ (.inl rfl) e,ih q⟩
 | tbl ps =>have e:h.get? a=some { cls:=.none,data:=.fields ps }:=x;show h'.get? a=some { cls:=.none,data:=.fields ps };exact k a _ (.inl rfl) e
 | met f y =>have e:h.get? a=some (W.methodObj (.ref f) (.ref y)):=x;show h'.get? a=some (W.methodObj (.ref f) (.ref y));exact k a _ (.inl rfl) e
 | ext φ=>obtain⟨p,⟨o,e⟩,st⟩:=x;exact⟨st _ _ p fun o q=>k _ _ (.inl rfl) q,⟨o,k _ _ (.inl rfl) e⟩,st⟩
theorem HOk.lt (x:HOk P w H h)(e:H a=some o):a<h.objs.size:=(x a o e).lt
theorem HOk.fresh (x:HOk P w H h)(e:h.objs.size<=a):H a=none:=by
 cases q:H a with
 | none=>rfl
 | some u=>exact absurd (OW (x.lt q) e) (QV _)
theorem HOk.kept (x:HOk P w H h)(k:∀b u,h.get? b=some u->h'.get? b=some u):HOk P w H h':=fun a o e =>
 (x a o e).stay (fun b u _ q=>k b u q) (fun _ q=>q) fun _ _ q=>q
theorem HOk.laid (x:HOk P w H h)(k:∀b u,h.get? b=some u->h'.get? b=some u)(hp:h.objs.size<=a)(new:ObjOk P w (upd H a o) h' a o):HOk P w (upd H a o) h':=fun b u e=>by
 have hn:=x.fresh hp;by_cases hb:b=a
 ·subst hb;rw[bq] at e;cases e;exact new
 ·rw[ao hb] at e;exact(x b u e).stay (fun c v _ q=>k c v q) (fun c q=>by rw[ao (aH q hn)];exact q) fun c xs q=>by rw[ao (aH q hn)];exact q
end
def Rd (H:Hp)(a:Addr)(u:HO):Prop:=H a=some u\/∃o,H a=some (.frz o u)
theorem Rd.ok (r:Rd H a u)(x:HOk P w H h):ObjOk P w H h a u:=by
 rcases r with r|⟨o,r⟩
 ·exact x a u r
 ·obtain⟨_,q⟩:=x a _ r;exact q
noncomputable def Mut:Option HO->Prop
 | some (.lst _)=>True
 | some (.dK _)=>True
 | some (.dT _)=>True
 | some (.set _ _)=>True
 | some (.ins _ _ _)=>True
 | some (.ext _)=>True
 | _=>False
section
variable {P:Program}{w:World}{H:Hp}{h h':Heap}{x e:Addr}{o':HO}
theorem HOk.write (ok:HOk P w H h)(mu:Mut (H x))(he:e=x\/H e=some (.own x))(k:∀b u,b≠e->h.get? b=some u->h'.get? b=some u)(heo:∃u,h'.get? e=some u)
  (new:ObjOk P w (upd H x o') h' x o'):HOk P w (upd H x o') h':=fun b u q=>by
 have nown:∀c y,H c=some (.own y)->c≠x:=fun c y r z=>by subst z;rw[r] at mu;exact mu
 have ntup:∀c xs,H c=some (.tup xs)->c≠x:=fun c xs r z=>by subst z;rw[r] at mu;exact mu
 by_cases hb:b=x
 ·subst hb;rw[bq] at q;cases q;exact new
 ·rw[ao hb] at q;by_cases hbe:b=e
  ·have q':H b=some (.own x):=by
    rcases he with z|z
    ·exact absurd (hbe.trans z) hb
    ·rw[hbe];exact z
   rw[q] at q';cases q';obtain⟨v,hv⟩:=heo;exact⟨v,by rw[hbe];exact hv⟩
  ·refine(ok b u q).stay (fun c v hc r=>k c v ?_ r) (fun c r=>by rw[ao (nown c b r)];exact r) fun c xs r=>by rw[ao (ntup c xs r)];exact r
   rcases hc with rfl|hc
   ·exact hbe
   ·rintro rfl;rcases he with z|z
    ·exact nown c b hc z
    ·rw[hc] at z;cases z;exact hb rfl
end
set_option genCtorIdx false
structure Un (fs ex:List Addr)(H H':Hp)(h h':Heap):Prop where
 keep:∀b o,h.get? b=some o->H b=none->b ∉ fs->b ∉ ex->h'.get? b=some o
 slot:∀b o,h.get? b=some o->H b=none->b∈fs->b ∉ ex->∃sl,h'.get? b=some { o with slots:=sl }
 free:∀b o,h.get? b=some o->H b=none->b ∉ ex->H' b=none
 there:∀b o,h.get? b=some o->b ∉ ex->∃o',h'.get? b=some o'
 tups:∀b xs,H b=some (.tup xs)->H' b=some (.tup xs)
 frzs:∀b o u,H b=some (.frz o u)->H' b=some (.frz o u)
 tbls:∀b ps,H b=some (.tbl ps)->∃more,H' b=some (.tbl (ps++more))
section
variable {fs fs' ex ex':List Addr}{H H1 H2:Hp}{h h1 h2 h':Heap}{a x e:Addr}{o:HO}
theorem Un.any (u:Un fs ex H H1 h h1)(q:h.get? b=some ob)(n:H b=none)(hx:b ∉ ex):∃sl,h1.get? b=some { ob with slots:=sl }:=by
 by_cases hb:b∈fs
 ·exact u.slot b ob q n hb hx
 ·exact⟨ob.slots,u.keep b ob q n hb hx⟩
theorem Un.kept (k:∀b u,h.get? b=some u->h'.get? b=some u):Un fs ex H H h h' :=
 ⟨fun b ob q _ _ _=>k b ob q,fun b ob q _ _ _=>⟨ob.slots,k b ob q⟩,fun _ _ _ n _=>n,fun b ob q _=>⟨ob,k b ob q⟩,fun _ _ q=>q,fun _ _ _ q=>q,fun _ ps q=>⟨#[],by rw[q];simp⟩⟩
theorem Un.refl:Un fs ex H H h h:=Un.kept fun _ _ q=>q
theorem Un.laid (k:∀b u,h.get? b=some u->h'.get? b=some u)(hp:h.objs.size<=a)(hn:H a=none):Un fs ex H (upd H a o) h h' where
 keep:=fun b u q _ _ _=>k b u q
 slot:=fun b u q _ _ _=>⟨u.slots,k b u q⟩
 free:=fun b u q n _=>by rw[ao (PN (OW (O3 q) hp))];exact n
 there:=fun b u q _=>⟨u,k b u q⟩
 tups:=fun b xs q=>by rw[ao (aH q hn)];exact q
 frzs:=fun b u xs q=>by rw[ao (aH q hn)];exact q
 tbls:=fun b ps q=>⟨#[],by rw[ao (aH q hn),q];simp⟩
theorem Un.write (mu:Mut (H x))(he:e=x\/H e=some (.own x))(k:∀b u,b≠e->h.get? b=some u->h'.get? b=some u)(heo:∃u,h'.get? e=some u):Un fs ex H (upd H x o) h h':=by
 have hx:∀b,H b=none->b≠x:=fun b n z=>by subst z;rw[n] at mu;exact mu
 have hb:∀b,H b=none->b≠e:=fun b n z=>by
  subst z;rcases he with r|r
  ·exact hx b n r
  ·rw[n] at r;cases r
 have hm:∀b u,H b=some u->¬Mut (some u)->b≠x:=fun b u q nm z=>by subst z;rw[q] at mu;exact nm mu
 refine⟨fun b u q n _ _=>k b u (hb b n) q,fun b u q n _ _=>⟨u.slots,k b u (hb b n) q⟩,fun b u q n _=>by rw[ao (hx b n)];exact n,fun b u q _=>?_,
  fun b xs q=>by rw[ao (hm b _ q fun z=>z)];exact q,fun b u xs q=>by rw[ao (hm b _ q fun z=>z)];exact q,fun b ps q=>⟨#[],by rw[ao (hm b _ q fun z=>z),q];simp⟩⟩
 by_cases hbe:b=e
 ·subst hbe;exact heo
 ·exact⟨u,k b u hbe q⟩
end
noncomputable def trk (h:Heap)(H:Hp):List Addr:=(List.range h.objs.size).filter fun a=>(H a).isSome
noncomputable def sk (h:Heap)(H:Hp):Heap:=W.hideAll h (trk h H)
theorem zQ (h:Heap)(H:Hp):(sk h H).objs.size=h.objs.size:=W.hideAll_size _ _
theorem DE {h:Heap}{H:Hp}(e:h.get? b=some o)(n:H b=none):(sk h H).get? b=some o :=
 W.hideAll_get _ e fun hm=>by have q:(H b).isSome=true:=(List.mem_filter.mp hm).2;rw[n] at q;simp at q
theorem Fp (e:(sk h H).get? b=some o):h.get? b=some o/\H b=none:=by
 have e':h.get? b=some o:=W.of_hideAll (trk h H) e;refine⟨e',?_⟩;cases q:H b with
 | none=>rfl
 | some x =>have hm:b∈trk h H:=List.mem_filter.mpr ⟨List.mem_range.mpr (O3 e'),by simp[q]⟩;have z:(sk h H).get? b=none:=W.hideAll_none (trk h H) hm;rw[z] at e;cases e
end L2
namespace L2
structure Mod (K:W.Frag)(mg:Str->Option Value)(base:Heap):Prop where
 kin:K.In base
 glob:base.Ns mainGlobals mg
 blt:∃mb,base.Ns builtinsNs mb/\∀x:Str,x≠"__name__"->mb x=bootBuiltins x
 nolimit:base.NoLimit
structure Cx where
 prog:Program
 w:World
 K:W.Frag
 mg:Str->Option Value
 base:Heap
 A:Around
 N:List Str
 s₀:Shared
 H₀:Hp
 env:Env
 outer:List Env
 stack:List Env
 ex:List Addr
 fn:Str->Bool
 calm:Bool
 pn:List (Addr × Obj)
 xe:Value->Shared->Prop
noncomputable def frs (l:List Env):List Addr:=l.filterMap (·.frame)
noncomputable abbrev Cx.fs (X:Cx):List Addr:=frs X.outer
def Vis (sc:Scope)(x:Str):Prop:=sc.names.lookup x=some .local\/sc.names.lookup x=some .cell\/sc.names.lookup x=some .free
def Loc (sc:Scope)(x:Str):Prop:=sc.names.lookup x=some .local\/sc.names.lookup x=some .cell
def N6 (env:Env)(h:Heap)(m:Str->Option Value)(x:Str)(u:Value):Prop :=
 (env.kindOf x=some .local/\m x=some u)\/((env.kindOf x=some .cell\/env.kindOf x=some .free)/\∃c,env.cells.lookup x=some c/\h.IsCell c (some u))
structure Cx.Ok (X:Cx):Prop where
 mod:Mod X.K X.mg X.base
 kind:X.env.scope.kind=.function
 glob:X.env.globals=mainGlobals
 blt:X.env.builtins=builtinsNs
 above:X.s₀.heap.objs.size<=X.env.locals
 inj:∀x y c,X.env.cells.lookup x=some c->X.env.cells.lookup y=some c->x=y
 has:∀x,(X.env.kindOf x=some .cell\/X.env.kindOf x=some .free)->∃c,X.env.cells.lookup x=some c
 cab:∀x c,X.fn x=true->X.env.cells.lookup x=some c->X.s₀.heap.objs.size<=c
 hd:X.calm=true->X.A.handled=none
 frames:X.A.frames=some X.stack
 stk:X.stack=X.outer\/(X.stack=X.env::X.outer/\X.env.frame=some X.env.locals)
 exf:∀b∈X.ex,b≠X.env.locals/\∀x c,X.env.cells.lookup x=some c->c≠b
 bs:∀b o,X.base.get? b=some o->X.s₀.heap.get? b=some o/\X.H₀ b=none
 bsz:X.base.objs.size<=X.s₀.heap.objs.size
 noex:∀b o,X.base.get? b=some o->b ∉ X.ex
 exfs:∀b∈X.ex,b ∉ X.fs
 funs:X.s₀.heap.FunFrames X.base X.outer
 frf:∀b∈X.fs,X.H₀ b=none
structure Inv (X:Cx)(pins:List (Addr × Obj))(σ:List (Option V))(H:Hp)(s:Shared):Prop where
 ok:X.Ok
 os:s.os=X.s₀.os
 bare:AllBare s.gens
 base:Un X.fs X.ex X.H₀ H X.s₀.heap s.heap
 loc:∃m,s.heap.Ns X.env.locals m/\∀(i:Nat) (x:Str) (v:V),X.N[i]?=some x->σ[i]?=some (some v)->Vis X.env.scope x->∃u,RelV v u/\N6 X.env s.heap m x u
 cell:∀x c,X.env.cells.lookup x=some c->∃v,s.heap.IsCell c v
 free:H X.env.locals=none
 freeC:∀x c,X.env.cells.lookup x=some c->H c=none
 pin:∀p∈X.pn++pins,s.heap.get? p.1=some p.2/\H p.1=none/\p.1≠X.env.locals/\p.1 ∉ X.fs/\∀v,p.2.data≠.cell v
 hok:HOk X.prog X.w H s.heap
 len:σ.length=X.N.length
section
variable {X:Cx}{pins:List (Addr × Obj)}{σ:List (Option V)}{H H':Hp}{s:Shared}{h':Heap}
theorem Cx.Ok.nofr (ok:X.Ok)(e:X.base.get? b=some o):b ∉ X.fs:=fun hb=>by have:=(ok.funs.mem hb).1;rw[e] at this;cases this
theorem Inv.bs (I:Inv X pins σ H s):∀b o,X.base.get? b=some o->s.heap.get? b=some o/\H b=none:=fun b o e =>
 ⟨I.base.keep b o (I.ok.bs b o e).1 (I.ok.bs b o e).2 (I.ok.nofr e) (I.ok.noex b o e),I.base.free b o (I.ok.bs b o e).1 (I.ok.bs b o e).2 (I.ok.noex b o e)⟩
theorem Inv.bk (I:Inv X pins σ H s):∀b o,X.base.get? b=some o->s.heap.get? b=some o:=fun b o e=>(I.bs b o e).1
theorem Inv.mod (I:Inv X pins σ H s):Mod X.K X.mg X.base:=I.ok.mod
theorem Inv.kIn (I:Inv X pins σ H s):X.K.In s.heap:=I.ok.mod.kin.keeps I.bk
theorem Inv.lt (I:Inv X pins σ H s):X.env.locals<s.heap.objs.size:=let ⟨_,hn,_⟩:=I.loc;hn.lt
theorem Inv.sz (I:Inv X pins σ H s):X.s₀.heap.objs.size<=s.heap.objs.size:=O7 I.ok.above (QN I.lt)
theorem Inv.nofs (I:Inv X pins σ H s){a:Addr}(h:s.heap.objs.size<=a):a ∉ X.fs:=fun hb=>by obtain⟨_,o,ho,_⟩:=I.ok.funs.mem hb;exact absurd (OW (O3 ho) (O7 I.sz h)) (QV _)
theorem Inv.cne (I:Inv X pins σ H s):∀x c,X.env.cells.lookup x=some c->c≠X.env.locals:=fun x c e z=>by obtain⟨v,o,ho,hd⟩:=I.cell x c e;obtain⟨m,⟨o',es,ep,ho',hd',_⟩,_⟩:=I.loc;rw[z,ho'] at ho;cases ho;rw[hd'] at hd;cases hd
theorem Inv.funs (I:Inv X pins σ H s):s.heap.FunFrames X.base X.outer:=by
 have all:∀(l:List Env),(∀b∈frs l,b∈X.fs)->X.s₀.heap.FunFrames X.base l->s.heap.FunFrames X.base l:=by
  intro l
  induction l with
  | nil=>intro _ _;trivial
  | cons env r ih =>intro hs hl;obtain⟨hk,⟨L,o,hf,hn,ho,hd⟩,hr⟩:=hl;have hL:L∈X.fs:=hs L (by unfold frs;rw[P6,hf];exact PD);obtain⟨sl,e⟩:=I.base.slot L o ho (I.ok.frf L hL) hL fun z=>I.ok.exfs L z hL;exact⟨hk,⟨L,_,hf,hn,e,hd⟩,ih (fun b hb=>hs b (by unfold frs;rw[P6,hf];exact OV _ hb)) hr⟩
 exact all X.outer (fun _ hb=>hb) I.ok.funs
theorem Inv.stack (I:Inv X pins σ H s):s.heap.FunFrames X.base X.stack:=by
 rcases I.ok.stk with e|⟨e,hf⟩
 ·rw[e];exact I.funs
 ·rw[e];obtain⟨m,hn,_⟩:=I.loc;refine .cons (by rw[I.ok.kind];decide) hf hn ?_ I.funs;exact Heap.get?_none_of_le (O7 I.ok.bsz I.ok.above)
theorem Inv.stkSub (I:Inv X pins σ H s):∀b∈frs X.stack,b∈X.env.locals::X.fs:=fun b hb=>by
 rcases I.ok.stk with e|⟨e,hf⟩
 ·rw[e] at hb;exact OV _ hb
 ·rw[e] at hb;unfold frs at hb;rw[P6,hf] at hb;exact hb
theorem Inv.stkFree (I:Inv X pins σ H s):∀b∈frs X.stack,H b=none:=fun b hb=>by
 rcases PQ.mp (I.stkSub b hb) with e|hb
 ·rw[e];exact I.free
 ·obtain⟨_,o,ho,_⟩:=I.ok.funs.mem hb;exact I.base.free b o ho (I.ok.frf b hb) fun z=>I.ok.exfs b z hb
theorem Inv.step {t':Nat}{d':Drawn}{ch:List Addr}(I:Inv X pins σ H s)(hch:∀b∈ch,(b∈X.ex\/X.s₀.heap.objs.size<=b)/\b≠X.env.locals/\(∀x c,X.env.cells.lookup x=some c->c≠b)/\∀p∈X.pn++pins,p.1≠b)(keep:∀b o,b≠X.env.locals->b ∉ X.fs->b ∉ ch->s.heap.get? b=some o->H b=none->h'.get? b=some o)(slot:∀b o,b≠X.env.locals->b∈X.fs->b ∉ ch->s.heap.get? b=some o->H b=none->∃sl,h'.get? b=some { o with slots:=sl })(free:∀b o,b ∉ ch->s.heap.get? b=some o->H b=none->H' b=none)(there:∀b o,b ∉ ch->s.heap.get? b=some o->∃o',h'.get? b=some o')(tups:∀b xs,H b=some (.tup xs)->H' b=some (.tup xs))(frzs:∀b o u,H b=some (.frz o u)->H' b=some (.frz o u))(tbls:∀b ps,H b=some (.tbl ps)->∃more,H' b=some (.tbl (ps++more)))(ns:∀m,s.heap.Ns X.env.locals m->h'.Ns X.env.locals m)(hok:HOk X.prog X.w H' h')(hg:AllBare g') :
  Inv X pins σ H' { s with heap:=h',gens:=g',drawn:=d',toks:=t' }:=by
 have neL:∀b o,X.s₀.heap.get? b=some o->b≠X.env.locals:=fun b o e=>PN (OW (O3 e) I.ok.above);have neC:∀b o,X.s₀.heap.get? b=some o->b ∉ X.ex->b ∉ ch:=fun b o e hx hb=>by
  rcases (hch b hb).1 with z|z
  ·exact hx z
  ·exact absurd (OW (O3 e) z) (QV _)
 have cellK:∀x c,X.env.cells.lookup x=some c->∀v,s.heap.IsCell c v->h'.IsCell c v:=fun x c e v ⟨o,ho,hd⟩=>by
  have nch:c ∉ ch:=fun z=>(hch c z).2.2.1 x c e rfl;by_cases hc:c∈X.fs
  ·obtain⟨sl,q⟩:=slot c o (I.cne x c e) hc nch ho (I.freeC x c e);exact⟨_,q,hd⟩
  ·exact⟨o,keep c o (I.cne x c e) hc nch ho (I.freeC x c e),hd⟩
 refine⟨I.ok,I.os,hg,⟨fun b o e n hb hx=>?_,fun b o e n hb hx=>?_,fun b o e n hx=>?_,fun b o e hx=>?_,fun b xs e=>tups b xs (I.base.tups b xs e),fun b o xs e=>frzs b o xs (I.base.frzs b o xs e),fun b ps e=>?_⟩,?_,fun x c e=>?_,?_,fun x c e=>?_,fun p hp=>?_,hok,I.len⟩
 ·exact keep b o (neL b o e) hb (neC b o e hx) (I.base.keep b o e n hb hx) (I.base.free b o e n hx)
 ·obtain⟨sl,e1⟩:=I.base.slot b o e n hb hx;obtain⟨sl',e2⟩:=slot b _ (neL b o e) hb (neC b o e hx) e1 (I.base.free b o e n hx);exact⟨sl',e2⟩
 ·obtain⟨o',e1⟩:=I.base.there b o e hx;exact free b o' (neC b o e hx) e1 (I.base.free b o e n hx)
 ·obtain⟨o',e1⟩:=I.base.there b o e hx;exact there b o' (neC b o e hx) e1
 ·obtain⟨m1,e1⟩:=I.base.tbls b ps e;obtain⟨m2,e2⟩:=tbls b _ e1;exact⟨m1++m2,by rw[e2,Array.append_assoc]⟩
 ·obtain⟨m,hn,hl⟩:=I.loc;refine⟨m,ns m hn,fun i x v e1 e2 e3=>?_⟩;obtain⟨u,r,l⟩:=hl i x v e1 e2 e3;refine⟨u,r,?_⟩;rcases l with l|⟨k,c,e,z⟩
  ·exact .inl l
  ·exact .inr ⟨k,c,e,cellK x c e _ z⟩
 ·obtain⟨v,z⟩:=I.cell x c e;exact⟨v,cellK x c e v z⟩
 ·obtain⟨m,⟨o,_,_,ho,_⟩,_⟩:=I.loc;exact free _ o (fun z=>(hch _ z).2.1 rfl) ho I.free
 ·obtain⟨v,o,ho,hd⟩:=I.cell x c e;exact free c o (fun z=>(hch c z).2.2.1 x c e rfl) ho (I.freeC x c e)
 ·obtain⟨e,n,ne,nf,d⟩:=I.pin p hp;have nch:p.1 ∉ ch:=fun z=>(hch p.1 z).2.2.2 p hp rfl;exact⟨keep p.1 p.2 ne nf nch e n,free p.1 p.2 nch e n,ne,nf,d⟩
theorem Inv.un {t':Nat}(I:Inv X pins σ H s)(u:Un X.fs [] H H' s.heap h')(hok:HOk X.prog X.w H' h'):Inv X pins σ H' { s with heap:=h',toks:=t' }:=by
 obtain⟨m,⟨o,es,ep,ho,r⟩,_⟩:=id I.loc;obtain⟨sl,hL⟩:=u.any ho I.free (by simp);exact I.step (g':=s.gens) (d':=s.drawn) (ch:=[]) (fun _ z=>nomatch z) (fun b o _ hb _ e n=>u.keep b o e n hb (by simp)) (fun b o _ hb _ e n=>u.slot b o e n hb (by simp)) (fun b o _ e n=>u.free b o e n (by simp)) (fun b o _ e=>u.there b o e (by simp)) u.tups u.frzs u.tbls (fun m' hm=>by obtain⟨o',es',ep',ho',r'⟩:=hm;rw[ho] at ho';cases ho';exact⟨_,es',ep',hL,r'⟩) hok I.bare
theorem Inv.call {t':Nat}{d':Drawn}(I:Inv X pins σ H s)(u:Un (frs X.stack) ch H H' s.heap h')(hok:HOk X.prog X.w H' h')(hg:AllBare g')(hch:∀b∈ch,(b∈X.ex\/X.s₀.heap.objs.size<=b)/\b≠X.env.locals/\(∀x c,X.env.cells.lookup x=some c->c≠b)/\∀p∈X.pn++pins,p.1≠b) :
  Inv X pins σ H' { s with heap:=h',gens:=g',drawn:=d',toks:=t' }:=by
 obtain⟨m,⟨o,es,ep,ho,r⟩,_⟩:=id I.loc;obtain⟨sl,hL⟩:=u.any ho I.free fun z=>(hch _ z).2.1 rfl;exact I.step (ch:=ch) hch (fun b o hL hb hc e n=>u.keep b o e n (fun z=>(PQ.mp (I.stkSub b z)).elim hL hb) hc) (fun b o _ _ hc e n=>u.any e n hc) (fun b o hc e n=>u.free b o e n hc) (fun b o hc e=>u.there b o e hc) u.tups u.frzs u.tbls (fun m' hm=>by obtain⟨o',es',ep',ho',r'⟩:=hm;rw[ho] at ho';cases ho';exact⟨_,es',ep',hL,r'⟩) hok hg
theorem Inv.turned {t':Nat}{it:Addr}(I:Inv X pins σ H s)(k:∀b o,b≠it->s.heap.get? b=some o->h'.get? b=some o)(hn:H it=none)(hL:it≠X.env.locals)
  (h1:it∈X.ex\/X.s₀.heap.objs.size<=it) (h2:∀x c,X.env.cells.lookup x=some c->c≠it) (h3:∀p∈X.pn++pins,p.1≠it):Inv X pins σ H { s with heap:=h',toks:=t' }:=by
 have nit:∀b u,H b=some u->b≠it:=fun b u e z=>by rw[z,hn] at e;cases e
 refine I.step (g':=s.gens) (d':=s.drawn) (ch:=[it]) (fun b hb=>?_) (fun b o _ _ hc e _=>k b o (fun z=>hc (by simp[z])) e) (fun b o _ _ hc e _=>⟨o.slots,k b o (fun z=>hc (by simp[z])) e⟩) (fun _ _ _ _ n=>n)
  (fun b o hc e=>⟨o,k b o (fun z=>hc (by simp[z])) e⟩) (fun _ _ e=>e) (fun _ _ _ e=>e) (fun b ps e=>⟨#[],by rw[e];simp⟩) (fun m hm=>?_) (fun b u e=>?_) I.bare
 ·have e:b=it:=by simpa using hb
  subst e;exact⟨h1,hL,h2,h3⟩
 ·obtain⟨o,es,ep,ho,r⟩:=hm;exact⟨o,es,ep,k _ o (Ne.symm hL) ho,r⟩
 ·refine(I.hok b u e).stay (fun c v hc q=>k c v ?_ q) (fun _ q=>q) fun _ _ q=>q;rcases hc with z|z
  ·rw[z];exact nit b u e
  ·exact nit c _ z
theorem Inv.tok (I:Inv X pins σ H s)(t:Nat):Inv X pins σ H { s with toks:=t }:=I.un (h':=s.heap) (t':=t) Un.refl I.hok
theorem Inv.kept {t':Nat}(I:Inv X pins σ H s)(k:∀b u,s.heap.get? b=some u->h'.get? b=some u):Inv X pins σ H { s with heap:=h',toks:=t' }:=I.un (Un.kept k) (I.hok.kept k)
theorem Inv.laid {a:Addr}{t':Nat}(I:Inv X pins σ H s)(k:∀b u,s.heap.get? b=some u->h'.get? b=some u)(hp:s.heap.objs.size<=a)(new:ObjOk X.prog X.w (upd H a o) h' a o) :
  Inv X pins σ (upd H a o) { s with heap:=h',toks:=t' }:=I.un (Un.laid k hp (I.hok.fresh hp)) (I.hok.laid k hp new)
theorem Inv.write {e:Addr}{t':Nat}(I:Inv X pins σ H s)(mu:Mut (H x))(he:e=x\/H e=some (.own x))(k:∀b u,b≠e->s.heap.get? b=some u->h'.get? b=some u)(heo:∃u,h'.get? e=some u)(new:ObjOk X.prog X.w (upd H x o) h' x o):Inv X pins σ (upd H x o) { s with heap:=h',toks:=t' }:=I.un (Un.write mu he k heo) (I.hok.write mu he k heo new)
theorem Inv.pins_of {pins':List (Addr × Obj)}(I:Inv X pins σ H s)(h:∀p∈pins',s.heap.get? p.1=some p.2/\H p.1=none/\p.1≠X.env.locals/\p.1 ∉ X.fs/\∀v,p.2.data≠.cell v):Inv X pins' σ H s :=
 ⟨I.ok,I.os,I.bare,I.base,I.loc,I.cell,I.free,I.freeC,fun p hp=>(P7.mp hp).elim (fun z=>I.pin p (QJ _ z)) (h p),I.hok,I.len⟩
theorem qg {N:List Str}(hN:N.Nodup){i j:Nat}(a:N[i]?=some x)(b:N[j]?=some x):i=j:=by obtain⟨h1,e1⟩:=OT.mp a;obtain⟨h2,e2⟩:=OT.mp b;exact(List.getElem_inj hN).mp (e1.trans e2.symm)
theorem tj {M:Model}{E:Value->Shared->Prop}{i:Nat}{Q:Unit->Shared->Prop}(I:Inv X pins σ H s)(hN:X.N.Nodup)(hi:X.N[i]?=some x)(hx:Loc X.env.scope x)(r:RelV v u)(h:∀s',Inv X pins (σ.set i (some v)) H s'->(∃a,Heap.SameBut a s.heap s'.heap/\(a=X.env.locals\/X.env.cells.lookup x=some a))->Q () s')(hf:X.fn x=true\/X.env.scope.names.lookup x=some .local:=by first|exact .inl rfl|exact .inr rfl|assumption):wpAny M A (storeName X.env x u) Q E s:=by
 obtain⟨m,hn,hl⟩:=id I.loc;have hcls:(X.env.scope.kind == .class || (X.env.scope.kind == .module && X.env.locals != X.env.globals))=false:=by rw[I.ok.kind];rfl
 have hiσ:i<σ.length:=by rw[I.len];exact(OT.mp hi).1
 have cne:=I.cne;have tracked:∀ {a:Addr}{h':Heap},(∃o,s.heap.get? a=some o/\H a=none)->Heap.SameBut a s.heap h'->HOk X.prog X.w H h':=fun {a h'} ha hs b ob e=>by
  obtain⟨_,_,hfree⟩:=ha;refine(I.hok b ob e).stay (fun c w' hc q=>(hs.2 c ?_).trans q) (fun _ q=>q) fun _ _ q=>q;rintro rfl;rcases hc with rfl|hc
  ·rw[hfree] at e;cases e
  ·rw[hfree] at hc;cases hc
 rcases hx with hk|hk
 ·refine wpAny_storeName_local hk hn (fun h' hn' hs=>?_) hcls;obtain⟨oL,_,_,hoL,_⟩:=id hn;refine h _ ⟨I.ok,I.os,I.bare,⟨fun b o e n hb hx=>?_,fun b o e n hb hx=>?_,I.base.free,fun b o e hx=>?_,I.base.tups,I.base.frzs,I.base.tbls⟩,⟨_,hn',fun j y v' e1 e2 e3=>?_⟩,fun y c e=>?_,I.free,I.freeC,fun p hp=>?_,tracked ⟨oL,hoL,I.free⟩ hs,by simpa using I.len⟩ ⟨_,hs,.inl rfl⟩
  ·exact(hs.2 b (PN (OW (O3 e) I.ok.above))).trans (I.base.keep b o e n hb hx)
  ·obtain⟨sl,e1⟩:=I.base.slot b o e n hb hx;exact⟨sl,(hs.2 b (PN (OW (O3 e) I.ok.above))).trans e1⟩
  ·obtain⟨o',e1⟩:=I.base.there b o e hx;exact⟨o',(hs.2 b (PN (OW (O3 e) I.ok.above))).trans e1⟩
  ·by_cases hj:j=i
   ·subst hj;rw[hi] at e1;cases e1;rw[P0 hiσ] at e2;cases e2;exact⟨u,r,.inl ⟨hk,by simp⟩⟩
   ·rw[PR (Ne.symm hj)] at e2;obtain⟨u',r',q⟩:=hl j y v' e1 e2 e3;refine⟨u',r',?_⟩;rcases q with⟨k,e⟩|⟨k,c,e,z⟩
    ·refine .inl ⟨k,?_⟩;have:y≠x:=fun e=>hj (qg hN e1 (e ▸ hi));simp[this,e]
    ·exact .inr ⟨k,c,e,z.sameBut hs (cne y c e)⟩
  ·obtain⟨w',z⟩:=I.cell y c e;exact⟨w',z.sameBut hs (cne y c e)⟩
  ·obtain⟨e,n,ne,nf,d⟩:=I.pin p hp;exact⟨(hs.2 p.1 ne).trans e,n,ne,nf,d⟩
 ·have hfn:X.fn x=true:=by
   rcases hf with z|z
   ·exact z
   ·rw[z] at hk;cases hk
  obtain⟨c,hc⟩:=I.ok.has x (.inl hk);obtain⟨w',z⟩:=I.cell x c hc;refine wpAny_storeName_cell I.ok.kind hk hc z (fun h' hc' hs=>?_);obtain⟨oc,hoc,hocd⟩:=id z;refine h { s with heap:=h' } ⟨I.ok,I.os,I.bare,⟨fun b o e n hb hx=>?_,fun b o e n hb hx=>?_,I.base.free,fun b o e hx=>?_,I.base.tups,I.base.frzs,I.base.tbls⟩,⟨m,hn.sameBut hs (Ne.symm (cne x c hc)),fun j y v' e1 e2 e3=>?_⟩,fun y c' e=>?_,I.free,I.freeC,fun p hp=>?_,tracked ⟨oc,hoc,I.freeC x c hc⟩ hs,by simpa using I.len⟩ ⟨c,hs,.inr hc⟩
  ·exact(hs.2 b (PN (OW (O3 e) (I.ok.cab x c hfn hc)))).trans (I.base.keep b o e n hb hx)
  ·obtain⟨sl,e1⟩:=I.base.slot b o e n hb hx;exact⟨sl,(hs.2 b (PN (OW (O3 e) (I.ok.cab x c hfn hc)))).trans e1⟩
  ·obtain⟨o',e1⟩:=I.base.there b o e hx;exact⟨o',(hs.2 b (PN (OW (O3 e) (I.ok.cab x c hfn hc)))).trans e1⟩
  ·by_cases hj:j=i
   ·subst hj;rw[hi] at e1;cases e1;rw[P0 hiσ] at e2;cases e2;exact⟨u,r,.inr ⟨.inl hk,c,hc,hc'⟩⟩
   ·rw[PR (Ne.symm hj)] at e2;obtain⟨u',r',q⟩:=hl j y v' e1 e2 e3;refine⟨u',r',?_⟩;rcases q with q|⟨k,c',e,z'⟩
    ·exact .inl q
    ·refine .inr ⟨k,c',e,z'.sameBut hs ?_⟩;rintro rfl;exact hj (qg hN e1 (I.ok.inj _ _ _ e hc ▸ hi))
  ·by_cases hcc:c'=c
   ·subst hcc;exact⟨_,hc'⟩
   ·obtain⟨w2,z2⟩:=I.cell y c' e;exact⟨w2,z2.sameBut hs hcc⟩
  ·obtain⟨e,n,ne,nf,d⟩:=I.pin p hp;refine⟨(hs.2 p.1 ?_).trans e,n,ne,nf,d⟩;intro q;rw[q,hoc] at e;have q':oc=p.2:=P4 e;exact d w' (by rw[<-q'];exact hocd)
theorem gj {M:Model}{E:Value->Shared->Prop}{i:Nat}{Q:Unit->Shared->Prop}(I:Inv X pins σ H s)(hN:X.N.Nodup)(hi:X.N[i]?=some x)(hx:Loc X.env.scope x)(r:RelV v u)(h:∀s',Inv X pins (σ.set i (some v)) H s'->Q () s')(hf:X.fn x=true\/X.env.scope.names.lookup x=some .local:=by first|exact .inl rfl|exact .inr rfl|assumption):wpAny M A (storeName X.env x u) Q E s :=
 tj I hN hi hx r (fun s' I' _=>h s' I') hf
theorem Inv.call' {s':Shared}(I:Inv X pins σ H s)(ho:s'.os=s.os)(u:Un (frs X.stack) ch H H' s.heap s'.heap)(hok:HOk X.prog X.w H' s'.heap)(hg:AllBare s'.gens)(hch:∀b∈ch,(b∈X.ex\/X.s₀.heap.objs.size<=b)/\b≠X.env.locals/\(∀x c,X.env.cells.lookup x=some c->c≠b)/\∀p∈X.pn++pins,p.1≠b):Inv X pins σ H' s':=by
 obtain⟨h',g',d',t',o'⟩:=s';have e:o'=s.os:=ho;subst e;exact I.call (g':=g') (t':=t') (d':=d') u hok hg hch
end
noncomputable abbrev XK:=Value->Option Addr->Hp->Prop
noncomputable abbrev St:=List (Option V)
noncomputable abbrev VK:=V->Hp->Prop
noncomputable abbrev TE:=St->Hp->VK->Prop
noncomputable abbrev TT:=St->Hp->(Bool->Hp->Prop)->Prop
noncomputable abbrev TA:=St->Hp->(List V->Hp->Prop)->Prop
structure Ends where
 nx:St->Hp->Prop
 rt:VK
 bk:St->Hp->Prop:=fun _ _=>False
 ct:St->Hp->Prop:=fun _ _=>False
noncomputable abbrev TS:=Ends->St->Hp->Prop
def EP (X:Cx)(pins:List (Addr × Obj))(σ:St)(Q:VK)(u:Value)(s':Shared):Prop:=∃v H',Inv X pins σ H' s'/\RelV v u/\Q v H'
def TP (X:Cx)(pins:List (Addr × Obj))(σ:St)(Q:Bool->Hp->Prop)(b:Bool)(s':Shared):Prop:=∃H',Inv X pins σ H' s'/\Q b H'
def AP (X:Cx)(pins:List (Addr × Obj))(σ:St)(Q:List V->Hp->Prop)(us:List Value)(s':Shared):Prop:=∃vs H',Inv X pins σ H' s'/\Vals vs us/\Q vs H'
def SP (X:Cx)(pins:List (Addr × Obj))(D:Ends)(f:Flow)(s':Shared):Prop :=
 match f with
 | .next=>∃σ' H',Inv X pins σ' H' s'/\D.nx σ' H'
 | .brk=>∃σ' H',Inv X pins σ' H' s'/\D.bk σ' H'
 | .cont=>∃σ' H',Inv X pins σ' H' s'/\D.ct σ' H'
 | .ret u=>∃v σ' H',Inv X pins σ' H' s'/\RelV v u/\D.rt v H'
def PE (X:Cx)(e:Expr)(t:TE):Prop :=
 ∀(pins:List (Addr × Obj)) (s:Shared) (σ:St) (H:Hp) (Q:VK),Inv X pins σ H s->t σ H Q->wpAny (model X.prog X.w) X.A (eval e X.env) (EP X pins σ Q) X.xe s
def PT (X:Cx)(e:Expr)(t:TT):Prop :=
 ∀(pins:List (Addr × Obj)) (s:Shared) (σ:St) (H:Hp) (Q:Bool->Hp->Prop),Inv X pins σ H s->t σ H Q->wpAny (model X.prog X.w) X.A (isTrue e X.env (eval e X.env)) (TP X pins σ Q) X.xe s
def PW (X:Cx)(e:Expr)(t:TT):Prop :=
 ∀(whole:Sem Value) (pins:List (Addr × Obj)) (s:Shared) (σ:St) (H:Hp) (Q:Bool->Hp->Prop),Inv X pins σ H s->t σ H Q->wpAny (model X.prog X.w) X.A (isTrue e X.env whole) (TP X pins σ Q) X.xe s
theorem PW.pt (h:PW X e t):PT X e t:=h _
def PA (X:Cx)(es:List Expr)(t:TA):Prop :=
 ∀(pos:Pos) (pins:List (Addr × Obj)) (s:Shared) (σ:St) (H:Hp) (Q:List V->Hp->Prop),Inv X pins σ H s->t σ H Q->wpAny (model X.prog X.w) X.A (spliced (backTo pos (starEach es X.env))) (AP X pins σ Q) X.xe s
def PS (X:Cx)(st:Stmt)(t:TS):Prop :=
 ∀(pins:List (Addr × Obj)) (s:Shared) (σ:St) (H:Hp) (D:Ends),Inv X pins σ H s->t D σ H->wpAny (model X.prog X.w) X.A (exec st X.env) (SP X pins D) X.xe s
def PSs (X:Cx)(st:List Stmt)(t:TS):Prop :=
 ∀(pins:List (Addr × Obj)) (s:Shared) (σ:St) (H:Hp) (D:Ends),Inv X pins σ H s->t D σ H->wpAny (model X.prog X.w) X.A (execs st X.env) (SP X pins D) X.xe s
theorem thn {α:Type}{t:Sem α}{Q Q':α->Shared->Prop}{M:Model}{E:Value->Shared->Prop}(h:wpAny M A t Q E s)(hQ:∀a s,Q a s->Q' a s):wpAny M A t Q' E s:=wpAny_mono h hQ fun _ _ x=>x
end L2
namespace L2
section
variable {X:Cx}
noncomputable def Ds (i:Nat):TE:=fun σ H Q=>∃v,σ[i]?=some (some v)/\Q v H
noncomputable def tC (v:V):TE:=fun _ H Q=>Q v H
theorem n5 {i:Nat}{x:Str}{pos:Pos}(hN:X.N[i]?=some x)(hv:Vis X.env.scope x)(hd:(x == ("__debug__":Str))=false:=by decide)(hcd:(x == ("__classdict__":Str))=false:=by decide):PE X (.Name x pos) (Ds i):=by
 intro pins s σ H Q I h;obtain⟨v,e,h⟩:=h;obtain⟨m,hn,hl⟩:=I.loc;obtain⟨u,r,l⟩:=hl i x v hN e hv;have fin:EP X pins σ Q u s:=⟨v,H,I,r,h⟩;rcases l with⟨hk,hm⟩|⟨hk,c,hc,hcell⟩
 ·exact wpAny_Name (wpAny_loadName_local I.ok.kind hk hn hm fin) hd
 ·rcases hk with hk|hk
  ·exact wpAny_Name (wpAny_loadName_cell I.ok.kind hk hc hcell fin) hd
  ·exact wpAny_Name (wpAny_loadName_free I.ok.kind hk hc hcell fin hcd) hd
theorem Jn {i j pos}:PE X (.Constant (.int i) j pos) (tC (.int i)):=fun _ _ _ H _ I h=>wpAny_Constant_int ⟨.int i,H,I.tok _,⟨_,rfl⟩,h⟩
theorem Gy {b j pos}:PE X (.Constant (.bool b) j pos) (tC (.bl b)):=fun _ _ _ H _ I h=>Constant_bool ⟨.bl b,H,I,rfl,h⟩
theorem JU {j pos}:PE X (.Constant .none j pos) (tC .non):=fun _ _ _ H _ I h=>Constant_none ⟨.non,H,I,rfl,h⟩
theorem qv {x j pos}:PE X (.Constant (.str x) j pos) (tC (.str x)):=fun _ _ _ H _ I h=>Calls.Constant_str ⟨.str x,H,I.tok _,⟨_,rfl⟩,h⟩
def Gl (X:Cx)(x:Str):Prop:=X.env.kindOf x=some .globalImplicit
theorem jK {E:Value->Shared->Prop}{pins:List (Addr × Obj)}{s:Shared}{σ:St}{H:Hp}{x:Str}{u:Value}{pos:Pos}{Q:Value->Shared->Prop}(I:Inv X pins σ H s)(hg:Gl X x)(hm:X.mg x=some u)(h:Q u s)
  (hd:(x == ("__debug__":Str))=false:=by decide):wpAny (model X.prog X.w) X.A (eval (.Name x pos) X.env) Q E s :=
 Calls.Name_function_global I.ok.kind hg (Calls.loadGlobal_global (by rw[I.ok.glob];exact I.mod.glob.keeps I.bk) hm h) hd
theorem jy {E:Value->Shared->Prop}{pins:List (Addr × Obj)}{s:Shared}{σ:St}{H:Hp}{x:Str}{u:Value}{pos:Pos}{Q:Value->Shared->Prop}(I:Inv X pins σ H s)(hg:Gl X x)(hm:X.mg x=none)(hv:bootBuiltins x=some u)(h:Q u s)
  (hn:x≠"__name__":=by decide) (hd:(x == ("__debug__":Str))=false:=by decide):wpAny (model X.prog X.w) X.A (eval (.Name x pos) X.env) Q E s:=by
 obtain⟨mb,h1,h2⟩:=I.mod.blt;exact Calls.Name_function_global I.ok.kind hg (Calls.loadGlobal_builtin (by rw[I.ok.glob];exact I.mod.glob.keeps I.bk) hm (by rw[I.ok.blt];exact h1.keeps I.bk) ((h2 x hn).trans hv) h) hd
theorem uC (hg:Gl X x)(hm:X.mg x=some u)(r:RelV v u)(hd:(x == ("__debug__":Str))=false:=by decide):PE X (.Name x pos) (tC v) :=
 fun _ _ _ H _ I h=>jK I hg hm ⟨v,H,I,r,h⟩ hd
theorem yO {x:Str}{v:V}{u:Value}{pos:Pos}(hg:Gl X x)(hm:X.mg x=none)(hv:bootBuiltins x=some u)(r:RelV v u)(hn:x≠"__name__":=by decide)(hd:(x == ("__debug__":Str))=false:=by decide):PE X (.Name x pos) (tC v) :=
 fun _ _ _ H _ I h=>jy I hg hm hv ⟨v,H,I,r,h⟩ hn hd
variable {a b:Expr}{ta tb:TE}{pos:Pos}
noncomputable def tB (t:TE):TT:=fun σ H Q=>t σ H fun x H1=>∃c,x=.bl c/\Q c H1
theorem Hj (h:PE X e t)(he:∀whole,isTrue e X.env whole=(do let v <-whole;standAt e.pos;holding [v] (truthy v)):=by intro _;rfl):PT X e (tB t):=by intro pins s σ H Q I hw;refine isTrue_plain (thn (h pins s σ H _ I hw) fun v s1 ⟨x,H1,I1,r1,q1⟩=>?_) (he _);obtain⟨d,rfl,q⟩:=q1;cases r1;exact wpAny_truthy_bool ⟨H1,I1,q⟩
variable {tA tB':TT}{rest:List Expr}
noncomputable def J_ (t u:TT):TT:=fun σ H Q=>t σ H fun c H1=>if c=true then u σ H1 Q else Q false H1
noncomputable def tOr (t u:TT):TT:=fun σ H Q=>t σ H fun c H1=>if c=true then Q true H1 else u σ H1 Q
noncomputable def Np (t:TT):TT:=fun σ H Q=>t σ H fun c H1=>Q (!c) H1
theorem zJ (ha:PT X a tA):PW X (.BoolOp .And [a] pos) tA:=by
 intro wh pins s σ H Q I h;refine isTrue_and (thn (ha pins s σ H Q I h) fun c s1 e=>?_);cases c with
 | true=>exact isTrue_and_nil e
 | false=>exact e
theorem HW (ha:PT X a tA):PW X (.BoolOp .Or [a] pos) tA:=by
 intro wh pins s σ H Q I h;refine isTrue_or (thn (ha pins s σ H Q I h) fun c s1 e=>?_);cases c with
 | false=>exact isTrue_or_nil e
 | true=>exact e
theorem DZ (ha:PT X a tA)(hb:PW X (.BoolOp .And (b::rest) pos) tB'):PW X (.BoolOp .And (a::b::rest) pos) (J_ tA tB'):=by
 intro wh pins s σ H Q I h;refine isTrue_and (thn (ha pins s σ H _ I h) fun c s1 ⟨H1,I1,q1⟩=>?_);cases c with
 | true=>exact hb wh pins s1 σ H1 Q I1 q1
 | false=>exact⟨H1,I1,q1⟩
theorem La (ha:PT X a tA)(hb:PW X (.BoolOp .Or (b::rest) pos) tB'):PW X (.BoolOp .Or (a::b::rest) pos) (tOr tA tB'):=by
 intro wh pins s σ H Q I h;refine isTrue_or (thn (ha pins s σ H _ I h) fun c s1 ⟨H1,I1,q1⟩=>?_);cases c with
 | true=>exact⟨H1,I1,q1⟩
 | false=>exact hb wh pins s1 σ H1 Q I1 q1
theorem Dh (ha:PT X a tA):PT X (.UnaryOp .Not a pos) (Np tA):=by intro pins s σ H Q I h;exact isTrue_not (ha pins s σ H (fun c H1=>Q (!c) H1) I h)
noncomputable def MM (ta tb:TE):TE:=fun σ H Q=>ta σ H fun x H1=>∃c,x=.bl c/\if c=true then tb σ H1 Q else Q (.bl false) H1
noncomputable def OF (ta tb:TE):TE:=fun σ H Q=>ta σ H fun x H1=>∃c,x=.bl c/\if c=true then Q (.bl true) H1 else tb σ H1 Q
noncomputable def J1 (ta:TE):TE:=fun σ H Q=>ta σ H fun x H1=>∃c,x=.bl c/\Q (.bl (!c)) H1
theorem BR {op}(h:PE X a t):PE X (.BoolOp op [a] pos) t:=fun pins s σ H Q I hw=>BoolOp_one (h pins s σ H Q I hw)
theorem JY (ha:PE X a ta)(hb:PE X (.BoolOp .And (b::rest) pos) tb):PE X (.BoolOp .And (a::b::rest) pos) (MM ta tb):=by
 intro pins s σ H Q I h;refine BoolOp_and (thn (ha pins s σ H _ I h) fun v s1 ⟨x,H1,I1,r1,q1⟩=>?_);obtain⟨c,rfl,q1⟩:=q1;cases r1;refine wpAny_truthy_bool ?_;cases c with
 | true=>exact hb pins s1 σ H1 Q I1 q1
 | false=>exact⟨.bl false,H1,I1,rfl,q1⟩
theorem MR (ha:PE X a ta)(hb:PE X (.BoolOp .Or (b::rest) pos) tb):PE X (.BoolOp .Or (a::b::rest) pos) (OF ta tb):=by
 intro pins s σ H Q I h;refine BoolOp_or (thn (ha pins s σ H _ I h) fun v s1 ⟨x,H1,I1,r1,q1⟩=>?_);obtain⟨c,rfl,q1⟩:=q1;cases r1;refine wpAny_truthy_bool ?_;cases c with
 | false=>exact hb pins s1 σ H1 Q I1 q1
 | true=>exact⟨.bl true,H1,I1,rfl,q1⟩
theorem JH (ha:PE X a ta):PE X (.UnaryOp .Not a pos) (J1 ta):=by intro pins s σ H Q I h;refine UnaryOp_ (thn (ha pins s σ H _ I h) fun v s1 ⟨x,H1,I1,r1,q1⟩=>?_);obtain⟨c,rfl,q1⟩:=q1;cases r1;exact not_of (wpAny_truthy_bool ⟨.bl (!c),H1,I1,rfl,q1⟩)
noncomputable def tIf (t:TT)(ta tb:TE):TE:=fun σ H Q=>t σ H fun c H1=>if c=true then ta σ H1 Q else tb σ H1 Q
theorem De (hc:PT X c tA)(ha:PE X a ta)(hb:PE X b tb):PE X (.IfExp c a b pos) (tIf tA ta tb):=by
 intro pins s σ H Q I h;refine wpAny_IfExp (thn (hc pins s σ H _ I h) fun d s1 ⟨H1,I1,q1⟩=>?_);cases d with
 | true=>exact ha pins s1 σ H1 Q I1 q1
 | false=>exact hb pins s1 σ H1 Q I1 q1
end
end L2
namespace L2
def SqL (K:W.Frag)(H:Hp)(a:Addr)(xs:List V):Prop :=
 Rd H a (.lst xs) \/
  ∃(o:Obj) (its:Array Value) (n:Nat),K.lookup a=some o/\o.cls=.type "list"/\o.dict=none/\o.data=.seq its n/\its.size<=sizeLine/\Vals xs its.toList
def SqT (K:W.Frag)(H:Hp)(a:Addr)(xs:List V):Prop :=
 Rd H a (.tup xs) \/
  ∃(o:Obj) (its:Array Value) (n:Nat),K.lookup a=some o/\o.cls=.type "tuple"/\o.data=.seq its n/\its.size<=sizeLine/\Vals xs its.toList
noncomputable def Ou:Value->Option V
 | .none=>some .non
 | .bool b=>some (.bl b)
 | .int i _=>some (.int i)
 | .str x _=>some (.str x)
 | .bytes b _=>some (.byt b)
 | .float b _=>some (.flt b)
 | .ref a=>some (.ref a)
 | .type n=>some (.ty n)
 | _=>none
theorem RelV.abs (r:RelV x u):Ou u=some x:=by
 cases x with
 | non=>cases r;rfl
 | bl _=>cases r;rfl
 | int _=>obtain⟨t,rfl⟩:=r;rfl
 | str _=>obtain⟨t,rfl⟩:=r;rfl
 | byt _=>obtain⟨t,rfl⟩:=r;rfl
 | flt _=>obtain⟨t,rfl⟩:=r;rfl
 | ref _=>cases r;rfl
 | ty _=>cases r;rfl
theorem RelV.inj (r:RelV x u)(q:RelV y u):x=y:=P4 (r.abs.symm.trans q.abs)
theorem Vals.inj:∀ {xs ys:List V}{us:List Value},Vals xs us->Vals ys us->xs=ys
 | _,_,_,.nil,.nil=>rfl
 | _,_,_,.cons r t,.cons r' t'=>by rw[r.inj r',Vals.inj t t']
section
variable {X:Cx}{pins:List (Addr × Obj)}{σ:St}{H:Hp}{s:Shared}{a:Addr}{xs ys:List V}
theorem SqL.of (h:H a=some (.lst xs)):SqL K H a xs:=.inl (.inl h)
theorem SqT.of (h:H a=some (.tup xs)):SqT K H a xs:=.inl (.inl h)
theorem Inv.list (I:Inv X pins σ H s)(h:SqL X.K H a xs):∃its:List Value,Vals xs its/\PlainL s.heap a its.toArray/\xs.length<=sizeLine:=by
 rcases h with h|⟨o,its,n,hk,hc,hd,hs,hz,r⟩
 ·obtain⟨z,its,n,r,e⟩:=h.ok I.hok;exact⟨its,r,⟨_,n,e,rfl,rfl,rfl⟩,z⟩
 ·refine⟨its.toList,r,⟨o,n,I.kIn a o hk,hc,hd,by simpa using hs⟩,?_⟩;have e:=r.length;simp only[Array.length_toList] at e;omega
theorem Inv.tuple (I:Inv X pins σ H s)(h:SqT X.K H a xs):∃its:List Value,Vals xs its/\IsTup s.heap a its.toArray/\xs.length<=sizeLine:=by
 rcases h with h|⟨o,its,n,hk,hc,hs,hz,r⟩
 ·obtain⟨z,its,r,p⟩:=h.ok I.hok;exact⟨its,r,p,z⟩
 ·refine⟨its.toList,r,⟨o,I.kIn a o hk,hc,n,by simpa using hs⟩,?_⟩;have e:=r.length;simp only[Array.length_toList] at e;omega
theorem Inv.list_inj (I:Inv X pins σ H s)(h:SqL X.K H a xs)(h':SqL X.K H a ys):xs=ys:=by
 obtain⟨its,r,⟨o,n,e,_,_,d⟩,_⟩:=I.list h;obtain⟨its',r',⟨o',n',e',_,_,d'⟩,_⟩:=I.list h';rw[e] at e';cases e';rw[d] at d';injection d' with d1 _
 have:its=its':=by simpa using PU Array.toList d1
 subst this;exact r.inj r'
theorem Inv.tuple_inj (I:Inv X pins σ H s)(h:SqT X.K H a xs)(h':SqT X.K H a ys):xs=ys:=by
 obtain⟨its,r,⟨o,e,_,n,d⟩,_⟩:=I.tuple h;obtain⟨its',r',⟨o',e',_,n',d'⟩,_⟩:=I.tuple h';rw[e] at e';cases e';rw[d] at d';injection d' with d1 _
 have:its=its':=by simpa using PU Array.toList d1
 subst this;exact r.inj r'
end
noncomputable abbrev Cx.wish (X:Cx)(E:Value->Shared->Prop):Cx:={ X with xe:=E }
noncomputable abbrev Cx.nox (X:Cx):Cx:=X.wish fun _ _=>False
theorem Cx.Ok.wish {X:Cx}(ok:X.Ok)(E:Value->Shared->Prop):(X.wish E).Ok :=
 ⟨ok.mod,ok.kind,ok.glob,ok.blt,ok.above,ok.inj,ok.has,ok.cab,ok.hd,ok.frames,ok.stk,ok.exf,ok.bs,ok.bsz,ok.noex,ok.exfs,ok.funs,ok.frf⟩
theorem Cx.Ok.unwish {X:Cx}{E:Value->Shared->Prop}(ok:(X.wish E).Ok):X.Ok :=
 ⟨ok.mod,ok.kind,ok.glob,ok.blt,ok.above,ok.inj,ok.has,ok.cab,ok.hd,ok.frames,ok.stk,ok.exf,ok.bs,ok.bsz,ok.noex,ok.exfs,ok.funs,ok.frf⟩
section
variable {X:Cx}{pins:List (Addr × Obj)}{σ:St}{H:Hp}{s:Shared}{E:Value->Shared->Prop}
theorem Inv.wish (I:Inv X pins σ H s)(E:Value->Shared->Prop):Inv (X.wish E) pins σ H s:=⟨I.ok.wish E,I.os,I.bare,I.base,I.loc,I.cell,I.free,I.freeC,I.pin,I.hok,I.len⟩
theorem Inv.unwish (I:Inv (X.wish E) pins σ H s):Inv X pins σ H s:=⟨I.ok.unwish,I.os,I.bare,I.base,I.loc,I.cell,I.free,I.freeC,I.pin,I.hok,I.len⟩
theorem SP.unwish {D:Ends}(h:SP (X.wish E) pins D f s'):SP X pins D f s':=by
 cases f with
 | next=>obtain⟨σ',H',I,q⟩:=h;exact⟨σ',H',I.unwish,q⟩
 | brk=>obtain⟨σ',H',I,q⟩:=h;exact⟨σ',H',I.unwish,q⟩
 | cont=>obtain⟨σ',H',I,q⟩:=h;exact⟨σ',H',I.unwish,q⟩
 | ret u=>obtain⟨v,σ',H',I,r,q⟩:=h;exact⟨v,σ',H',I.unwish,r,q⟩
theorem PSs.nox (h:PSs X.nox st t):PSs X st t:=fun pins s σ H D I hw =>
 wpAny_mono (h pins s σ H D (I.wish _) hw) (fun _ _ q=>q.unwish) fun _ _ z=>False.elim z
end
section
variable {X:Cx}{st:Stmt}{rest:List Stmt}{t u:TS}{e:Expr}{te:TE}{pos:Pos}
noncomputable def Gg:TS:=fun D σ H=>D.nx σ H
noncomputable def Na (t u:TS):TS:=fun D σ H=>t { D with nx:=u D } σ H
theorem pK:PSs X [] Gg:=fun _ _ σ H _ I h=>wpAny_execs_nil ⟨σ,H,I,h⟩
theorem qu (h1:PS X st t)(h2:PSs X rest u):PSs X (st::rest) (Na t u):=by
 intro pins s σ H D I h;refine wpAny_execs_cons (thn (h1 pins s σ H { D with nx:=u D } I h) fun f s1 q=>?_);cases f with
 | next =>obtain⟨σ',H',I',q⟩:=q;exact h2 pins s1 σ' H' D I' q
 | ret v=>exact q
 | brk=>exact q
 | cont=>exact q
noncomputable def HB:TS:=fun D σ H=>D.bk σ H
noncomputable def KN:TS:=fun D σ H=>D.ct σ H
theorem Et:PS X (.Pass pos) Gg:=fun _ _ σ H _ I h=>wpAny_Pass ⟨σ,H,I,h⟩
theorem CP:PS X (.Break pos) HB:=fun _ _ σ H _ I h=>wpAny_Break ⟨σ,H,I,h⟩
theorem vP:PS X (.Continue pos) KN:=fun _ _ σ H _ I h=>wpAny_Continue ⟨σ,H,I,h⟩
theorem Inv.quiet {pins:List (Addr × Obj)}{σ:St}{H:Hp}{s:Shared}(I:Inv X pins σ H s):interactive X.env=false:=by simp[interactive,I.ok.kind]
noncomputable def Mt (te:TE):TS:=fun D σ H=>te σ H fun _ H1=>D.nx σ H1
theorem Ei (he:PE X e te)(hs:swapsWith e none pos.line X.env=pure false:=by rfl):PS X (.Expr e pos) (Mt te):=by intro pins s σ H D I h;exact wpAny_Expr_any (thn (he pins s σ H _ I h) fun v s1 ⟨x,H1,I1,r1,q1⟩=>⟨σ,H1,I1,q1⟩) I.quiet hs
noncomputable def Ob (te:TE):TS:=fun D σ H=>te σ H D.rt
theorem Bg (he:PE X e te):PS X (.Return (some e) pos) (Ob te):=by intro pins s σ H D I h;exact wpAny_Return_some (thn (he pins s σ H _ I h) fun v s1 ⟨x,H1,I1,r1,q1⟩=>⟨x,σ,H1,I1,r1,q1⟩)
noncomputable def LX:TS:=fun D _ H=>D.rt .non H
theorem F2:PS X (.Return none pos) LX:=fun _ _ σ H _ I h=>wpAny_Return_none ⟨.non,σ,H,I,rfl,h⟩
noncomputable def M4 (c:TT)(t u:TS):TS:=fun D σ H=>c σ H fun b H1=>if b=true then t D σ H1 else u D σ H1
theorem Lr (hc:PT X c tc)(ha:PSs X a t)(hb:PSs X b u):PS X (.If c a b pos) (M4 tc t u):=by
 intro pins s σ H D I h;refine wpAny_If (thn (hc pins s σ H _ I h) fun d s1 ⟨H1,I1,q1⟩=>?_);cases d with
 | true=>exact ha pins s1 σ H1 D I1 q1
 | false=>exact hb pins s1 σ H1 D I1 q1
end
noncomputable abbrev TG:=V->St->Hp->(St->Hp->Prop)->Prop
noncomputable abbrev TGs:=List V->St->Hp->(St->Hp->Prop)->Prop
def PG (X:Cx)(target:Expr)(t:TG):Prop :=
 ∀(pins:List (Addr × Obj)) (s:Shared) (σ:St) (H:Hp) (v:V) (u:Value) (Q:St->Hp->Prop),Inv X pins σ H s->RelV v u->t v σ H Q ->
  wpAny (model X.prog X.w) X.A (assign target X.env u) (fun _ s'=>∃σ' H',Inv X pins σ' H' s'/\Q σ' H') X.xe s
def PGs (X:Cx)(ts:List Expr)(t:TGs):Prop :=
 ∀(pins:List (Addr × Obj)) (s:Shared) (σ:St) (H:Hp) (vs:List V) (us:List Value) (Q:St->Hp->Prop),Inv X pins σ H s->Vals vs us->t vs σ H Q ->
  wpAny (model X.prog X.w) X.A (assignInOrder ((assignEach ts X.env).map (·.2)) us) (fun _ s'=>∃σ' H',Inv X pins σ' H' s'/\Q σ' H') X.xe s
noncomputable abbrev Hb:=V->V->V->Hp->(Hp->Prop)->Prop
def I0 (X:Cx)(t:Hb):Prop :=
 ∀(pins:List (Addr × Obj)) (s:Shared) (σ:St) (H:Hp) (o i v:V) (ov iv u:Value) (Q:Hp->Prop),Inv X pins σ H s->RelV o ov->RelV i iv->RelV v u->t o i v H Q ->
  wpAny (model X.prog X.w) X.A (setItem ov iv u) (fun _ s'=>∃H',Inv X pins σ H' s'/\Q H') X.xe s
section
variable {X:Cx}{pos:Pos}
noncomputable def GH (i:Nat):TG:=fun v σ H Q=>Q (σ.set i (some v)) H
theorem EF {i:Nat}(hN:X.N.Nodup)(hi:X.N[i]?=some x)(hx:Loc X.env.scope x)(hf:X.fn x=true\/X.env.scope.names.lookup x=some .local:=by first|exact .inl rfl|exact .inr rfl|assumption):PG X (.Name x pos) (GH i):=by intro pins s σ H v u Q I r h;exact wpAny_assign_Name (gj I hN hi hx r (fun s' I'=>⟨_,H,I',h⟩) hf)
noncomputable def M0:TGs:=fun vs σ H Q=>vs=[]/\Q σ H
noncomputable def KH (t:TG)(u:TGs):TGs:=fun vs σ H Q=>∃v r,vs=v::r/\t v σ H fun σ' H'=>u r σ' H' Q
theorem FV:PGs X [] M0:=by intro pins s σ H vs us Q I r h;obtain⟨e,h⟩:=h;subst e;cases r;exact assignInOrder_nil ⟨σ,H,I,h⟩
theorem Do (h1:PG X e t)(h2:PGs X es u)(hs:(assignEach (e::es) X.env).map (·.2)=assign e X.env::(assignEach es X.env).map (·.2):=by rfl):PGs X (e::es) (KH t u):=by
 intro pins s σ H vs us Q I r h;obtain⟨v,vr,e1,h⟩:=h;subst e1;cases r with
 | cons r rr =>rw[hs];refine assignInOrder_cons (thn (h1 pins s σ H _ _ _ I r h) fun _ s1 ⟨σ1,H1,I1,q1⟩=>?_);exact h2 pins s1 σ1 H1 _ _ Q I1 rr q1
noncomputable def Og (K:W.Frag)(n:Nat)(t:TGs):TG:=fun v σ H Q=>∃a xs,v=.ref a/\SqT K H a xs/\xs.length=n/\t xs σ H Q
theorem Iz {k:Nat}{n:Nat}(hc:X.calm=true)(h:PGs X es t)(hn:(assignEach es X.env).length=n:=by rfl)(hst:(assignEach es X.env).findIdx? (·.1)=none:=by rfl):PG X (.Tuple es k pos) (Og X.K n t):=by
 intro pins s σ H v u Q I r hw;obtain⟨a,xs,e1,hq,hl,hw⟩:=hw;subst e1;cases r;obtain⟨its,rv,ht,hz⟩:=I.tuple hq;refine assign_Tuple_tuple (I.ok.hd hc) ht (by simp[hn,<-hl,rv.length]) hst fun h' hx=>?_;have I1:Inv X pins σ H { s with heap:=h' }:=I.kept (t':=s.toks) fun b o e=>hx b o (PN (O3 e)) e;exact h pins _ σ H xs _ Q I1 (by simpa using rv) hw
noncomputable def Os (to ti:TE)(t:Hb):TG:=fun v σ H Q=>to σ H fun o H1=>ti σ H1 fun i H2=>t o i v H2 fun H3=>Q σ H3
theorem Jm (ho:PE X o to)(hi:PE X i ti)(hs:I0 X t)(ha:∀v,assign (.Subscript o i pos) X.env v=(do
   let ov <-holding [v] (eval o X.env);let iv <-holding [v,ov] (eval i X.env)
   standAt pos
   holding [v,ov,iv] (setItem ov iv v)
   release [v,ov,iv] []):=by intro _;rfl):PG X (.Subscript o i pos) (Os to ti t):=by
 intro pins s σ H v u Q I r h;rw[ha];refine OP (R1 (thn (ho pins s σ H _ I h) fun ov s1 ⟨x,H1,I1,r1,q1⟩=>?_));refine OP (R1 (thn (hi pins s1 σ H1 _ I1 q1) fun iv s2 ⟨y,H2,I2,r2,q2⟩=>?_));refine OP (wpAny_standAt (OP (R1 (thn (hs pins s2 σ H2 x y v ov iv u _ I2 r1 r2 r q2) fun _ s3 ⟨H3,I3,q3⟩=>?_))));exact wpAny_release ⟨σ,H3,I3,q3⟩
noncomputable def FJ (te:TE)(g:TG):TS:=fun D σ H=>te σ H fun x H1=>g x σ H1 D.nx
theorem p9 (he:PE X e te)(hg:PG X tg g)(hs:swapsWithSole [tg] e pos.line X.env=pure false:=by rfl)(hw:swappedStores [tg] e X.env=pure none:=by rfl)(h1:(assignEach [tg] X.env).map (·.2)=[assign tg X.env]:=by rfl):PS X (.Assign [tg] e pos) (FJ te g):=by
 intro pins s σ H D I h;refine wpAny_Assign_stores (thn (he pins s σ H _ I h) fun v s1 ⟨x,H1,I1,r1,q1⟩=>?_) hs hw;rw[h1];exact thn (hg pins s1 σ H1 x v _ I1 r1 q1) fun _ s2 q=>q
theorem kM {i:Nat}(hN:X.N.Nodup)(hi:X.N[i]?=some x)(hx:Loc X.env.scope x)(he:PE X e te)(hs:swapsWith e (some (.Name x pos')) pos.line X.env=pure false:=by rfl)(hf:X.fn x=true\/X.env.scope.names.lookup x=some .local:=by first|exact .inl rfl|exact .inr rfl|assumption) :
  PS X (.Assign [.Name x pos'] e pos) (FJ te (GH i)):=by
 intro pins s σ H D I h;refine wpAny_Assign_Name (thn (he pins s σ H _ I h) fun v s1 ⟨y,H1,I1,r1,q1⟩=>?_) hs;exact gj I1 hN hi hx r1 (fun s2 I2=>⟨_,H1,I2,q1⟩) hf
noncomputable def Nx (i j:Nat)(ta:TA):TS:=fun D σ H=>ta σ H fun vs H1=>∃v w,vs=[v,w]/\D.nx ((σ.set i (some v)).set j (some w)) H1
theorem Hz {i j:Nat}{a:Expr}{kt k2 pt2}(hc:X.calm=true)(hN:X.N.Nodup)(hi:X.N[i]?=some x)(hj:X.N[j]?=some y)(hij:i≠j)(hx:X.env.scope.names.lookup x=some .local)(hy:X.env.scope.names.lookup y=some .local)(ha:PA X [a,b] ta)(hw:swappedStores [.Tuple [.Name x px,.Name y py] kt pt] (.Tuple [a,b] k2 pt2) X.env=pure (some [x,y]))(hs:swapsWithSole [.Tuple [.Name x px,.Name y py] kt pt] (.Tuple [a,b] k2 pt2) pos.line X.env=pure false:=by rfl) :
  PS X (.Assign [.Tuple [.Name x px,.Name y py] kt pt] (.Tuple [a,b] k2 pt2) pos) (Nx i j ta):=by
 intro pins s σ H D I h;rw[exec_Assign_arm];refine OP (wpAny_standAt ?_);rw[hs];refine OP (O2 ?_);rw[OY (by decide)];refine OP (Tuple_ (thn (ha _ pins s σ H _ I h) fun us s1 ⟨vs,H1,I1,r1,q1⟩=>?_));obtain⟨v,w,e1,q1⟩:=q1;subst e1;obtain⟨u1,u2,rfl,rv,rw'⟩:∃u1 u2,us=[u1,u2]/\RelV v u1/\RelV w u2:=by
  cases r1 with
  | cons p q =>
   cases q with
   | cons p' q' =>cases q';exact⟨_,_,rfl,p,p'⟩
 refine wpAny_newObj_type ?_ (by show 2<=sizeLine;decide);have I2:Inv X pins σ H1 { s1 with heap:=s1.heap.push { cls:=.type "tuple",data:=.seq [u1,u2].toArray } }:=I1.kept (t':=s1.toks) fun b o e=>OR _ e;rw[hw];refine OP (O2 ?_);show wpAny (model X.prog X.w) X.A (do rule "assign.swapped-stores";let items <-unpackItems (.ref s1.heap.objs.size) 2 none;assignInOrder [fun v=>bindName X.env y v,fun v=>bindName X.env x v] items.reverse;pure Flow.next) _ _ _;refine OP (wpAny_rule (OP (unpackItems_tuple (items:=#[u1,u2]) (I.ok.hd hc) (IsTup.new s1.heap _) fun h' hx'=>?_)));have I3:=I2.kept (h':=h') (t':=s1.toks) fun b o e=>hx' b o (PN (O3 e)) e;show wpAny _ _ (assignInOrder [fun v=>bindName X.env y v,fun v=>bindName X.env x v] [u2,u1] >>= fun _=>pure Flow.next) _ _ _;refine OP (assignInOrder_cons (wpAny_bindName (gj I3 hN hj (.inl hy) rw' (fun s2 I4=>?_) (.inr hy))));refine assignInOrder_cons (wpAny_bindName (gj I4 hN hi (.inl hx) rv (fun s3 I5=>assignInOrder_nil (O2 ?_)) (.inr hx)));rw[List.set_comm _ _ (Ne.symm hij)] at I5;exact⟨_,H1,I5,q1⟩
end
section
variable {X:Cx}{pos:Pos}
noncomputable def BC (c:TT)(tb:TS):TS:=fun D σ H=>∃W:Nat->St->Hp->Prop,(∃m,W m σ H)/\∀m σ H,W m σ H ->
 c σ H fun b H1=>if b=true then ∃N:St->Hp->Prop,(∀σ' H',N σ' H'->∃m',m'<m/\W m' σ' H')/\tb { D with nx:=N,ct:=N,bk:=D.nx } σ H1 else D.nx σ H1
theorem Dr (hp:PassesOwn (model X.prog X.w) X.A X.env X.xe)(hc:PT X c tc)(hb:PSs X body tb):PS X (.While c body [] pos) (BC tc tb):=by
 intro pins s σ H D I h;obtain⟨W,⟨m0,w0⟩,turn⟩:=h;refine wpAny_While (codeAny_whileLoop (fun n s'=>∃σ' H',Inv X pins σ' H' s'/\W n σ' H') ?_ m0 ⟨σ,H,I,w0⟩);rintro n s1 ⟨σ1,H1,I1,w1⟩;refine wpAny_passesOwn hp (thn (hc pins s1 σ1 H1 _ I1 (turn n σ1 H1 w1)) fun b s2 ⟨H2,I2,q2⟩=>?_);cases b with
 | true =>
  obtain⟨N,hN,q2⟩:=q2;rw[O0 rfl];refine wpAny_passesOwn hp (thn (hb pins s2 σ1 H2 _ I2 q2) fun f s3 q3=>?_);cases f with
  | next =>obtain⟨σ3,H3,I3,n3⟩:=q3;obtain⟨m',hm,w3⟩:=hN σ3 H3 n3;exact⟨m',hm,σ3,H3,I3,w3⟩
  | cont =>obtain⟨σ3,H3,I3,n3⟩:=q3;obtain⟨m',hm,w3⟩:=hN σ3 H3 n3;exact⟨m',hm,σ3,H3,I3,w3⟩
  | brk=>exact q3
  | ret v=>exact q3
 | false =>rw[OY OS];exact wpAny_execs_nil ⟨σ1,H2,I2,q2⟩
end
structure It where
 go:Nat->Hp->Prop
 yld:Nat->Hp->V->Hp->Prop
 stop:Nat->Hp->Prop
def jo (X:Cx)(pins:List (Addr × Obj))(H:Hp)(b:Addr):Prop :=
 H b=none/\b≠X.env.locals/\b ∉ X.fs/\(b∈X.ex\/X.s₀.heap.objs.size<=b)/\(∀x c,X.env.cells.lookup x=some c->c≠b)/\∀p∈X.pn++pins,p.1≠b
theorem Inv.fpOk {X:Cx}{pins:List (Addr × Obj)}{σ:St}{H H':Hp}{s:Shared}{b:Addr}(I:Inv X pins σ H s)(hb:s.heap.objs.size<=b)(hn:H' b=none):jo X pins H' b:=by
 refine⟨hn,TK (OW I.lt hb),I.nofs hb,.inr (O7 I.sz hb),fun x c e z=>?_,fun p hp z=>?_⟩
 ·obtain⟨v,q⟩:=I.cell x c e;exact absurd (OW q.lt (by rw[z];exact hb)) (QV _)
 ·exact absurd (OW (O3 (I.pin p hp).1) (by rw[z];exact hb)) (QV _)
structure vo (P:Program)(w:World)(K:W.Frag)(tg:Expr)(J:It)(fp:List Addr)(it:Addr)(tn:Nat->Heap->Prop):Prop where
 mem:it∈fp
 obj:∀i h,tn i h->∀b∈fp,∃o,h.get? b=some o/\∀v,o.data≠.cell v
 keep:∀i h h',tn i h->(∀b∈fp,∀o,h.get? b=some o->h'.get? b=some o)->tn i h'
 item:∀(X:Cx),X.prog=P->X.w=w->X.K=K->X.calm=true->∀(i:Nat) (pins:List (Addr × Obj)) (s:Shared) (σ:St) (H:Hp) (E:Value->Shared->Prop),Inv X pins σ H s->(∀b∈fp,jo X pins H b)->tn i s.heap->J.go i H ->
  wpAny (model P w) X.A (pyNext (.ref it)) (fun r s1=>∃u,r=some u /\
   wpAny (model P w) X.A (letOwnedTupleGo tg (.ref it) u) (fun _ s2=>∃x H',Inv X pins σ H' s2/\RelV x u/\J.yld i H x H'/\tn (i+1) s2.heap/\∀b∈fp,H' b=none) E s1) E s
 done:∀(X:Cx),X.prog=P->X.w=w->X.K=K->X.calm=true->∀(i:Nat) (pins:List (Addr × Obj)) (s:Shared) (σ:St) (H:Hp) (E:Value->Shared->Prop),Inv X pins σ H s->(∀b∈fp,jo X pins H b)->tn i s.heap->J.stop i H ->
  wpAny (model P w) X.A (pyNext (.ref it)) (fun r s1=>r=none/\Inv X pins σ H s1) E s
 self:∀(A:Around) (i:Nat) (s:Shared) (Q:Value->Shared->Prop) (E:Value->Shared->Prop),tn i s.heap->Q (.ref it) s->wpAny (model P w) A (pyIter (.ref it)) Q E s
noncomputable abbrev TI:=St->Hp->(It->Hp->Prop)->Prop
def PIE (X:Cx)(pins:List (Addr × Obj))(σ:St)(tg:Expr)(R:It->Hp->Prop)(itv:Value)(s2:Shared):Prop :=
 ∃(it:Addr) (fp:List Addr) (tn:Nat->Heap->Prop) (J:It) (H':Hp),itv=.ref it/\Inv X pins σ H' s2/\vo X.prog X.w X.K tg J fp it tn/\tn 0 s2.heap/\(∀b∈fp,jo X pins H' b)/\R J H'
def PI (X:Cx)(tg iter:Expr)(wi:TI):Prop :=
 ∀(pins:List (Addr × Obj)) (s:Shared) (σ:St) (H:Hp) (R:It->Hp->Prop),Inv X pins σ H s->wi σ H R ->
  wpAny (model X.prog X.w) X.A (eval iter X.env) (fun v s1=>wpAny (model X.prog X.w) X.A (pyIter v) (PIE X pins σ tg R) X.xe s1) X.xe s
theorem vC {M:Model}{E:Value->Shared->Prop}{s:Shared}{n:String}{Q:Unit->Shared->Prop}(ho:s.heap.get? it=some o)(hc:o.cls=.type n)(hd:o.data=.fields vs)(hn:["enumerate","zip","dict_itemiterator","dict_reverseitemiterator","odict_iterator","itertools.zip_longest","itertools.pairwise"].contains n=false)(hQ:Q () s):wpAny M A (letOwnedTupleGo tg (.ref it) u) Q E s:=by
 unfold letOwnedTupleGo;cases tg <;> first
  | exact O2 hQ
  | (cases u <;> first
    | exact O2 hQ
    | (refine OP (wpAny_load ho ?_)
       rw[hc,hd];show wpAny M A (if (["enumerate","zip","dict_itemiterator","dict_reverseitemiterator","odict_iterator","itertools.zip_longest","itertools.pairwise"].contains n && vs[0]? == some (rawInt _))=true then _ else _) Q E s;rw[OY (by intro h;rw[hn,SE] at h;cases h)];exact O2 hQ))
noncomputable def Itl (K:W.Frag)(a:Addr):It :=
 ⟨fun i H=>∃xs x,SqL K H a xs/\xs[i]?=some x,fun i H x H'=>H'=H/\∀xs,SqL K H a xs->xs[i]?=some x,fun i H=>∃xs,SqL K H a xs/\xs.length<=i⟩
noncomputable def Itt (K:W.Frag)(a:Addr):It :=
 ⟨fun i H=>∃xs x,SqT K H a xs/\xs[i]?=some x,fun i H x H'=>H'=H/\∀xs,SqT K H a xs->xs[i]?=some x,fun i H=>∃xs,SqT K H a xs/\xs.length<=i⟩
noncomputable def Itr (lo:Int)(n:Nat):It:=⟨fun i _=>i<n,fun i H x H'=>H'=H/\x=.int (lo+i),fun i _=>n<=i⟩
theorem AG {P:Program}{w:World}{K:W.Frag}{tg:Expr}(a it:Addr):vo P w K tg (Itl K a) [it] it (fun i h=>h.IsListIter it a i) where
 mem:=by simp
 obj:=fun i h st b hb=>by
  have e:b=it:=by simpa using hb
  subst e;obtain⟨o,e,c,d⟩:=st;exact⟨o,e,fun v z=>by rw[d] at z;cases z⟩
 keep:=fun i h h' st k=>st.at fun o e=>k it (by simp) o e
 item:=by intro X hP hw hK hc i pins s σ H E I hf st hg;subst hP hw hK;obtain⟨xs,x,hq,hx⟩:=hg;obtain⟨its,rv,p,hz⟩:=I.list hq;obtain⟨u,hu,ru⟩:=rv.get hx;obtain⟨f0,f1,f2,f3,f4,f5⟩:=hf it (by simp);refine wpAny_pyNext_list_item st p.isList (x:=u) (by simpa using hu) fun h' st' sb=>?_;have I1:Inv X pins σ H { s with heap:=h' }:=I.turned (t':=s.toks) (fun b o hb e=>(sb.2 b hb).trans e) f0 f1 f3 f4 f5;obtain⟨o,e,c,d⟩:=id st';exact⟨u,rfl,vC (s:={ s with heap:=h' }) e c d (by decide) ⟨x,H,I1,ru,⟨rfl,fun ys hy=>by rw[I.list_inj hy hq];exact hx⟩,st',fun b hb=>(hf b hb).1⟩⟩
 done:=by intro X hP hw hK hc i pins s σ H E I hf st hg;subst hP hw hK;obtain⟨xs,hq,hx⟩:=hg;obtain⟨its,rv,p,hz⟩:=I.list hq;obtain⟨f0,f1,f2,f3,f4,f5⟩:=hf it (by simp);have hl:=rv.length;exact wpAny_pyNext_list_end (I.ok.hd hc) st p.isList (by simp;omega) fun h' eb=>⟨rfl,I.turned (t':=s.toks) (fun b o hb e=>eb b o hb e) f0 f1 f3 f4 f5⟩
 self:=fun _ _ _ _ _ st h=>wpAny_pyIter_listiter st h
theorem xM {P:Program}{w:World}{K:W.Frag}{tg:Expr}(a it:Addr):vo P w K tg (Itt K a) [it] it (fun i h=>h.IsTupleIter it a i) where
 mem:=by simp
 obj:=fun i h st b hb=>by
  have e:b=it:=by simpa using hb
  subst e;obtain⟨o,e,c,d⟩:=st;exact⟨o,e,fun v z=>by rw[d] at z;cases z⟩
 keep:=fun i h h' st k=>st.at fun o e=>k it (by simp) o e
 item:=by intro X hP hw hK hc i pins s σ H E I hf st hg;subst hP hw hK;obtain⟨xs,x,hq,hx⟩:=hg;obtain⟨its,rv,p,hz⟩:=I.tuple hq;obtain⟨u,hu,ru⟩:=rv.get hx;obtain⟨f0,f1,f2,f3,f4,f5⟩:=hf it (by simp);refine wpAny_pyNext_tuple_item st (show s.heap.IsTuple a its.toArray from p) (x:=u) (by simpa using hu) fun h' st' sb=>?_;have I1:Inv X pins σ H { s with heap:=h' }:=I.turned (t':=s.toks) (fun b o hb e=>(sb.2 b hb).trans e) f0 f1 f3 f4 f5;obtain⟨o,e,c,d⟩:=id st';exact⟨u,rfl,vC (s:={ s with heap:=h' }) e c d (by decide) ⟨x,H,I1,ru,⟨rfl,fun ys hy=>by rw[I.tuple_inj hy hq];exact hx⟩,st',fun b hb=>(hf b hb).1⟩⟩
 done:=by intro X hP hw hK hc i pins s σ H E I hf st hg;subst hP hw hK;obtain⟨xs,hq,hx⟩:=hg;obtain⟨its,rv,p,hz⟩:=I.tuple hq;obtain⟨f0,f1,f2,f3,f4,f5⟩:=hf it (by simp);have hl:=rv.length;exact wpAny_pyNext_tuple_end (I.ok.hd hc) st (show s.heap.IsTuple a its.toArray from p) (by simp;omega) fun h' eb=>⟨rfl,I.turned (t':=s.toks) (fun b o hb e=>eb b o hb e) f0 f1 f3 f4 f5⟩
 self:=fun _ _ _ _ _ st h=>wpAny_pyIter_tupleiter st h
theorem xy {P:Program}{w:World}{K:W.Frag}{tg:Expr}(it:Addr)(lo:Int)(n:Nat):vo P w K tg (Itr lo n) [it] it (fun i h=>IsRangeIter h it (lo+(i:Nat)*1) ((n:Int)-(i:Nat)) 1) where
 mem:=by simp
 obj:=fun i h st b hb=>by
  have e:b=it:=by simpa using hb
  subst e;exact⟨_,st,fun v z=>by have z':Data.fields _=Data.cell v:=z;cases z'⟩
 keep:=fun i h h' st k=>k it (by simp) _ st
 item:=by intro X hP hw hK hc i pins s σ H E I hf st hg;subst hP hw hK;obtain⟨f0,f1,f2,f3,f4,f5⟩:=hf it (by simp);have W:=Walks.range (prog:=X.prog) (w:=X.w) (I.ok.hd hc) it lo 1 n;refine W.item i s _ _ hg st fun v h' tk hv st' kk=>?_;obtain⟨t,rfl⟩:=hv;have I1:Inv X pins σ H { s with heap:=h',toks:=tk }:=I.turned (fun b o hb e=>kk b o (by simpa using hb) e) f0 f1 f3 f4 f5;refine ⟨_,rfl,vC (s:={ s with heap:=h',toks:=tk }) (n:="range_iterator") st' rfl rfl (by decide) ⟨.int (lo+i),H,I1,⟨t,?_⟩,⟨rfl,rfl⟩,st',fun b hb=>(hf b hb).1⟩⟩;rw[Int.mul_one]
 done:=by intro X hP hw hK hc i pins s σ H E I hf st hg;subst hP hw hK;obtain⟨f0,f1,f2,f3,f4,f5⟩:=hf it (by simp);exact wpAny_pyNext_range_end (I.ok.hd hc) st (by have:n<=i:=hg;omega) fun h' eb=>⟨rfl,I.turned (t':=s.toks) (fun b o hb e=>eb b o hb e) f0 f1 f3 f4 f5⟩
 self:=fun _ _ _ _ _ st h=>wpAny_pyIter_rangeiter st h
end L2
namespace L2
section
variable {X:Cx}{tg:Expr}
theorem wC {pins:List (Addr × Obj)}{σ:St}{H:Hp}{s:Shared}{R:It->Hp->Prop}{E:Value->Shared->Prop}{lo hi:Int}{t u v:Tok}{tk:Nat}(I:Inv X pins σ H s)(h1:-(2 ^ 62)<=lo)(h2:lo<2 ^ 62)(h3:-(2 ^ 62)<=hi)(h4:hi<2 ^ 62)
  (q:R (Itr lo (hi-lo).toNat) H):wpAny (model X.prog X.w) X.A (pyIter (.ref s.heap.objs.size)) (PIE X pins σ tg R) E { s with heap:=s.heap.push { cls:=.type "range",data:=.fields #[.int lo t,.int hi u,.int 1 v] },toks:=tk }:=by
 refine wpAny_pyIter_range (IsRange.new ..) (small_one h1 h2 h3 h4) ?_;have I1:Inv X pins σ H { s with heap:=s.heap.push { cls:=.type "range",data:=.fields #[.int lo t,.int hi u,.int 1 v] },toks:=tk }:=I.kept fun b o e=>OR _ e;refine ⟨(s.heap.push { cls:=.type "range",data:=.fields #[.int lo t,.int hi u,.int 1 v] }).objs.size,[(s.heap.push { cls:=.type "range",data:=.fields #[.int lo t,.int hi u,.int 1 v] }).objs.size],_,_,H,rfl,
  I1.kept (t':=tk) fun b o e=>OR _ e,xy _ lo (hi-lo).toNat,?_,fun b hb=>?_,q⟩
 ·have e1:lo+((0:Nat):Int)*1=lo:=by simp
  have e2:(((hi-lo).toNat:Nat):Int)-((0:Nat):Int)=Builtin.Range.rangeSize lo hi 1:=by rw[rangeSize_one];split <;> omega
  show IsRangeIter _ _ (lo+((0:Nat):Int)*1) ((((hi-lo).toNat:Nat):Int)-((0:Nat):Int)) 1;rw[e1,e2];exact O5 _ rfl
 ·have e:b=(s.heap.push { cls:=.type "range",data:=.fields #[.int lo t,.int hi u,.int 1 v] }).objs.size:=by simpa using hb
  subst e;exact I1.fpOk (OX _) (I1.hok.fresh (OX _))
noncomputable def L9 (ta:TA):TI:=fun σ H R=>ta σ H fun vs H1=>∃j:Int,vs=[.int j]/\-(2 ^ 62)<=j/\j<2 ^ 62/\R (Itr 0 j.toNat) H1
noncomputable def LI (ta:TA):TI:=fun σ H R=>ta σ H fun vs H1=>∃i j:Int,vs=[.int i,.int j]/\(-(2 ^ 62)<=i/\i<2 ^ 62/\-(2 ^ 62)<=j/\j<2 ^ 62)/\R (Itr i (j-i).toNat) H1
theorem Aa {a:Expr}(hg:Gl X "range")(hm:X.mg "range"=none)(ha:PA X [a] ta)(hs:starEach [a] X.env=[(false,eval a X.env)]:=by rfl):PI X tg (.Call (.Name "range" p) [a] [] pos) (L9 ta):=by
 intro pins s σ H R I h;refine Call_ (jy I hg hm boot_range (P_ (thn (ha pos pins s σ H _ I h) fun us s1 ⟨vs,H1,I1,r1,q1⟩=>?_) hs rfl));obtain⟨j,e,q1,q2,q⟩:=q1;subst e;cases r1 with
 | cons r rr =>cases rr;obtain⟨t,rfl⟩:=r;exact call_range_1 (wC I1 (by omega) (by omega) q1 q2 (by simpa using q))
theorem A5 {a b:Expr}{ta:TA}{p pos:Pos}(hg:Gl X "range")(hm:X.mg "range"=none)(ha:PA X [a,b] ta)(hs:starEach [a,b] X.env=[(false,eval a X.env),(false,eval b X.env)]:=by rfl)(hs2:starEach [b] X.env=[(false,eval b X.env)]:=by rfl) :
  PI X tg (.Call (.Name "range" p) [a,b] [] pos) (LI ta):=by
 intro pins s σ H R I h;refine Call_ (jy I hg hm boot_range (P_ (thn (ha pos pins s σ H _ I h) fun us s1 ⟨vs,H1,I1,r1,q1⟩=>?_) (by rw[hs,hs2]) (by rw[hs2];rfl)));obtain⟨i,j,e,⟨q1,q2,q3,q4⟩,q⟩:=q1;subst e;cases r1 with
 | cons r rr =>
  cases rr with
  | cons r' rr =>cases rr;obtain⟨t,rfl⟩:=r;obtain⟨t',rfl⟩:=r';exact call_range_2 (wC I1 q1 q2 q3 q4 q)
noncomputable def HE (wi:TI)(g:TG)(tb:TS):TS:=fun D σ H=>wi σ H fun J H1=>∃W:Nat->Nat->St->Hp->Prop,(∃m,W 0 m σ H1)/\∀i m σ H,W i m σ H ->
 (J.stop i H/\D.nx σ H)\/(J.go i H/\∃N:St->Hp->Prop,(∀σ' H',N σ' H'->∃m',m'<m/\W (i+1) m' σ' H')/\∀x H',J.yld i H x H'->g x σ H' fun σ2 H2=>tb { D with nx:=N,ct:=N,bk:=D.nx } σ2 H2)
noncomputable def nU (fp:List Addr)(h:Heap):List (Addr × Obj):=fp.filterMap fun b=>(h.get? b).map fun o=>(b,o)
theorem dW {fp:List Addr}{h:Heap}{b:Addr}(hb:b∈fp)(e:h.get? b=some o):(b,o)∈nU fp h:=Q2.mpr ⟨b,hb,by rw[e];rfl⟩
theorem Ac {p:Addr × Obj}(hp:p∈nU fp h):p.1∈fp/\h.get? p.1=some p.2:=by
 obtain⟨b,hb,e⟩:=Q2.mp hp;cases q:h.get? b with
 | none=>rw[q] at e;cases e
 | some o =>rw[q] at e;have e':(b,o)=p:=P4 e;subst e';exact⟨hb,q⟩
theorem Inv.pinned {pins:List (Addr × Obj)}{σ:St}{H:Hp}{s:Shared}{fp:List Addr}(I:Inv X pins σ H s)(hf:∀b∈fp,jo X pins H b)(ho:∀b∈fp,∃o,s.heap.get? b=some o/\∀v,o.data≠.cell v):Inv X (pins++nU fp s.heap) σ H s :=
 I.pins_of fun p hp=>(P7.mp hp).elim (fun z=>I.pin p (PP _ z)) fun z=>by obtain⟨hb,e⟩:=Ac z;obtain⟨f0,f1,f2,_⟩:=hf p.1 hb;obtain⟨o,e',d⟩:=ho p.1 hb;rw[e] at e';cases e';exact⟨e,f0,f1,f2,d⟩
theorem Inv.unpinned {pins pl:List (Addr × Obj)}{σ:St}{H:Hp}{s:Shared}(I:Inv X (pins++pl) σ H s):Inv X pins σ H s:=I.pins_of fun p hp=>I.pin p (PP _ (QJ _ hp))
theorem CV (hp:PassesOwn (model X.prog X.w) X.A X.env X.xe)(hc:X.calm=true)(hi:PI X tg iter wi)(hg:PG X tg g)(hb:PSs X body tb)(hs:∀x,foldedSetIterable iter X.env x=pure x:=by intro _;rfl):PS X (.For tg iter body [] pos) (HE wi g tb):=by
 intro pins s σ H D I h;refine wpAny_For (thn (hi pins s σ H _ I h) fun v s1 h1=>thn h1 fun itv s2 h2=>?_) hs;obtain⟨it,fp,tn,J,H2,e,I2,T,st2,f2,W,⟨m0,w0⟩,turn⟩:=h2;subst e;have stat:∀ {H':Hp},(∀b∈fp,H' b=none)->∀b∈fp,jo X pins H' b:=fun hn b hb=>⟨hn b hb,(f2 b hb).2⟩;refine codeAny_forLoop_any (fun n s'=>∃i σ' H',Inv X pins σ' H' s'/\tn i s'.heap/\(∀b∈fp,H' b=none)/\W i n σ' H') ?_ m0 ⟨0,σ,H2,I2,st2,fun b hb=>(f2 b hb).1,w0⟩;rintro n s3 ⟨i,σ3,H3,I3,st3,fr3,w3⟩;rcases turn i n σ3 H3 w3 with⟨stop,qn⟩|⟨go,N,hN,step⟩
 ·refine wpAny_passesOwn hp (thn (T.done X rfl rfl rfl hc i pins s3 σ3 H3 X.xe I3 (stat fr3) st3 stop) fun r s4 ⟨hr,I4⟩=>?_);subst hr;exact wpAny_execs_nil ⟨σ3,H3,I4,qn⟩
 ·refine wpAny_passesOwn hp (thn (T.item X rfl rfl rfl hc i pins s3 σ3 H3 X.xe I3 (stat fr3) st3 go) fun r s4 ⟨u,hr,h4⟩=>?_);subst hr;refine wpAny_passesOwn hp (thn h4 fun _ s5 ⟨x,H5,I5,r5,y5,st5,fr5⟩=>?_);have I5':=I5.pinned (stat fr5) (T.obj _ _ st5);refine wpAny_passesOwn hp (thn (hg _ s5 σ3 H5 x u _ I5' r5 (step x H5 y5)) fun _ s6 ⟨σ6,H6,I6,q6⟩=>?_);refine wpAny_passesOwn hp (thn (hb _ s6 σ6 H6 _ I6 q6) fun f s7 q7=>?_);have again:∀ {σ7:St}{H7:Hp},Inv X (pins++nU fp s5.heap) σ7 H7 s7->N σ7 H7->∃m,m<n/\∃i σ' H',Inv X pins σ' H' s7/\tn i s7.heap/\(∀b∈fp,H' b=none)/\W i m σ' H':=fun {σ7 H7} I7 n7=>by obtain⟨m',hm,w7⟩:=hN σ7 H7 n7;refine⟨m',hm,i+1,σ7,H7,I7.unpinned,T.keep _ _ _ st5 fun b hb o e=>(I7.pin (b,o) (PP _ (PP _ (dW hb e)))).1,fun b hb=>?_,w7⟩;obtain⟨o,e,d⟩:=T.obj _ _ st5 b hb;exact(I7.pin (b,o) (PP _ (PP _ (dW hb e)))).2.1
  cases f with
  | next=>obtain⟨σ7,H7,I7,n7⟩:=q7;exact again I7 n7
  | cont=>obtain⟨σ7,H7,I7,n7⟩:=q7;exact again I7 n7
  | brk=>obtain⟨σ7,H7,I7,q7⟩:=q7;exact⟨σ7,H7,I7.unpinned,q7⟩
  | ret v=>obtain⟨x7,σ7,H7,I7,r7,q7⟩:=q7;exact⟨x7,σ7,H7,I7.unpinned,r7,q7⟩
end
end L2
namespace L2
noncomputable abbrev R2:=V->V->Hp->VK->Prop
def OpR (X:Cx)(f:Value->Value->Sem Value)(r:R2):Prop :=
 ∀(pins:List (Addr × Obj)) (s:Shared) (σ:St) (H:Hp) (x y:V) (v u:Value) (Q:VK),Inv X pins σ H s->RelV x v->RelV y u->r x y H Q ->
  wpAny (model X.prog X.w) X.A (f v u) (EP X pins σ Q) X.xe s
def UnR (X:Cx)(f:Value->Sem Value)(r:V->Hp->VK->Prop):Prop :=
 ∀(pins:List (Addr × Obj)) (s:Shared) (σ:St) (H:Hp) (x:V) (v:Value) (Q:VK),Inv X pins σ H s->RelV x v->r x H Q ->
  wpAny (model X.prog X.w) X.A (f v) (EP X pins σ Q) X.xe s
def dG (X:Cx)(f:Value)(r:List V->Hp->VK->Prop):Prop :=
 ∀(pins:List (Addr × Obj)) (s:Shared) (σ:St) (H:Hp) (xs:List V) (us:List Value) (Q:VK),Inv X pins σ H s->Vals xs us->r xs H Q ->
  wpAny (model X.prog X.w) X.A (call f us) (EP X pins σ Q) X.xe s
def N0 (X:Cx)(r:V->Hp->(Bool->Hp->Prop)->Prop):Prop :=
 ∀(pins:List (Addr × Obj)) (s:Shared) (σ:St) (H:Hp) (x:V) (v:Value) (Q:Bool->Hp->Prop),Inv X pins σ H s->RelV x v->r x H Q ->
  wpAny (model X.prog X.w) X.A (truthy v) (TP X pins σ Q) X.xe s
noncomputable def tOp (r:R2)(ta tb:TE):TE:=fun σ H Q=>ta σ H fun x H1=>tb σ H1 fun y H2=>r x y H2 Q
noncomputable def tUn (r:V->Hp->VK->Prop)(ta:TE):TE:=fun σ H Q=>ta σ H fun x H1=>r x H1 Q
noncomputable def rI (C:Int->Int->Prop)(g:Int->Int->V):R2:=fun x y H Q=>∃i j,x=.int i/\y=.int j/\C i j/\Q (g i j) H
noncomputable def rI0 (g:Int->Int->V):R2:=fun x y H Q=>∃i j,x=.int i/\y=.int j/\Q (g i j) H
noncomputable def rU (g:Int->V):V->Hp->VK->Prop:=fun x H Q=>∃i,x=.int i/\Q (g i) H
section
variable {X:Cx}{a b c:Expr}{ta tb tc:TE}{pos:Pos}
theorem Je (ha:PE X a ta)(hb:PE X b tb){pins:List (Addr × Obj)}{s:Shared}{σ:St}{H:Hp}{R:V->V->Hp->Prop}(I:Inv X pins σ H s)
  (h:ta σ H fun x H1=>tb σ H1 fun y H2=>R x y H2) {Q:Value->Shared->Prop}{f:Value->Value->Sem Value}
  (hf:∀v u s2 x y H2,Inv X pins σ H2 s2->RelV x v->RelV y u->R x y H2->wpAny (model X.prog X.w) X.A (f v u) Q X.xe s2) :
  wpAny (model X.prog X.w) X.A (eval a X.env) (fun v s₁=>wpAny (model X.prog X.w) X.A (eval b X.env) (fun u s₂=>wpAny (model X.prog X.w) X.A (f v u) Q X.xe s₂) X.xe s₁) X.xe s:=by
 refine thn (ha pins s σ H _ I h) fun v s1 ⟨x,H1,I1,r1,q1⟩=>?_;refine thn (hb pins s1 σ H1 _ I1 q1) fun u s2 ⟨y,H2,I2,r2,q2⟩=>?_;exact hf v u s2 x y H2 I2 r1 r2 q2
theorem MT (ho:OpR X (binaryOp op) r)(ha:PE X a ta)(hb:PE X b tb):PE X (.BinOp a op b pos) (tOp r ta tb):=by intro pins s σ H Q I h;exact wpAny_BinOp (Je ha hb I h fun v u s2 x y H2 I2 rx ry q=>ho pins s2 σ H2 x y v u Q I2 rx ry q)
theorem Ky (ho:UnR X (unaryOp op) r)(ha:PE X a ta):PE X (.UnaryOp op a pos) (tUn r ta):=by intro pins s σ H Q I h;exact UnaryOp_ (thn (ha pins s σ H _ I h) fun v s1 ⟨x,H1,I1,r1,q1⟩=>ho pins s1 σ H1 x v Q I1 r1 q1)
theorem opI {f:Value->Value->Sem Value}{C:Int->Int->Prop}{g:Int->Int->Int}
  (rule:∀(i j:Int) (t u:Tok) (s:Shared) (Q:Value->Shared->Prop) (E:Value->Shared->Prop),C i j->Q (.int (g i j) s.toks) { s with toks:=s.toks+1 }->wpAny (model X.prog X.w) X.A (f (.int i t) (.int j u)) Q E s) :
  OpR X f (rI C fun i j=>.int (g i j)):=by
 intro pins s σ H x y v u Q I rx ry h;obtain⟨i,j,rfl,rfl,hc,q⟩:=h;obtain⟨t,rfl⟩:=rx;obtain⟨t',rfl⟩:=ry;exact rule i j t t' s _ _ hc ⟨.int (g i j),H,I.tok _,⟨_,rfl⟩,q⟩
theorem Kv {f:Value->Value->Sem Value}{g:Int->Int->Int}
  (rule:∀(i j:Int) (t u:Tok) (s:Shared) (Q:Value->Shared->Prop) (E:Value->Shared->Prop),Q (.int (g i j) s.toks) { s with toks:=s.toks+1 }->wpAny (model X.prog X.w) X.A (f (.int i t) (.int j u)) Q E s) :
  OpR X f (rI0 fun i j=>.int (g i j)):=by
 intro pins s σ H x y v u Q I rx ry h;obtain⟨i,j,rfl,rfl,q⟩:=h;obtain⟨t,rfl⟩:=rx;obtain⟨t',rfl⟩:=ry;exact rule i j t t' s _ _ ⟨.int (g i j),H,I.tok _,⟨_,rfl⟩,q⟩
theorem Fz {f:Value->Value->Sem Value}{g:Int->Int->Bool}
  (rule:∀(i j:Int) (t u:Tok) (s:Shared) (Q:Value->Shared->Prop) (E:Value->Shared->Prop),Q (.bool (g i j)) s->wpAny (model X.prog X.w) X.A (f (.int i t) (.int j u)) Q E s) :
  OpR X f (rI0 fun i j=>.bl (g i j)):=by
 intro pins s σ H x y v u Q I rx ry h;obtain⟨i,j,rfl,rfl,q⟩:=h;obtain⟨t,rfl⟩:=rx;obtain⟨t',rfl⟩:=ry;exact rule i j t t' s _ _ ⟨.bl (g i j),H,I,rfl,q⟩
def yt (i j:Int):Prop:=0<=j/\j<=1000000/\i.natAbs<2 ^ 64
theorem GR:OpR X (binaryOp .Add) (rI0 fun i j=>.int (i+j)):=Kv fun _ _ _ _ _ _ _ q=>add_int q
theorem HY:OpR X (binaryOp .Sub) (rI0 fun i j=>.int (i-j)):=Kv fun _ _ _ _ _ _ _ q=>sub_int q
theorem Jg:OpR X (binaryOp .Mod) (rI (fun _ j=>0<j) fun i j=>.int (i % j)):=opI fun i j _ _ _ _ _ hc q=>by have h1:(0:Int)<j:=hc;exact mod_int' (by omega) (by rw[Int.fmod_eq_emod_of_nonneg i (by omega)];exact q)
theorem HZ:OpR X (binaryOp .Pow) (rI yt fun i j=>.int (i ^ j.toNat)):=opI fun _ _ _ _ _ _ _ hc q=>pow_int_small hc.1 hc.2.1 hc.2.2 q
theorem unI {f:Value->Sem Value}{g:Int->Int}
  (rule:∀(i:Int) (t:Tok) (s:Shared) (Q:Value->Shared->Prop) (E:Value->Shared->Prop),Q (.int (g i) s.toks) { s with toks:=s.toks+1 }->wpAny (model X.prog X.w) X.A (f (.int i t)) Q E s) :
  UnR X f (rU fun i=>.int (g i)):=by
 intro pins s σ H x v Q I rx h;obtain⟨i,rfl,q⟩:=h;obtain⟨t,rfl⟩:=rx;exact rule i t s _ _ ⟨.int (g i),H,I.tok _,⟨_,rfl⟩,q⟩
theorem JS:UnR X (unaryOp .USub) (rU fun i=>.int (-i)):=unI fun _ _ _ _ _ q=>neg_int q
end
noncomputable def ME:V->V->Bool
 | .non,.non=>true | .non,.int _=>true | .int _,.non=>true | .non,.bl _=>true | .bl _,.non=>true | .non,.str _=>true | .str _,.non=>true
 | .int _,.int _=>true | .bl _,.bl _=>true | .str _,.str _=>true | .byt _,.byt _=>true
 | .int _,.str _=>true | .str _,.int _=>true | .bl _,.str _=>true | .str _,.bl _=>true
 | _,_=>false
noncomputable def rEq:R2:=fun x y H Q=>ME x y=true/\Q (.bl (decide (x=y))) H
noncomputable def rNe:R2:=fun x y H Q=>ME x y=true/\Q (.bl (!decide (x=y))) H
theorem y8 {i j:Int}:decide (V.int i=V.int j)=(i == j):=by rw[RN];simp
theorem Dl {i j:Bool}:decide (V.bl i=V.bl j)=(i == j):=by rw[RN];simp
theorem yY:decide (V.str i=V.str j)=(i == j):=by rw[RN];simp
theorem zo {i j:Array UInt8}:decide (V.byt i=V.byt j)=(i.toList == j.toList):=by rw[RN];cases i;cases j;simp
section
variable {X:Cx}{a b c:Expr}{ta tb tc:TE}{pos:Pos}
theorem aI {pins:List (Addr × Obj)}{σ:St}{H:Hp}{s:Shared}{Q:VK}{k k':Bool}(I:Inv X pins σ H s)(q:Q (.bl k) H)(e:k=k'):EP X pins σ Q (.bool k') s:=by subst e;exact⟨.bl k,H,I,rfl,q⟩
theorem BV:OpR X (compareOp .Eq) rEq:=by
 intro pins s σ H x y v u Q I rx ry h;obtain⟨hs,q⟩:=h;cases x with
 | non =>
  cases rx;cases y with
  | non=>cases ry;exact PySem.EqNone.eq_none_none (aI I q (by simp))
  | bl j=>cases ry;exact PySem.EqNone.eq_none_bool (aI I q (by simp))
  | int j=>obtain⟨t',rfl⟩:=ry;exact PySem.EqNone.eq_none_int (aI I q (by simp))
  | str j=>obtain⟨t',rfl⟩:=ry;exact PySem.EqNone.eq_none_str (aI I q (by simp))
  | _=>exact absurd (show false=true from hs) OS
 | bl i =>
  cases rx;cases y with
  | non=>cases ry;exact PySem.EqNone.eq_bool_none (aI I q (by simp))
  | bl j=>cases ry;exact eq_bool (aI I q Dl)
  | str j=>obtain⟨t',rfl⟩:=ry;exact PySem.EqMixed.eq_bool_str (aI I q (by simp))
  | _=>exact absurd (show false=true from hs) OS
 | int i =>
  obtain⟨t,rfl⟩:=rx;cases y with
  | non=>cases ry;exact PySem.EqNone.eq_int_none (aI I q (by simp))
  | int j=>obtain⟨t',rfl⟩:=ry;exact eq_int (aI I q y8)
  | str j=>obtain⟨t',rfl⟩:=ry;exact PySem.EqMixed.eq_int_str (aI I q (by simp))
  | _=>exact absurd (show false=true from hs) OS
 | str i =>
  obtain⟨t,rfl⟩:=rx;cases y with
  | non=>cases ry;exact PySem.EqNone.eq_str_none (aI I q (by simp))
  | bl j=>cases ry;exact PySem.EqMixed.eq_str_bool (aI I q (by simp))
  | int j=>obtain⟨t',rfl⟩:=ry;exact PySem.EqMixed.eq_str_int (aI I q (by simp))
  | str j=>obtain⟨t',rfl⟩:=ry;exact eq_str (aI I q yY)
  | _=>exact absurd (show false=true from hs) OS
 | byt i =>
  obtain⟨t,rfl⟩:=rx;cases y with
  | byt j=>obtain⟨t',rfl⟩:=ry;exact W.eq_bytes (aI I q zo)
  | _=>exact absurd (show false=true from hs) OS
 | _=>cases y <;> exact absurd (show false=true from hs) OS
theorem D3:OpR X (compareOp .NotEq) rNe:=by
 intro pins s σ H x y v u Q I rx ry h;obtain⟨hs,q⟩:=h;cases x with
 | non =>
  cases rx;cases y with
  | non=>cases ry;exact PySem.EqNone.ne_none_none (aI I q (by simp))
  | bl j=>cases ry;exact PySem.EqNone.ne_none_bool (aI I q (by simp))
  | int j=>obtain⟨t',rfl⟩:=ry;exact PySem.EqNone.ne_none_int (aI I q (by simp))
  | str j=>obtain⟨t',rfl⟩:=ry;exact PySem.EqNone.ne_none_str (aI I q (by simp))
  | _=>exact absurd (show false=true from hs) OS
 | bl i =>
  cases rx;cases y with
  | non=>cases ry;exact PySem.EqNone.ne_bool_none (aI I q (by simp))
  | bl j=>cases ry;exact ne_bool (aI I q (PU not Dl))
  | str j=>obtain⟨t',rfl⟩:=ry;exact PySem.EqMixed.ne_bool_str (aI I q (by simp))
  | _=>exact absurd (show false=true from hs) OS
 | int i =>
  obtain⟨t,rfl⟩:=rx;cases y with
  | non=>cases ry;exact PySem.EqNone.ne_int_none (aI I q (by simp))
  | int j=>obtain⟨t',rfl⟩:=ry;exact ne_int (aI I q (PU not y8))
  | str j=>obtain⟨t',rfl⟩:=ry;exact PySem.EqMixed.ne_int_str (aI I q (by simp))
  | _=>exact absurd (show false=true from hs) OS
 | str i =>
  obtain⟨t,rfl⟩:=rx;cases y with
  | non=>cases ry;exact PySem.EqNone.ne_str_none (aI I q (by simp))
  | bl j=>cases ry;exact PySem.EqMixed.ne_str_bool (aI I q (by simp))
  | int j=>obtain⟨t',rfl⟩:=ry;exact PySem.EqMixed.ne_str_int (aI I q (by simp))
  | str j=>obtain⟨t',rfl⟩:=ry;exact ne_str (aI I q (PU not yY))
  | _=>exact absurd (show false=true from hs) OS
 | byt i =>
  obtain⟨t,rfl⟩:=rx;cases y with
  | byt j=>obtain⟨t',rfl⟩:=ry;exact W.ne_bytes (aI I q (PU not zo))
  | _=>exact absurd (show false=true from hs) OS
 | _=>cases y <;> exact absurd (show false=true from hs) OS
theorem KG:OpR X (compareOp .Lt) (rI0 fun i j=>.bl (decide (i<j))):=Fz fun _ _ _ _ _ _ _ q=>lt_int q
theorem Mn:OpR X (compareOp .LtE) (rI0 fun i j=>.bl (decide (i<=j))):=Fz fun _ _ _ _ _ _ _ q=>le_int q
theorem LO:OpR X (compareOp .Gt) (rI0 fun i j=>.bl (decide (j<i))):=Fz fun _ _ _ _ _ _ _ q=>gt_int q
theorem K':OpR X (compareOp .GtE) (rI0 fun i j=>.bl (decide (j<=i))):=Fz fun _ _ _ _ _ _ _ q=>ge_int q
theorem AY:OpR X (compareOp .Lt) (fun x y H Q=>∃i j,x=.str i/\y=.str j/\Q (.bl (decide (i.cps.toList<j.cps.toList))) H):=by intro pins s σ H x y v u Q I rx ry h;obtain⟨i,j,rfl,rfl,q⟩:=h;obtain⟨t,rfl⟩:=rx;obtain⟨t',rfl⟩:=ry;exact lt_str (aI I q rfl)
theorem Ah:OpR X (compareOp .In) (fun x y H Q=>∃i j,x=.str i/\y=.str j/\Q (.bl (!(Builtin.Str.occurrences j i 0 j.length 1).isEmpty)) H):=by intro pins s σ H x y v u Q I rx ry h;obtain⟨i,j,rfl,rfl,q⟩:=h;obtain⟨t,rfl⟩:=rx;obtain⟨t',rfl⟩:=ry;exact in_str (aI I q rfl)
theorem JL:OpR X (compareOp .Is) (fun x y H Q=>y=.non/\Q (.bl (decide (x=.non))) H):=by
 intro pins s σ H x y v u Q I rx ry h;obtain⟨rfl,q⟩:=h;cases ry;refine is_none_gen (aI I q ?_);cases x <;> first
  | (cases rx;rfl)
  | (obtain⟨t,rfl⟩:=rx;rfl)
theorem EA:OpR X (compareOp .IsNot) (fun x y H Q=>y=.non/\Q (.bl (!decide (x=.non))) H):=by
 intro pins s σ H x y v u Q I rx ry h;obtain⟨rfl,q⟩:=h;cases ry;refine isnot_none_gen (aI I q ?_);cases x <;> first
  | (cases rx;rfl)
  | (obtain⟨t,rfl⟩:=rx;rfl)
theorem FD (ho:OpR X (compareOp op) r)(ha:PE X a ta)(hb:PE X b tb)(hm:behindInMarks op b=false):PE X (.Compare a [op] [b] pos) (tOp r ta tb):=by intro pins s σ H Q I h;exact wpAny_Compare1 (Je ha hb I h fun v u s2 x y H2 I2 rx ry q=>ho pins s2 σ H2 x y v u Q I2 rx ry q) hm
noncomputable def L7 (t:TE):TT:=fun σ H Q=>t σ H fun x H'=>∃k,x=.bl k/\Q k H'
theorem EO (ho:OpR X (compareOp op) r)(ha:PE X a ta)(hb:PE X b tb)(hm:behindInMarks op b=false):PT X (.Compare a [op] [b] pos) (L7 (tOp r ta tb)):=by
 intro pins s σ H Q I h;refine wpAny_isTrue_Compare1 (thn (ha pins s σ H _ I h) fun v s1 ⟨x,H1,I1,r1,q1⟩=>thn (hb pins s1 σ H1 _ I1 q1) fun u s2 ⟨y,H2,I2,r2,q2⟩ =>
  thn (ho pins s2 σ H2 x y v u _ I2 r1 r2 q2) fun c s3 ⟨z,H3,I3,r3,k,e,q3⟩=>?_) hm
 subst e;cases r3;exact wpAny_truthy_bool ⟨H3,I3,q3⟩
def Jd (K:W.Frag)(x:V)(H:Hp)(k:Bool):Prop :=
 match x with
 | .non=>k=false
 | .bl b=>k=b
 | .int i=>k=(i != 0)
 | .str y=>y.length<=sizeLine/\k=((y.length:Int) != 0)
 | .byt y=>y.size<=sizeLine/\k=((y.size:Int) != 0)
 | .ref p=>(∃xs,SqL K H p xs/\k=!xs.isEmpty)\/(∃xs,SqT K H p xs/\k=!xs.isEmpty)\/∃kvs,H p=some (.dK kvs)/\k=!kvs.isEmpty
 | _=>False
theorem xn {κ:Type}{kvs:List (κ × V)}{vs:List (κ × Value)}(r:KV kvs vs):(!vs.isEmpty)=!kvs.isEmpty:=by cases r <;> rfl
theorem qO (r:Vals xs its):(!its.toArray.isEmpty)=!xs.isEmpty:=by cases r <;> simp
theorem kQ:(sizeLine:Nat)<2 ^ 63:=by rw[sizeLine_eq];decide
theorem GM:N0 X (fun x H Q=>∃k,Jd X.K x H k/\Q k H):=by
 intro pins s σ H x v Q I rx h;obtain⟨k,e,q⟩:=h;have hl:=kQ;have hs:sizeLine=16777216:=sizeLine_eq;cases x with
 | non =>cases rx;have e':k=false:=e;subst e';exact truthy_none ⟨H,I,q⟩
 | bl b =>cases rx;have e':k=b:=e;subst e';exact wpAny_truthy_bool ⟨H,I,q⟩
 | int i =>obtain⟨t,rfl⟩:=rx;have e':k=(i != 0):=e;subst e';exact PySem.P.truthy_int ⟨H,I,q⟩
 | str y =>obtain⟨t,rfl⟩:=rx;obtain⟨hy,e'⟩:y.length<=sizeLine/\k=((y.length:Int) != 0):=e;subst e';exact PySem.P.truthy_str (by omega) ⟨H,I.tok _,q⟩
 | byt y =>obtain⟨t,rfl⟩:=rx;obtain⟨hy,e'⟩:y.size<=sizeLine/\k=((y.size:Int) != 0):=e;subst e';exact W.truthy_bytes (by omega) ⟨H,I.tok _,q⟩
 | ref p =>
  cases rx;have e':(∃xs,SqL X.K H p xs/\k=!xs.isEmpty)\/(∃xs,SqT X.K H p xs/\k=!xs.isEmpty)\/∃kvs,H p=some (.dK kvs)/\k=!kvs.isEmpty:=e;rcases e' with⟨xs,hx,e'⟩|⟨xs,hx,e'⟩|⟨kvs,hx,e'⟩
  ·subst e';obtain⟨its,r,pl,hz⟩:=I.list hx;have hlen:=r.length;exact wpAny_truthy_list pl.isList (by simp only[List.size_toArray];omega) ⟨H,I.tok _,by rw[qO r];exact q⟩
  ·subst e';obtain⟨its,r,pl,hz⟩:=I.tuple hx;have hlen:=r.length;exact truthy_tuple pl (by simp only[List.size_toArray];omega) ⟨H,I.tok _,by rw[qO r];exact q⟩
  ·subst e';obtain⟨hz,hS,vs,r,m⟩:kvs.length<=sizeLine/\(p == sysModules)=false/\∃vs,KV kvs vs/\s.heap.DictOf (t_ X.prog X.w) p vs:=I.hok p _ hx;have hlen:kvs.length=vs.length:=Paired.length r;exact wpAny_truthy_dict hS m (by omega) ⟨H,I.tok _,by rw[xn r];exact q⟩
 | _=>exact(show False from e).elim
theorem hZ (ha:PE X a ta)(he:∀whole,isTrue a X.env whole=(do let v <-whole;standAt a.pos;holding [v] (truthy v))) :
  PT X a (fun σ H Q=>ta σ H fun x H'=>∃k,Jd X.K x H' k/\Q k H'):=by
 intro pins s σ H Q I h;exact isTrue_plain (thn (ha pins s σ H _ I h) fun v s1 ⟨x,H1,I1,r1,q1⟩=>GM pins s1 σ H1 x v Q I1 r1 q1) (he _)
theorem yw:OpR X (binaryOp .Add) (fun x y H Q=>∃i j,x=.str i/\y=.str j/\i.length+j.length<=sizeLine/\Q (.str (i++j)) H):=by intro pins s σ H x y v u Q I rx ry h;obtain⟨i,j,rfl,rfl,hz,q⟩:=h;obtain⟨t,rfl⟩:=rx;obtain⟨t',rfl⟩:=ry;exact add_str (fun t' tk=>⟨.str (i++j),H,I.tok _,⟨_,rfl⟩,q⟩) hz
theorem fe {x:V}(r:Vals [x] us):∃u,us=[u]/\RelV x u:=by
 cases r with
 | cons r1 r2=>cases r2;exact⟨_,rfl,r1⟩
theorem oa {x:V}(r:Vals [x,y] us):∃u w',us=[u,w']/\RelV x u/\RelV y w':=by
 cases r with
 | cons r1 r2 =>
  cases r2 with
  | cons r3 r4=>cases r4;exact⟨_,_,rfl,r1,r3⟩
theorem DD:dG X (.builtin "abs") (fun xs H Q=>∃i,xs=[.int i]/\Q (.int (if i<0 then -i else i)) H):=by intro pins s σ H xs us Q I r h;obtain⟨i,rfl,q⟩:=h;obtain⟨u,rfl,t,rfl⟩:=fe r;exact call_abs_int fun u tk=>⟨.int (if i<0 then -i else i),H,I.tok _,⟨_,rfl⟩,q⟩
theorem AS (hc:X.calm=true):dG X (.builtin "max") (fun xs H Q=>∃i j,xs=[.int i,.int j]/\Q (.int (if j > i then j else i)) H):=by
 intro pins s σ H xs us Q I r h;obtain⟨i,j,rfl,q⟩:=h;obtain⟨u,w',rfl,⟨t,rfl⟩,⟨t',rfl⟩⟩:=oa r;refine max_two_ints (I.ok.hd hc) fun h' tk k=>⟨_,H,I.kept k,?_,q⟩;by_cases hj:j > i
 ·rw[O0 hj,O0 hj];exact⟨_,rfl⟩
 ·rw[OY hj,OY hj];exact⟨_,rfl⟩
theorem Aj (hc:X.calm=true):dG X (.builtin "min") (fun xs H Q=>∃i j,xs=[.int i,.int j]/\Q (.int (if j<i then j else i)) H):=by
 intro pins s σ H xs us Q I r h;obtain⟨i,j,rfl,q⟩:=h;obtain⟨u,w',rfl,⟨t,rfl⟩,⟨t',rfl⟩⟩:=oa r;refine min_two_ints (I.ok.hd hc) fun h' tk k=>⟨_,H,I.kept k,?_,q⟩;by_cases hj:j<i
 ·rw[O0 hj,O0 hj];exact⟨_,rfl⟩
 ·rw[OY hj,OY hj];exact⟨_,rfl⟩
theorem Ak:dG X (.type "int") (fun xs H Q=>(∃i,xs=[.int i]/\Q (.int i) H)\/∃k,xs=[.bl k]/\Q (.int (if k then 1 else 0)) H):=by
 intro pins s σ H xs us Q I r h;rcases h with⟨i,rfl,q⟩|⟨k,rfl,q⟩
 ·obtain⟨u,rfl,t,rfl⟩:=fe r;exact call_int_int ⟨.int i,H,I,⟨_,rfl⟩,q⟩
 ·obtain⟨u,rfl,r1⟩:=fe r;cases r1;exact call_int_bool ⟨.int (if k then 1 else 0),H,I.tok _,⟨_,rfl⟩,q⟩
theorem tY:dG X (.type "str") (fun xs H Q=>∃i,xs=[.int i]/\i.natAbs.log2<1920/\Q (.str (toString i)) H):=by intro pins s σ H xs us Q I r h;obtain⟨i,rfl,hz,q⟩:=h;obtain⟨u,rfl,t,rfl⟩:=fe r;exact PySem.P.str_of_int hz ⟨.str _,H,I.tok _,⟨_,rfl⟩,q⟩
end
end L2
namespace L2
structure ObjM (h:Heap)(x dx C:Addr)(mA:Str->Option Value):Prop where
 obj:h.get? x=some (W.instObj C dx)
 ns:h.Ns1 dx mA
 ne:dx≠x
theorem Au {h:Heap}(n:h.Ns1 dx mA):∃od,h.get? dx=some od/\∀name,W.lookIn name od=some (mA name):=by
 obtain⟨o,es,ep,ho,hd,hk,_,hm⟩:=n;refine⟨o,ho,fun name=>?_⟩;have e:=hm name;unfold nsFind findBy at e;rw[<-Array.find?_toList] at e;unfold W.lookIn;rw[hd];dsimp only;split
 ·rename_i y q;rw[q] at e;exact PU some e
 ·rename_i q;rw[q] at e;have a:es.toList.any (·.refKey)=false:=by rw[List.any_eq_false];intro y hy;obtain⟨z,t,hkey⟩:=hk y (Array.mem_toList_iff.mp hy);simp[DictEntry.refKey,hkey]
  have a':¬es.toList.any (·.refKey)=true:=by rw[a];exact OS
  rw[OY a'];exact PU some e
theorem ObjM.look (I:ObjM h x dx C mA):∃od,W.InstAt h x (W.instObj C dx) C (some od)/\∀name,W.lookIn name od=some (mA name) :=
 let ⟨od,ho,hl⟩:=Au I.ns
 ⟨od,⟨I.obj,rfl,rfl,ho⟩,hl⟩
section
variable {prog:Program}{w:World}{A:Around}{E:Value->Shared->Prop}{s:Shared}{K:W.Frag}{x dx C f:Addr}{mA:Str->Option Value}{name:Str}{v:Value}
end
section
variable {P:Program}{w:World}{H H':Hp}{h h':Heap}{a C dx:Addr}{fs fs':List (Str × V)}
theorem E6 (hok:HOk P w H h)(e:H a=some (.ins C dx fs)):∃mA,ObjM h a dx C mA/\(∀f,HL (fs.lookup f) (mA f))/\PySem.Within mA (fs.map (·.1))/\fs.length<=1000/\H dx=some (.own a):=by obtain⟨d,z,ne,ob,mA,n,r,q⟩:=(show ObjOk P w H h a (.ins C dx fs) from hok a _ e);exact⟨mA,⟨ob,n,ne⟩,r,q,z,d⟩
end
structure Cls (K:W.Frag)(C:Addr):Prop where
 pg:W.plainGet K C Str.empty=true
 hd:W.hasDictIn K C=true
 po:W.plainOver K C=true
 sa:W.findIn K (.ref C) "__setattr__"=some (some (.builtin "object.__setattr__"))
theorem Cls.get (c:Cls K C)(f:Str):W.plainGet K C f=true:=c.pg
structure Con (K:W.Frag)(C:Addr)(f:Str)(v:V)(u:Value):Prop where
 at_:W.findIn K (.ref C) f=some (some u)
 rel:RelV v u
 get:W.specialIn K u "__get__"=some none
 cp:W.copiedNames.contains f=false
structure OO (K:W.Frag)(C:Addr)(m:Str)(f:Addr):Prop where
 at_:W.findIn K (.ref C) m=some (some (.ref f))
 fn:W.isFn K (.ref f)=true
 kp:W.keepIn K (.ref f)=true
section
variable {X:Cx}{pins:List (Addr × Obj)}{σ:St}{H:Hp}{s:Shared}{a C dx:Addr}{fs:List (Str × V)}{f:Str}{v:V}{A:Around}{E:Value->Shared->Prop}
end
section
variable {X:Cx}{o e value:Expr}{f:Str}{pos pos' tpos:Pos}{ta tv:TE}
end
section
variable {X:Cx}{pins:List (Addr × Obj)}{σ:St}{H:Hp}{s:Shared}{A:Around}{E:Value->Shared->Prop}{Q:Value->Shared->Prop}{c:Value}{b:Bool}
inductive oV (K:W.Frag)(H:Hp):V->Value->Prop where
 | non:oV K H .non (.type "NoneType")
 | bl (x:Bool):oV K H (.bl x) (.type "bool")
 | int (i:Int):oV K H (.int i) (.type "int")
 | str (x:Str):oV K H (.str x) (.type "str")
 | flt (x:UInt64):oV K H (.flt x) (.type "float")
 | lst {a:Addr} {xs:List V} (e:H a=some (.lst xs)):oV K H (.ref a) (.type "list")
 | frz {a:Addr} {o:Obj} {xs:List V} (e:H a=some (.frz o (.lst xs))):oV K H (.ref a) (.type "list")
 | tup {a:Addr} {xs:List V} (e:H a=some (.tup xs)):oV K H (.ref a) (.type "tuple")
 | dK {a:Addr} {kvs:List (Key × V)} (e:H a=some (.dK kvs)):oV K H (.ref a) (.type "dict")
 | dT {a:Addr} {kvs:List (List Key × V)} (e:H a=some (.dT kvs)):oV K H (.ref a) (.type "dict")
 | ins {a C dx:Addr} {fs:List (Str × V)} (e:H a=some (.ins C dx fs)) (cl:Cls K C) (ha:W.findIn K (.ref C) "__class__"=some (some (.builtin "object.__class__")))
   (hn:W.specialIn K (.builtin "object.__class__") "__get__"=some (some (.builtin "getset_descriptor.__get__"))) (htk:W.takesIn K (.builtin "object.__class__")=some true)
   (hm:W.mroIn K C (.type "object")=some true):oV K H (.ref a) (.ref C)
theorem fO (I:Inv X pins σ H s)(rx:RelV x u)(ty:oV X.K H x t)(e:W.kitOne X.K t c=some b)(h:∀tk,Q (.bool b) { s with toks:=tk }) :
  wpAny (model X.prog X.w) A (call (.builtin "isinstance") [u,c]) Q E s:=by
 cases ty with
 | non=>cases (show u=Value.none from rx);exact Q0 W.kitx_none I.kIn True.intro e (fun z=>nomatch z) h
 | bl y=>cases (show u=Value.bool y from rx);exact Q0 W.kitx_bool I.kIn True.intro e (fun z=>nomatch z) h
 | int i=>obtain⟨t,q⟩:=(show ∃t,u=Value.int i t from rx);cases q;exact Q0 W.kitx_int I.kIn True.intro e (fun z=>nomatch z) h
 | str y=>obtain⟨t,q⟩:=(show ∃t,u=Value.str y t from rx);cases q;exact Q0 W.kitx_str I.kIn True.intro e (fun z=>nomatch z) h
 | flt y=>obtain⟨t,q⟩:=(show ∃t,u=Value.float y t from rx);cases q;exact Q0 W.kitx_float I.kIn True.intro e (fun z=>nomatch z) h
 | @lst a xs ea =>cases (show u=Value.ref a from rx);obtain⟨_,_,n,_,h1⟩:=(show ObjOk X.prog X.w H s.heap a (.lst xs) from I.hok a _ ea);exact Q0 T4 I.kIn ⟨_,h1,rfl⟩ e (fun z=>nomatch z) h
 | @frz a ob xs ea =>cases (show u=Value.ref a from rx);obtain⟨_,_,_,n,_,h1⟩:=(show ObjOk X.prog X.w H s.heap a (.frz ob (.lst xs)) from I.hok a _ ea);exact Q0 T4 I.kIn ⟨_,h1,rfl⟩ e (fun z=>nomatch z) h
 | @tup a xs ea =>cases (show u=Value.ref a from rx);obtain⟨_,_,_,p⟩:=(show ObjOk X.prog X.w H s.heap a (.tup xs) from I.hok a _ ea);obtain⟨o,h1,h2,_⟩:=p;exact Q0 W.kitx_tuple I.kIn ⟨o,h1,h2⟩ e (fun z=>nomatch z) h
 | @dK a kvs ea =>cases (show u=Value.ref a from rx);obtain⟨_,_,vs,_,p⟩:=(show ObjOk X.prog X.w H s.heap a (.dK kvs) from I.hok a _ ea);obtain⟨o,es,ep,h1,h2,_⟩:=p;exact Q0 T5 I.kIn ⟨o,h1,h2.1⟩ e (fun z=>nomatch z) h
 | @dT a kvs ea =>cases (show u=Value.ref a from rx);obtain⟨_,_,xs,_,o,es,ep,h1,h2,_⟩:=(show ObjOk X.prog X.w H s.heap a (.dT kvs) from I.hok a _ ea);exact Q0 T5 I.kIn ⟨o,h1,h2.1⟩ e (fun z=>nomatch z) h
 | @ins a C dx fs ea cl ha hn htk hm =>cases (show u=Value.ref a from rx);obtain⟨mA,O,_⟩:=E6 I.hok ea;obtain⟨od,J,_⟩:=O.look;exact Q0 (W.kitx_own (cl.get _) cl.hd ha hn htk hm) I.kIn J e (fun z=>nomatch z) h
end
end L2
namespace L2
structure Room (k:Nat)(A:Around):Prop where
 hd:A.handled=none
 dp:A.depth+3*k+5<recursionLimit
 un:A.units+16*k+200<cLine
 gd:A.guards=some []
theorem Room.mono {j k:Nat}(r:Room k A)(h:j<=k):Room j A:=⟨r.hd,by have:=r.dp;omega,by have:=r.un;omega,r.gd⟩
theorem Room.deeper {k:Nat}(r:Room (k+1) A)(env:Env):Room k (A.deeper env) :=
 ⟨r.hd,by have:=r.dp;show A.depth+1+3*k+5<_;omega,by have:=r.un;show A.units+3+16*k+200<_;omega,r.gd⟩
theorem Room.depth {k:Nat}(r:Room k A):A.depth<recursionLimit:=by have:=r.dp;omega
theorem Room.units {k:Nat}(r:Room k A):A.units+64<cLine:=by have:=r.un;omega
noncomputable def kb:TA:=fun _ H Q=>Q [] H
noncomputable def cy (ta:TE)(tr:TA):TA:=fun σ H Q=>ta σ H fun x H1=>tr σ H1 fun xs H2=>Q (x::xs) H2
section
variable {X:Cx}{e:Expr}{es:List Expr}{te:TE}{t:TA}{pos:Pos}
theorem bX:PA X [] kb:=fun _ _ _ _ H Q I h=>Calls.spliced_nil ⟨[],H,I,.nil,h⟩
theorem Fc (ha:PE X e te)(hr:PA X es t)(hs:starEach (e::es) X.env=(false,eval e X.env)::starEach es X.env:=by rfl):PA X (e::es) (cy te t):=by intro pos pins s σ H Q I h;rw[hs];show wpAny _ _ (spliced ((false,eval e X.env)::backTo pos (starEach es X.env))) _ _ s;refine Calls.spliced_cons (thn (ha pins s σ H _ I h) fun u s1 ⟨x,H1,I1,r1,q1⟩=>?_);exact thn (hr pos pins s1 σ H1 _ I1 q1) fun us s2 ⟨xs,H2,I2,r2,q2⟩=>⟨x::xs,H2,I2,.cons r1 r2,q2⟩
noncomputable def Kh (t:TA):TE:=fun σ H Q=>t σ H fun xs H1=>xs.length<=sizeLine/\∀p,H1 p=none->Q (.ref p) (upd H1 p (.tup xs))
noncomputable def Oo (t:TA):TE:=fun σ H Q=>t σ H fun xs H1=>xs.length<=sizeLine/\∀p,H1 p=none->Q (.ref p) (upd H1 p (.lst xs))
theorem ua {x1}(h:PA X es t):PE X (.Tuple es x1 pos) (Kh t):=by intro pins s σ H Q I hq;refine wpAny_Tuple_spliced (thn (h pos pins s σ H _ I hq) fun us s1 ⟨xs,H1,I1,r,z,q⟩=>⟨by rw[<-r.length];exact z,?_⟩);have hf:H1 s1.heap.objs.size=none:=I1.hok.fresh (OX _);refine⟨.ref s1.heap.objs.size,upd H1 s1.heap.objs.size (.tup xs),I1.laid (t':=s1.toks) (fun b u e=>OR _ e) (OX _) ?_,rfl,q _ hf⟩;exact⟨z,us,r,⟨_,O5 _ rfl,rfl,_,rfl⟩⟩
theorem GJ (h:PA X es t):PE X (.List es pos) (Oo t):=by intro pins s σ H Q I hq;refine wpAny_List_spliced (thn (h pos pins s σ H _ I hq) fun us s1 ⟨xs,H1,I1,r,z,q⟩=>⟨by rw[<-r.length];exact z,?_⟩);have hf:H1 s1.heap.objs.size=none:=I1.hok.fresh (OX _);refine⟨.ref s1.heap.objs.size,upd H1 s1.heap.objs.size (.lst xs),I1.laid (t':=s1.toks) (fun b u e=>OR _ e) (OX _) ?_,rfl,q _ hf⟩;exact⟨z,us,0,r,O5 _ rfl⟩
end
noncomputable abbrev Sp:=List V->Hp->VK->XK->Prop
noncomputable abbrev CXT:=List Env->Hp->Shared->XK->Value->Shared->Prop
structure A3 (P:Program)(w:World)(K:W.Frag)(mg:Str->Option Value)(base:Heap)(A:Around)(outer:List Env)(s:Shared)(H:Hp):Prop where
 frames:A.frames=some outer
 mod:Mod K mg base
 bs:∀b o,base.get? b=some o->s.heap.get? b=some o/\H b=none
 bsz:base.objs.size<=s.heap.objs.size
 funs:s.heap.FunFrames base outer
 frf:∀b∈frs outer,H b=none
 hok:HOk P w H s.heap
 bare:AllBare s.gens
def CE (outer:List Env)(P:Program)(w:World)(H:Hp)(s:Shared)(Q:VK)(u:Value)(s':Shared):Prop :=
 ∃v H',s'.os=s.os/\AllBare s'.gens/\Un (frs outer) [] H H' s.heap s'.heap/\HOk P w H' s'.heap/\RelV v u/\Q v H'
def CR (CX:CXT)(outer:List Env)(P:Program)(w:World)(H:Hp)(s:Shared)(Q:VK)(E:XK)(r:Result)(s':Shared):Prop :=
 match r with
 | .ok (.ret u)=>CE outer P w H s Q u s'
 | .ok _=>False
 | .error e=>CX outer H s E e s'
structure pd (P:Program)(w:World)(K:W.Frag)(mg:Str->Option Value)(base:Heap)(CX:CXT)(k:Nat)(f:Addr)(fd:FuncData)(ps:List Str)(sp:Sp):Prop where
 len:∀vs H Q E,sp vs H Q E->vs.length=ps.length
 run:∀(A:Around) (outer:List Env) (s:Shared) (H:Hp) (args:Args) (us:List Value) (vs:List V) (Q:VK) (E:XK),Room k A->A3 P w K mg base A outer s H->BindsTo s fd args (ps.zip us)->Vals vs us->sp vs H Q E ->
  codeAny (model P w) A (.call (.ref f) args) (CR CX outer P w H s Q E) s
section
variable {X:Cx}{pins:List (Addr × Obj)}{σ:St}{H:Hp}{s s':Shared}
theorem Inv.env0 (I:Inv X pins σ H s):A3 X.prog X.w X.K X.mg X.base X.A X.stack s H :=
 ⟨I.ok.frames,I.ok.mod,I.bs,O7 I.ok.bsz I.sz,I.stack,I.stkFree,I.hok,I.bare⟩
theorem Inv.after (I:Inv X pins σ H s)(h:CE X.stack X.prog X.w H s Q u s'):EP X pins σ Q u s':=by obtain⟨v,H',os,bare,un,hok,r,q⟩:=h;obtain⟨hh,g,d,t,os'⟩:=s';obtain rfl:os'=s.os:=os;exact⟨v,H',I.call (h':=hh) (g':=g) (d':=d) (t':=t) (ch:=[]) un hok bare (fun b z=>absurd z (by simp)),r,q⟩
end
noncomputable def lj (sp:Sp)(dvs:List V)(E:XK)(t:TA):TE:=fun σ H Q=>t σ H fun vs H1=>sp (vs++dvs) H1 Q E
def Binds (K:W.Frag)(fd:FuncData)(ps:List Str)(ds:List Value):Prop :=
 ∀(s:Shared) (us:List Value),K.In s.heap->(us++ds).length=ps.length->BindsTo s fd ⟨us,[]⟩ (ps.zip (us++ds))
theorem Binds.all {ps:List Str}(h:∀us:List Value,us.length=ps.length->bindArgs fd ⟨us,[]⟩=pure (ps.zip us)):Binds K fd ps []:=fun s us _ hl=>by
 rw[Q7] at hl |-
 exact .of_eq (h us hl)
def rg (CX:CXT)(X:Cx)(E:XK):Prop:=∀(pins:List (Addr × Obj)) (σ:St) (H:Hp) (s:Shared) (e:Value) (s':Shared),Inv X pins σ H s->CX X.stack H s E e s'->X.xe e s'
section
variable {X:Cx}{CX:CXT}{k:Nat}{f C:Addr}{fd:FuncData}{ps:List Str}{sp:Sp}{dvs:List V}{ds:List Value}{E:XK}{x m:Str}{p pos apos:Pos}{e o:Expr}{es:List Expr}{ta:TE}{t:TA}
theorem B2 {pins:List (Addr × Obj)}{σ:St}{H:Hp}{s:Shared}{Q:VK}{us:List Value}{vs:List V}(F:pd X.prog X.w X.K X.mg X.base CX k f fd ps sp)(hr:Room k X.A)(hb:Binds X.K fd ps ds)(hd:Vals dvs ds)(hx:rg CX X E)
  (I:Inv X pins σ H s) (r:Vals vs us) (h:sp (vs++dvs) H Q E):wpAny (model X.prog X.w) X.A (call (.ref f) us) (EP X pins σ Q) X.xe s:=by
 have r2:Vals (vs++dvs) (us++ds):=r.append hd;have hl:(us++ds).length=ps.length:=by rw[<-r2.length];exact F.len _ _ _ _ h
 refine wpAny_call (codeAny_mono (F.run X.A X.stack s H ⟨us,[]⟩ (us++ds) (vs++dvs) Q E hr I.env0 (hb s us I.kIn hl) r2 h) fun r s' hq=>?_);cases r with
 | error e=>exact hx pins σ H s e s' I hq
 | ok fl =>
  cases fl with
  | ret u=>exact I.after hq
  | next=>exact False.elim hq
  | brk=>exact False.elim hq
  | cont=>exact False.elim hq
theorem yR (F:pd X.prog X.w X.K X.mg X.base CX k f fd ps sp)(hr:Room k X.A)(hg:Gl X x)(hm:X.mg x=some (.ref f))(hk:W.keepIn X.K (.ref f)=true)(hb:Binds X.K fd ps ds)(hd:Vals dvs ds)(hx:rg CX X E)
  (ha:PA X (e::es) t) (hdb:(x == ("__debug__":Str))=false:=by decide) (he:starEach (e::es) X.env=(false,eval e X.env)::starEach es X.env:=by rfl) (hpl:(backTo pos (starEach es X.env)).any (·.1)=false:=by rfl) :
  PE X (.Call (.Name x p) (e::es) [] pos) (lj sp dvs E t):=by
 intro pins s σ H Q I h;refine wpAny_Call_Name_kw (jK I hg hm ?_ hdb);refine W.callWith_K (h₀:=X.base) I.ok.mod.kin hk (thn (ha pos pins s σ H _ I h) fun us s1 ⟨vs,H1,I1,r,q⟩=>⟨I1.kIn,?_⟩) he hpl;exact B2 F hr hb hd hx I1 r q
theorem Cg (F:pd X.prog X.w X.K X.mg X.base CX k f fd ps sp)(hr:Room k X.A)(hg:Gl X x)(hm:X.mg x=some (.ref f))(hk:W.keepIn X.K (.ref f)=true)(hb:Binds X.K fd ps ds)(hd:Vals dvs ds)(hx:rg CX X E)
  (hdb:(x == ("__debug__":Str))=false:=by decide):PE X (.Call (.Name x p) [] [] pos) (lj sp dvs E kb):=by
 intro pins s σ H Q I h;refine wpAny_Call_Name_kw (jK I hg hm ?_ hdb);exact W.callWith_K0 I.kIn hk (B2 (us:=[]) F hr hb hd hx I .nil h)
structure Mk (K:W.Frag)(C f:Addr):Prop where
 makes:W.makesIn K C=true
 init:W.findIn K (.ref C) "__init__"=some (some (.ref f))
 fn:W.isFn K (.ref f)=true
 kp:W.keepIn K (.ref C)=true
end
section
variable {X:Cx}{CX:CXT}{k:Nat}{f C:Addr}{fd:FuncData}{ps ks:List Str}{sp:Sp}{E:XK}{x m:Str}{p pos apos kpos:Pos}{e o:Expr}{es:List Expr}{kws:List Keyword}{te ta:TE}{t tk:TA}{nm:Option Str}
structure OA (K:W.Frag)(fd:FuncData)(ps ks:List Str)(g:List Value->List Value->List Value)(gV:List V->List V->List V):Prop where
 to:∀(s:Shared) (us ws:List Value),K.In s.heap->(g us ws).length=ps.length->BindsTo s fd ⟨us,ks.zip ws⟩ (ps.zip (g us ws))
 rel:∀ {vs:List V}{us:List Value}{zs:List V}{ws:List Value},Vals vs us->Vals zs ws->Vals (gV vs zs) (g us ws)
variable {g:List Value->List Value->List Value}{gV:List V->List V->List V}
end
structure aj (N P:List Str)(sc:Scope):Prop where
 kind:sc.kind=.function
 co:sc.isCoroutine=false
 gen:sc.isGenerator=false
 nd:N.Nodup
 pre:N.take P.length=P
 par:∀x∈P,sc.names.lookup x=some .local\/sc.names.lookup x=some .cell
 nofree:∀y∈sc.names,y.2≠.free
theorem tm {kindOf:Str->Option NameKind}{x:Str}:∀ {binds:List (Str × Value)}{m:Str->Option Value},(∀v,(x,v) ∉ binds)->bindL kindOf binds m x=m x
 | [],_,_=>rfl
 | (n,v)::r,m,h=>by
  unfold bindL;rw[tm fun w hw=>h w (OV _ hw)];split
  ·have:x≠n:=by rintro rfl;exact h v PD
   simp[this]
  ·rfl
theorem sA {kindOf:Str->Option NameKind}{x:Str}:∀ {binds:List (Str × Value)}{m:Str->Option Value},(∀v,(x,v) ∉ binds)->bindC kindOf binds m x=m x
 | [],_,_=>rfl
 | (n,v)::r,m,h=>by
  unfold bindC;rw[sA fun w hw=>h w (OV _ hw)];split
  ·rfl
  ·have:x≠n:=by rintro rfl;exact h v PD
   simp[this]
theorem sQ {kindOf:Str->Option NameKind}:∀ {P:List Str}{vs:List Value}{i:Nat}{m:Str->Option Value},P.Nodup->P[i]?=some x->vs[i]?=some v->kindOf x=some .local ->
  bindL kindOf (P.zip vs) m x=some v
 | [],_,_,_,_,h,_,_=>by simp at h
 | _::_,[],_,_,_,_,h,_=>by simp at h
 | p::P,w::vs,0,m,nd,h1,h2,hk=>by simp at h1 h2;subst h1;subst h2;show bindL kindOf ((p,w)::P.zip vs) m p=_;unfold bindL;rw[tm fun v hv=>(O4.mp nd).1 (TN hv).1,O0 hk];simp
 | p::P,w::vs,i+1,m,nd,h1,h2,hk=>by show bindL kindOf ((p,w)::P.zip vs) m x=_;unfold bindL;exact sQ (i:=i) (O4.mp nd).2 (by simpa using h1) (by simpa using h2) hk
theorem sO {kindOf:Str->Option NameKind}:∀ {P:List Str}{vs:List Value}{i:Nat}{m:Str->Option Value},P.Nodup->P[i]?=some x->vs[i]?=some v->kindOf x≠some .local ->
  bindC kindOf (P.zip vs) m x=some v
 | [],_,_,_,_,h,_,_=>by simp at h
 | _::_,[],_,_,_,_,h,_=>by simp at h
 | p::P,w::vs,0,m,nd,h1,h2,hk=>by simp at h1 h2;subst h1;subst h2;show bindC kindOf ((p,w)::P.zip vs) m p=_;unfold bindC;rw[sA fun v hv=>(O4.mp nd).1 (TN hv).1,OY hk];simp
 | p::P,w::vs,i+1,m,nd,h1,h2,hk=>by show bindC kindOf ((p,w)::P.zip vs) m x=_;unfold bindC;exact sO (i:=i) (O4.mp nd).2 (by simpa using h1) (by simpa using h2) hk
noncomputable def start (N:List Str)(vs:List V):St:=vs.map some++List.replicate (N.length-vs.length) none
noncomputable def j7 (CX:CXT)(P:Program)(w:World)(K:W.Frag)(mg:Str->Option Value)(base:Heap)(N:List Str)(qual:Str)(scope:Scope)(f:Addr)(cd:Value)(A:Around)(outer:List Env)(s:Shared)(H:Hp)(E:XK):Cx where
 prog:=P
 w:=w
 K:=K
 mg:=mg
 base:=base
 A:=A.deeper (envOfC qual scope s.heap.objs.size f cd)
 N:=N
 s₀:=s
 H₀:=H
 env:=envOfC qual scope s.heap.objs.size f cd
 outer:=outer
 stack:=envOfC qual scope s.heap.objs.size f cd::outer
 ex:=[]
 calm:=true
 fn:=fun _=>true
 pn:=[]
 xe:=fun e s'=>wpAny (model P w) (A.deeper (envOfC qual scope s.heap.objs.size f cd)) (leaving (envOfC qual scope s.heap.objs.size f cd) e) (fun _ s''=>CX outer H s E e s'') (fun e' s''=>CX outer H s E e' s'') s'
theorem v5 {sc:Scope}{n:Nat}(h:sc.names.lookup x=some .cell):∃c,(cellsFrom n sc.names []).lookup x=some c:=by have q:=W.cellsFrom_some sc.names n [] (.inl h);exact Option.isSome_iff_exists.mp q
theorem As {A:Around}{E:XK}{vs:List V}(S:aj N ps scope)(hd:A.handled=none)(e0:A3 P w K mg base A outer s H)(hl:vs.length=ps.length)(r:Vals vs us)(x:InCallC s s.heap.objs.size (bindL (envOfC qual scope s.heap.objs.size f cd).kindOf (ps.zip us) fun _=>none) (cellsFrom (s.heap.objs.size+1) scope.names []) (bindC (envOfC qual scope s.heap.objs.size f cd).kindOf (ps.zip us) fun _=>none) s1) :
  Inv (j7 CX P w K mg base N qual scope f cd A outer s H E) [] (start N vs) H s1:=by
 have hpl:ps.length<=N.length:=by have:=PU List.length S.pre;rw[P8] at this;omega
 obtain⟨h1,tk,rfl,hk⟩:=x.done;have noA:∀b:Addr,b ∉ (j7 CX P w K mg base N qual scope f cd A outer s H E).ex:=fun b z=>absurd (show b∈([]:List Addr) from z) (by simp);refine⟨⟨e0.mod,S.kind,rfl,rfl,OX _,fun y z c h1 h2=>?_,fun y hy=>?_,fun y c _ h=>?_,fun _=>hd,Around.frames_deeper e0.frames,.inr ⟨rfl,rfl⟩,fun b z=>absurd z (noA b),e0.bs,e0.bsz,fun b _ _=>noA b,fun b z=>absurd z (noA b),e0.funs,e0.frf⟩,
  rfl,e0.bare,Un.kept hk,⟨_,x.toInCall.ns,fun i y v h1 h2 h3=>?_⟩,fun y c h=>⟨_,x.cell y c h⟩,e0.hok.fresh (OX _),fun y c h=>?_,fun p hp=>absurd (show p∈([]:List (Addr × Obj)) from hp) (by simp),e0.hok.kept hk,?_⟩
 ·exact name_of_addr x.apart (QG h1) (QG h2)
 ·have hy:scope.names.lookup y=some .cell\/scope.names.lookup y=some .free:=hy;rcases hy with hy|hy
  ·exact v5 hy
  ·exact absurd rfl (S.nofree _ (QG hy))
 ·exact QN (x.above y c (QG h))
 ·have hi:i<vs.length:=by
   unfold start at h2;by_cases hi:i<vs.length
   ·exact hi
   ·rw[PB (by simpa using hi)] at h2;rw[List.getElem?_replicate] at h2;split at h2 <;> cases h2
  have ha:vs[i]?=some v:=by
   unfold start at h2;rw[O_ (by simpa using hi),PC] at h2;cases e:vs[i]? with
   | none=>rw[e] at h2;cases h2
   | some a=>rw[e] at h2;cases h2;rfl
  obtain⟨u,hu,rv⟩:=r.get ha;have hp:ps[i]?=some y:=by rw[<-S.pre,RB (by omega)];exact h1
  have ndP:ps.Nodup:=by rw[<-S.pre];exact S.nd.sublist (List.take_sublist _ _)
  refine⟨u,rv,?_⟩;rcases S.par y (OZ hp) with k|k
  ·exact .inl ⟨k,sQ ndP hp hu k⟩
  ·obtain⟨c,e⟩:=v5 (n:=s.heap.objs.size+1) k;refine .inr ⟨.inl k,c,e,?_⟩;have q:=x.cell y c e;rw[sO ndP hp hu (by show scope.names.lookup y≠_;rw[k];decide)] at q;exact q
 ·exact e0.hok.fresh (QN (x.above y c (QG h)))
 ·unfold start;show _=N.length;rw[PL,O1,List.length_replicate];omega
theorem F_ {K:W.Frag}{k:Nat}{name qual:Str}{params:Arguments}{body:List Stmt}{scope:Scope}{dV kV doc pm cdv ct:Value}{an:Option Addr}(lk:K.lookup f=some ⟨oc,od,.func (W.fnOf name qual params body scope dV kV doc pm an cdv ct),osl⟩)(hcd:W.codeIn K cdv qual=true)(S:aj N ps scope)(len:∀vs H Q E,sp vs H Q E->vs.length=ps.length)(hbody:∀(A:Around) (outer:List Env) (s:Shared) (H:Hp) (vs:List V) (Q:VK) (E:XK),Room k (A.deeper (envOfC qual scope s.heap.objs.size f cdv))->sp vs H Q E ->
   ∃t,PSs (j7 CX P w K mg base N qual scope f cdv A outer s H E) body t/\t { nx:=fun _ H'=>Q .non H',rt:=Q } (start N vs) H) :
  pd P w K mg base CX (k+1) f (W.fnOf name qual params body scope dV kV doc pm an cdv ct) ps sp:=by
 refine⟨len,fun A outer s H args us vs Q E hr e0 hb r hsp=>?_⟩;have hl:=len _ _ _ _ hsp;have KX:K.In s.heap:=e0.mod.kin.keeps fun b o e=>(e0.bs b o e).1;have lim:s.heap.NoLimit:=e0.mod.nolimit.keeps fun b o e=>(e0.bs b o e).1;have hkind:∀y∈ps.zip us,scope.names.lookup y.1=some .local\/(scope.names.lookup y.1=some .cell/\((cellsFrom (s.heap.objs.size+1) scope.names []).lookup y.1).isSome=true):=fun ⟨n,v⟩ hy=>by
  rcases S.par n (TN hy).1 with q|q
  ·exact .inl q
  ·exact .inr ⟨q,W.cellsFrom_some _ _ _ (.inl q)⟩
 refine codeAny_call_function hr.depth (KX _ _ lk) rfl S.co S.gen rfl (W.codeRec_of KX hcd) (hb _ _ _ _ ?_);refine wpAny_newFunctionEnv_cells S.kind hkind fun env he s1 x=>?_;subst he;refine⟨lim.keeps x.toInCall.keep,codeAny_func ?_⟩;obtain⟨t,ht,hq⟩:=hbody A outer s H vs Q E (hr.deeper _) hsp;have I:Inv (j7 CX P w K mg base N qual scope f cdv A outer s H E) [] (start N vs) H s1:=As S hr.hd e0 hl r x;refine wpAny_mono (ht [] s1 (start N vs) H _ I hq) (fun fl s' hs=>?_) fun e s' hs=>hs;have fin:∀ {σ':St}{H':Hp}{v:V}{u:Value},Inv (j7 CX P w K mg base N qual scope f cdv A outer s H E) [] σ' H' s'->RelV v u->Q v H'->CE outer P w H s Q u s' :=
  fun {σ' H' v u} J rv q=>⟨v,H',J.os,J.bare,J.base,J.hok,rv,q⟩
 cases fl with
 | ret u =>obtain⟨v,σ',H',J,rv,q⟩:=hs;exact fin J rv q
 | next =>obtain⟨σ',H',J,q⟩:=hs;exact fin (v:=V.non) (u:=Value.none) J rfl q
 | brk =>obtain⟨_,_,_,q⟩:=hs;exact False.elim q
 | cont =>obtain⟨_,_,_,q⟩:=hs;exact False.elim q
end L2
namespace L2
section
variable {X:Cx}{x:Str}{p pos:Pos}{e:Expr}{es:List Expr}{t:TA}{id T:String}{r:List V->Hp->VK->Prop}
noncomputable def tCB (r:List V->Hp->VK->Prop)(t:TA):TE:=fun σ H Q=>t σ H fun vs H1=>r vs H1 Q
theorem BW (hc:dG X (.builtin id) r)(hg:Gl X x)(hm:X.mg x=none)(hv:bootBuiltins x=some (.builtin id))(ha:PA X (e::es) t)(hn:x≠"__name__":=by decide)(hdb:(x == ("__debug__":Str))=false:=by decide)
  (he:starEach (e::es) X.env=(false,eval e X.env)::starEach es X.env:=by rfl) (hpl:(backTo pos (starEach es X.env)).any (·.1)=false:=by rfl):PE X (.Call (.Name x p) (e::es) [] pos) (tCB r t):=by
 intro pins s σ H Q I h;refine wpAny_Call_Name_kw (jy I hg hm hv ?_ hn hdb);exact PyProof.Rows.callWith_builtin1 (thn (ha pos pins s σ H _ I h) fun us s1 ⟨vs,H1,I1,r1,q1⟩=>hc pins s1 σ H1 vs us Q I1 r1 q1) he hpl
theorem AU (hc:dG X (.type T) r)(hg:Gl X x)(hm:X.mg x=none)(hv:bootBuiltins x=some (.type T))(ha:PA X (e::es) t)(hn:x≠"__name__":=by decide)(hdb:(x == ("__debug__":Str))=false:=by decide)
  (he:starEach (e::es) X.env=(false,eval e X.env)::starEach es X.env:=by rfl) (hpl:(backTo pos (starEach es X.env)).any (·.1)=false:=by rfl):PE X (.Call (.Name x p) (e::es) [] pos) (tCB r t):=by
 intro pins s σ H Q I h;refine wpAny_Call_Name_kw (jy I hg hm hv ?_ hn hdb);exact P_ (thn (ha pos pins s σ H _ I h) fun us s1 ⟨vs,H1,I1,r1,q1⟩=>hc pins s1 σ H1 vs us Q I1 r1 q1) he hpl
end
end L2
namespace HT
open PySem
open PyProof.Rows hiding K st lo ad
section
open PySem.SeqAt
open PySem.AutoSeq1 (wpAny_loadPart')
open PySem.MeetsSeq PySem.MeetsSeq2 PySem.MeetsSeq3
end
section
variable {prog:Program}{w:World}{A:Around}{E:Value->Shared->Prop}{s:Shared}
theorem cat_tup {vs ws:List Value}{Q:Value->Shared->Prop}(ht:IsTup s.heap t vs.toArray)(hb:IsTup s.heap b ws.toArray)(hv:vs≠[])(h1:ws=[]->Q (.ref t) s)(h2:ws≠[]->Q (.ref s.heap.objs.size) { s with heap:=s.heap.push { cls:=.type "tuple",data:=.seq (vs++ws).toArray } })(hsz:vs.length+ws.length<=sizeLine):wpAny (model prog w) A (binaryOp .Add (.ref t) (.ref b)) Q E s:=by
 obtain⟨⟨cls,dd,data,sl⟩,ho,hc,n,hd⟩:=id ht;obtain⟨⟨cls2,dd2,data2,sl2⟩,ho2,hc2,n2,hd2⟩:=id hb;simp only at hc hd hc2 hd2;subst hc hd hc2 hd2;have e:vs.toArray++ws.toArray=(vs++ws).toArray:=by simp
 by_cases hw:ws=[]
 ·exact concat_meets ⟨_,ho,rfl⟩ ⟨_,ho2,rfl⟩ noFill_tuple_add seq_tuple_add SF R_ (R3 _ _)
   (tuple_addW1 t b vs.toArray ws.toArray n n2 dd dd2 sl sl2 (by simpa using hv) (by simp[hw])) ⟨ho,ho2,h1 hw⟩
 ·refine concat_meets ⟨_,ho,rfl⟩ ⟨_,ho2,rfl⟩ noFill_tuple_add seq_tuple_add SF R_ (R3 _ _)
   (tuple_addW2 t b vs.toArray ws.toArray n n2 dd dd2 sl sl2 (by simpa using hv) (by simpa using hw) (by rw[PH,PH];exact hsz)) ⟨ho,ho2,?_⟩
  rw[e];exact h2 hw
noncomputable def sIx (n d:Nat):Option Int->Nat
 | none=>d
 | some v=>if v<0 then (v+(n:Int)).toNat else min v.toNat n
theorem sIx_none (n d:Nat):sIx n d none=d:=rfl
theorem sIx_nat (n d k:Nat):sIx n d (some (k:Int))=min k n:=by show (if (k:Int)<0 then ((k:Int)+(n:Int)).toNat else min (k:Int).toNat n)=min k n;rw[OY (by omega),Q9]
theorem Iu (n d:Nat)(hd:d<=n)(o:Option Int):sIx n d o<=n:=by
 cases o with
 | none=>exact hd
 | some v =>
  show (if v<0 then (v+(n:Int)).toNat else min v.toNat n)<=n;by_cases hv:v<0
  ·rw[O0 hv];omega
  ·rw[OY hv];exact Nat.min_le_right _ _
theorem zA (v:Int)(n d:Nat):(if v<0 then max (v+(n:Int)) 0 else min v (n:Int))=((sIx n d (some v):Nat):Int):=by
 show (if v<0 then max (v+(n:Int)) 0 else min v (n:Int))=(((if v<0 then (v+(n:Int)).toNat else min v.toNat n):Nat):Int);by_cases hv:v<0
 ·simp only[if_pos hv];omega
 ·simp only[if_neg hv];omega
theorem yx (lo hi:Option Int)(n:Nat):Builtin.Slice.sliceAdjust lo hi 1 (n:Int)=(((sIx n 0 lo:Nat):Int),((sIx n n hi:Nat):Int)):=by
 have h1:¬((1:Int)<0):=by omega
 unfold Builtin.Slice.sliceAdjust;simp only[h1,if_false];refine Prod.ext ?_ ?_
 ·cases lo with
  | none=>rfl
  | some v=>exact zA v n 0
 ·cases hi with
  | none=>rfl
  | some v=>exact zA v n n
theorem yq (i j:Nat):Builtin.Slice.slicePlaces (i:Int) (j:Int) 1=j-i:=by
 unfold Builtin.Slice.slicePlaces;have h1:(1:Int) > 0:=by omega
 simp only[h1,if_true,Int.ediv_one];split <;> omega
theorem qk {Q:Option Int->Shared->Prop}(p:IsPart v o)(h:Q o s):wpAny (model prog w) A (Builtin.Slice.slicePartIndex v) Q E s:=by
 cases p with
 | none=>exact slicePart_none h
 | int i t=>exact slicePart_int h
theorem sliceApplied_gen {n:Nat}{Q:Int × Int × Nat->Shared->Prop}(hs:s.heap.IsSliceOf sl vl vu .none)(pl:IsPart vl lo)(pu:IsPart vu hi)(h:Q (((sIx n 0 lo:Nat):Int),1,sIx n n hi-sIx n 0 lo) s):wpAny (model prog w) A (Builtin.Slice.sliceApplied (.ref sl) (pure (n:Int))) Q E s:=by
 obtain⟨os,hos,hcs,hds⟩:=id hs;unfold Builtin.Slice.sliceApplied Builtin.Slice.sliceFields;refine OP (OP (wpAny_field hos hds (x:=vl) rfl (OP (wpAny_field hos hds (x:=vu) rfl (OP (wpAny_field hos hds (x:=.none) rfl (O2 ?_)))))));refine OP (slicePart_none ?_);show wpAny _ _ (if ((1:Int) == 0)=true then _ else _) _ _ s;rw[OY (by decide)];refine OP (qk pl (OP (qk pu (OP (O2 ?_)))));show wpAny _ _ (match Builtin.Slice.sliceAdjust lo hi 1 (n:Int) with|(lo,hi)=>pure (lo,(1:Int),Builtin.Slice.slicePlaces lo hi 1)) _ _ s;rw[yx lo hi n];show wpAny _ _ (pure (((sIx n 0 lo:Nat):Int),(1:Int),Builtin.Slice.slicePlaces ((sIx n 0 lo:Nat):Int) ((sIx n n hi:Nat):Int) 1)) _ _ s;rw[yq];exact O2 h
theorem D1 (xs:Array Value)(i k:Nat):((List.range k).filterMap fun (m:Nat)=>xs[((i:Int)+(m:Int)*1).toNat]?).toArray=((xs.toList.drop i).take k).toArray:=by
 have e:(fun (m:Nat)=>xs[((i:Int)+(m:Int)*1).toNat]?)=fun m=>xs[i+m]?:=by
  funext m;have:((i:Int)+(m:Int)*1).toNat=i+m:=by omega
  rw[this]
 rw[e];have:=pick_run xs i k;rw[List.filterMap_map] at this;have e2:((fun x=>xs[x]?) ∘ fun x=>i+x)=fun m=>xs[i+m]?:=rfl;rw[e2] at this;rw[this]
theorem getItem_tuple_cut {Q:Value->Shared->Prop}(ht:IsTup s.heap t items)(hs:s.heap.IsSliceOf sl vl vu .none)(pl:IsPart vl lo)(pu:IsPart vu hi)(hw:¬(sIx items.size 0 lo=0/\sIx items.size items.size hi=items.size))(h:Q (.ref s.heap.objs.size) { s with heap:=s.heap.push { cls:=.type "tuple",data:=.seq ((items.toList.drop (sIx items.size 0 lo)).take (sIx items.size items.size hi-sIx items.size 0 lo)).toArray } })(hsz:items.size<=sizeLine):wpAny (model prog w) A (getItem (.ref t) (.ref sl)) Q E s:=by
 have htake:sizeOk (.seq ((items.toList.drop (sIx items.size 0 lo)).take (sIx items.size items.size hi-sIx items.size 0 lo)).toArray):=by show ((items.toList.drop (sIx items.size 0 lo)).take (sIx items.size items.size hi-sIx items.size 0 lo)).toArray.size<=sizeLine;rw[PH,P8,RE,Array.length_toList];omega
 have hj:sIx items.size items.size hi<=items.size:=Iu _ _ (OX _) hi;obtain⟨os,hos,hcs,hds⟩:=id hs;have hTs:s.TypeIs (.ref sl) "slice":=⟨os,hos,hcs⟩;unfold getItem
 try with_reducible refine R1 ?_
 first|refine OP (O2 ?_)|skip
 refine OP (wpAny_sequenceKey ht.typeIs (by decide) ?_);refine OP (wpAny_callSpecial?_slot (name:=Str.ofString "__getitem__") ht.typeIs QS
  (wpAny_call_entry QS ht.typeIs entry_tuple_getitem ?_ (args_tuple_getitem _ _)))
 show wpAny _ _ (Builtin.Tuple.tupleItemsOf (.ref t) >>= _) _ _ s;refine OP (tupleItemsOf_ ht ?_);refine OP (wpAny_typeOf hTs ?_);rw[O0 (by decide)];refine OP (sliceApplied_gen hs pl pu ?_);have hno:¬((((sIx items.size 0 lo:Nat):Int) == 0 && (1:Int) == 1 && (sIx items.size items.size hi-sIx items.size 0 lo) == items.size)=true):=by intro q;rw[OU,OU] at q;have q1:((sIx items.size 0 lo:Nat):Int)=0:=eq_of_beq q.1.1;have q2:sIx items.size items.size hi-sIx items.size 0 lo=items.size:=eq_of_beq q.2;exact hw ⟨by omega,by omega⟩
 show wpAny _ _ (if (((sIx items.size 0 lo:Nat):Int) == 0 && (1:Int) == 1 && (sIx items.size items.size hi-sIx items.size 0 lo) == items.size)=true then _ else _) _ _ s;rw[OY hno,D1]
 first
  | exact OP (m:=Builtin.Tuple.tupleExact _) (wpAny_newObj_type (O2 ⟨_,rfl,O2 h⟩) htake)
  | exact OP (m:=Builtin.Tuple.tupleExact _) (wpAny_newObj_type (OP (O2 (O2 ⟨_,rfl,O2 h⟩))) htake)
  | exact OP (OP (m:=Builtin.Tuple.tupleExact _) (wpAny_newObj_type (O2 (O2 ⟨_,rfl,O2 h⟩)) htake))
  | exact OP (OP (m:=Builtin.Tuple.tupleExact _) (wpAny_newObj_type (O2 ⟨_,rfl,O2 h⟩) htake))
end
end HT
namespace L2
noncomputable abbrev TO:=St->Hp->(Option Int->Hp->Prop)->Prop
def PO (X:Cx)(e:Option Expr)(t:TO):Prop :=
 ∀(pins:List (Addr × Obj)) (s:Shared) (σ:St) (H:Hp) (Q:Option Int->Hp->Prop),Inv X pins σ H s->t σ H Q ->
  wpAny (model X.prog X.w) X.A (evalPart e X.env) (fun u s'=>∃o H',Inv X pins σ H' s'/\IsPart u o/\Q o H') X.xe s
noncomputable def Eb:TO:=fun _ H Q=>Q none H
noncomputable def Lf (t:TE):TO:=fun σ H Q=>t σ H fun x H1=>∃i,x=.int i/\Q (some i) H1
section
variable {X:Cx}{e:Expr}{te:TE}{lo hi:Option Expr}{tl th:TO}{pos p2:Pos}
theorem D9:PO X none Eb:=by intro pins s σ H Q I h;rw[evalPart_none];exact O2 ⟨none,H,I,.none,h⟩
theorem Eg (h:PE X e te):PO X (some e) (Lf te):=by intro pins s σ H Q I hw;rw[evalPart_some];refine thn (h pins s σ H _ I hw) fun u s1 ⟨x,H1,I1,r1,q1⟩=>?_;obtain⟨i,rfl,q⟩:=q1;obtain⟨t,rfl⟩:=r1;exact⟨some i,H1,I1,.int i t,q⟩
def SlR (X:Cx)(r:V->Option Int->Option Int->Hp->VK->Prop):Prop :=
 ∀(pins:List (Addr × Obj)) (s:Shared) (σ:St) (H:Hp) (x:V) (v vl vu:Value) (lo hi:Option Int) (sl:Addr) (Q:VK),Inv X pins σ H s->RelV x v->s.heap.IsSliceOf sl vl vu .none->IsPart vl lo->IsPart vu hi->r x lo hi H Q ->
  ∃T id,typeLookup (.type T) "__getitem__"=pure (some (.builtin id))/\s.TypeIs v T/\wpAny (model X.prog X.w) X.A (getItem v (.ref sl)) (EP X pins σ Q) X.xe s
noncomputable def tSl (r:V->Option Int->Option Int->Hp->VK->Prop)(te:TE)(tl th:TO):TE:=fun σ H Q=>te σ H fun x H1=>tl σ H1 fun l H2=>th σ H2 fun u H3=>r x l u H3 Q
theorem DQ (hr:SlR X r)(he:PE X e te)(hl:PO X lo tl)(hu:PO X hi th):PE X (.Subscript e (.Slice lo hi none p2) pos) (tSl r te tl th):=by intro pins s σ H Q I h;refine Subscript_ (thn (he pins s σ H _ I h) fun v s1 ⟨x,H1,I1,r1,q1⟩=>?_);refine wpAny_Slice (thn (hl pins s1 σ H1 _ I1 q1) fun vl s2 ⟨l,H2,I2,pl,q2⟩=>thn (hu pins s2 σ H2 _ I2 q2) fun vu s3 ⟨u,H3,I3,pu,q3⟩=>?_);rw[evalPart_none];refine O2 ?_;have I4:Inv X pins σ H3 { s3 with heap:=s3.heap.push { cls:=.type "slice",data:=.fields #[vl,vu,.none] } }:=I3.kept (t':=s3.toks) fun b ob q=>OR _ q;obtain ⟨T,id,hT,ht,hg⟩:=hr pins { s3 with heap:=s3.heap.push { cls:=.type "slice",data:=.fields #[vl,vu,.none] } } σ H3 x v vl vu l u s3.heap.objs.size Q I4 r1 (Heap.IsSliceOf.new ..) pl pu q3;show wpAny (model X.prog X.w) X.A (subscriptTail e (.Slice lo hi none p2) v (.ref s3.heap.objs.size)) (EP X pins σ Q) X.xe { s3 with heap:=s3.heap.push { cls:=.type "slice",data:=.fields #[vl,vu,.none] } };exact tail_any (ops:=[.ref s3.heap.objs.size,v]) ht hT hg (by with_unfolding_all rfl)
noncomputable def rX (xs:List V)(lo hi:Option Int):List V:=(xs.drop (HT.sIx xs.length 0 lo)).take (HT.sIx xs.length xs.length hi-HT.sIx xs.length 0 lo)
theorem ox (xs:List V)(lo hi:Option Int):(rX xs lo hi).length<=xs.length:=by unfold rX;rw[P8,RE];omega
noncomputable def M7 (K:W.Frag):V->Option Int->Option Int->Hp->VK->Prop:=fun x lo hi H Q=>∃a xs,x=.ref a/\SqT K H a xs /\
 ¬(HT.sIx xs.length 0 lo=0/\HT.sIx xs.length xs.length hi=xs.length)/\∀p,H p=none->Q (.ref p) (upd H p (.tup (rX xs lo hi)))
theorem HQ:SlR X (M7 X.K):=by
 intro pins s σ H x v vl vu lo hi sl Q I rx hs pl pu h;obtain⟨a,xs,rfl,hx,hw,q⟩:=h;cases rx;obtain⟨its,r,ht,hz⟩:=I.tuple hx;have hlen:its.toArray.size=xs.length:=by rw[PH];exact r.length.symm
 refine ⟨"tuple",_,PyProof.Rows.slot_tuple_getitem.lookup,ht.typeIs,?_⟩;refine HT.getItem_tuple_cut ht hs pl pu (by rw[hlen];exact hw) ?_ (by rw[hlen];exact hz);rw[hlen];refine⟨.ref s.heap.objs.size,_,I.laid (t':=s.toks) (o:=.tup (rX xs lo hi)) (fun b ob q=>OR _ q) (OX _) ?_,rfl,q _ (I.hok.fresh (OX _))⟩;exact⟨O7 (ox xs lo hi) hz,_,(r.drop (HT.sIx xs.length 0 lo)).take (HT.sIx xs.length xs.length hi-HT.sIx xs.length 0 lo),IsTup.new _ _⟩
noncomputable def Lx (K:W.Frag):R2:=fun x y H Q=>∃a b xs ys,x=.ref a/\y=.ref b/\SqT K H a xs/\SqT K H b ys/\xs≠[]/\xs.length+ys.length<=sizeLine /\
 (ys=[]->Q (.ref a) H)/\(ys≠[]->∀p,H p=none->Q (.ref p) (upd H p (.tup (xs++ys))))
theorem Vals.nil_iff (r:Vals xs us):us=[]↔xs=[]:=by
 cases r with
 | nil=>simp
 | cons _ _=>simp
theorem Fy:OpR X (binaryOp .Add) (Lx X.K):=by intro pins s σ H x y v u Q I rx ry h;obtain⟨a,b,xs,ys,rfl,rfl,ha,hb,hx,hz,q1,q2⟩:=h;cases rx;cases ry;obtain⟨its,r1,p1,_⟩:=I.tuple ha;obtain⟨its2,r2,p2,_⟩:=I.tuple hb;refine HT.cat_tup p1 p2 (fun z=>hx (r1.nil_iff.mp z)) (fun z=>⟨.ref a,H,I,rfl,q1 (r2.nil_iff.mp z)⟩) (fun z=>?_) (by rw[<-r1.length,<-r2.length];exact hz);refine⟨.ref s.heap.objs.size,_,I.laid (t':=s.toks) (o:=.tup (xs++ys)) (fun b ob q=>OR _ q) (OX _) ?_,rfl,q2 (fun w=>z (r2.nil_iff.mpr w)) _ (I.hok.fresh (OX _))⟩;exact⟨by rw[PL];exact hz,_,r1.append r2,IsTup.new _ _⟩
end
end L2
namespace L2
noncomputable def ixN (n:Nat)(i:Int):Option Nat:=if 0<=i then (if i<n then some i.toNat else none) else if -(n:Int)<=i then some (i+n).toNat else none
noncomputable def atI {α:Type}(xs:List α)(i:Int):Option α:=(ixN xs.length i).bind fun j=>xs[j]?
theorem zv {n:Nat}{i:Int}{j:Nat}(h:ixN n i=some j):seqIndex? i n=some j/\j<n/\-(n:Int)<=i/\i<n:=by
 unfold ixN at h;by_cases h0:0<=i
 ·rw[O0 h0] at h;by_cases h1:i<n
  ·rw[O0 h1] at h;have e:i.toNat=j:=P4 h;exact⟨by rw[seqIndex_of h0 h1,e],by omega,by omega,h1⟩
  ·rw[OY h1] at h;cases h
 ·rw[OY h0] at h;by_cases h1:-(n:Int)<=i
  ·rw[O0 h1] at h;have e:(i+n).toNat=j:=P4 h;exact⟨by rw[seqIndex_neg (by omega) h1,e],by omega,h1,by omega⟩
  ·rw[OY h1] at h;cases h
theorem uQ {α:Type}{xs:List α}{i:Int}{v:α}(h:atI xs i=some v):∃j,seqIndex? i xs.length=some j/\xs[j]?=some v/\j<xs.length/\-(xs.length:Int)<=i/\i<xs.length:=by
 unfold atI at h;cases e:ixN xs.length i with
 | none=>rw[e] at h;cases h
 | some j =>rw[e] at h;obtain⟨h1,h2,h3,h4⟩:=zv e;exact⟨j,h1,h,h2,h3,h4⟩
theorem cB {α:Type}{xs:List α}{j:Nat}{v:α}(h:xs[j]?=some v):atI xs (j:Int)=some v:=by
 have hj:j<xs.length:=(OT.mp h).1;have e:ixN xs.length (j:Int)=some j:=by unfold ixN;rw[O0 (by omega),O0 (by omega)];simp
 unfold atI;rw[e];exact h
def zj (b:Expr):Prop:=∀o i,subscripted b false o i=operate [o,i] (getItem o i)
def IxR (X:Cx)(r:R2):Prop :=
 ∀(value slice:Expr) (pins:List (Addr × Obj)) (s:Shared) (σ:St) (H:Hp) (x y:V) (v u:Value) (Q:VK),Inv X pins σ H s->RelV x v->RelV y u->r x y H Q ->
  subscripted slice false v u=operate [v,u] (getItem v u)->wpAny (model X.prog X.w) X.A (subscriptTail value slice v u) (EP X pins σ Q) X.xe s
def MtR (X:Cx)(id:String)(r:V->List V->Hp->VK->Prop):Prop :=
 ∀(pins:List (Addr × Obj)) (s:Shared) (σ:St) (H:Hp) (x:V) (xs:List V) (v:Value) (us:List Value) (Q:VK),Inv X pins σ H s->RelV x v->Vals xs us->r x xs H Q ->
  wpAny (model X.prog X.w) X.A (call (.builtin id) (v::us)) (EP X pins σ Q) X.xe s
section
variable {X:Cx}{a b:Expr}{ta tb:TE}{pos:Pos}
theorem KL (hr:IxR X r)(ha:PE X a ta)(hb:PE X b tb)(hs:zj b):PE X (.Subscript a b pos) (tOp r ta tb):=by intro pins s σ H Q I h;exact Subscript_ (Je ha hb I h fun v u s2 x y H2 I2 rx ry q=>hr a b pins s2 σ H2 x y v u Q I2 rx ry q (hs _ _))
noncomputable def M8 (K:W.Frag):R2:=fun x y H Q=>∃p xs i v,x=.ref p/\y=.int i/\SqL K H p xs/\atI xs i=some v/\Q v H
noncomputable def Nr (K:W.Frag):R2:=fun x y H Q=>∃p xs i v,x=.ref p/\y=.int i/\SqT K H p xs/\atI xs i=some v/\Q v H
noncomputable def N2:R2:=fun x y H Q=>∃z i c,x=.str z/\y=.int i/\z.length<=sizeLine/\atI z.cps.toList i=some c/\Q (.str ⟨#[c]⟩) H
theorem F7:IxR X (M8 X.K):=by
 intro value slice pins s σ H x y v u Q I rx ry h hs;obtain⟨p,xs,i,z,rfl,rfl,hq,he,q⟩:=h;cases rx;obtain⟨t,rfl⟩:=ry;obtain⟨its,r,pl,hz⟩:=I.list hq;obtain⟨j,h1,h2,h3,h4,h5⟩:=uQ he;obtain⟨w,ew,rw'⟩:=r.get h2;have hl:=r.length;have hn:=kQ;have fin:EP X pins σ Q w s:=⟨z,H,I,rw',q⟩;by_cases h0:0<=i
 ·have hj:i.toNat=j:=by rw[seqIndex_of h0 h5] at h1;exact P4 h1
  exact item_listR pl.isList h0 (by omega) (by rw[hj];simpa using ew) fin hs
 ·have hj:(i+(its.toArray.size:Int)).toNat=j:=by rw[seqIndex_neg (by omega) h4] at h1;rw[PH,<-hl];exact P4 h1
  exact subscriptTail_builtinR (x:=w) pl.isList.typeIs slot_list_getitem.lookup
   (wpAny_getItem_list_neg (Q:=fun r s'=>r=w/\EP X pins σ Q r s') pl.isList (by omega) (by rw[PH] <;> omega) (by omega) (by rw[hj];simpa using ew) ⟨rfl,fin⟩) hs
theorem Hy:IxR X (Nr X.K):=by
 intro value slice pins s σ H x y v u Q I rx ry h hs;obtain⟨p,xs,i,z,rfl,rfl,hq,he,q⟩:=h;cases rx;obtain⟨t,rfl⟩:=ry;obtain⟨its,r,pl,hz⟩:=I.tuple hq;obtain⟨j,h1,h2,h3,h4,h5⟩:=uQ he;obtain⟨w,ew,rw'⟩:=r.get h2;have hl:=r.length;have hn:=kQ;have fin:EP X pins σ Q w s:=⟨z,H,I,rw',q⟩;exact subscriptTail_builtinR (x:=w) pl.typeIs slot_tuple_getitem.lookup
  (getItem_tuple (j:=j) (Q:=fun r s'=>r=w/\EP X pins σ Q r s') pl (by omega) (by omega) (by rw[PH,<-hl];exact h1) (by simpa using ew) ⟨rfl,fin⟩) hs
theorem Ie:IxR X N2:=by
 intro value slice pins s σ H x y v u Q I rx ry h hs;obtain⟨z,i,c,rfl,rfl,hz,he,q⟩:=h;obtain⟨t,rfl⟩:=rx;obtain⟨t',rfl⟩:=ry;obtain⟨j,h1,h2,h3,h4,h5⟩:=uQ he;have hl:z.cps.toList.length=z.length:=by simp[Str.length]
 rw[hl] at h1 h4 h5;have hn:=kQ;exact tail_any (typeIs_str s z t) slot_str_getitem.lookup (getItem_str (c:=c) (by have e1:decide (i < -(2 ^ 63:Int))=false:=PF (by omega);have e2:decide (i >= 2 ^ 63)=false:=PF (by omega);rw[e1,e2,Bool.or_false]) (by rw[h1];simpa using h2) ⟨.str ⟨#[c]⟩,H,I.tok _,⟨_,rfl⟩,q⟩) hs
theorem ym (its:List Value)(n j:Nat)(u:Value):Obj.mapSeq (·.setIfInBounds j u) { cls:=.type "list",data:=.seq its.toArray n }={ cls:=.type "list",data:=.seq (its.set j u).toArray n }:=by simp[Obj.mapSeq]
theorem Inv.lst {pins:List (Addr × Obj)}{σ:St}{H:Hp}{s:Shared}{p:Addr}{xs:List V}(I:Inv X pins σ H s)(h:H p=some (.lst xs)) :
  ∃(its:List Value) (n:Nat),Vals xs its/\s.heap.get? p=some { cls:=.type "list",data:=.seq its.toArray n }/\xs.length<=sizeLine:=by
 obtain⟨z,its,n,r,e⟩:=I.hok p _ h;exact⟨its,n,r,e,z⟩
theorem Inv.lstUpd {pins:List (Addr × Obj)}{σ:St}{H:Hp}{s:Shared}{p:Addr}{xs ys:List V}{its its':List Value}{n n':Nat}{f:Obj->Obj}(I:Inv X pins σ H s)(h:H p=some (.lst xs))
  (ho:s.heap.get? p=some { cls:=.type "list",data:=.seq its.toArray n }) (hf:f { cls:=.type "list",data:=.seq its.toArray n }={ cls:=.type "list",data:=.seq its'.toArray n' }) (r:Vals ys its') (hz:ys.length<=sizeLine) (t:Nat) :
  Inv X pins σ (upd H p (.lst ys)) { s with heap:=s.heap.update p f,toks:=t }:=by
 have e:(s.heap.update p f).get? p=some { cls:=.type "list",data:=.seq its'.toArray n' }:=by rw[Q5 f ho (by rw[hf] <;> rfl),hf]
 refine I.write (x:=p) (e:=p) (by rw[h];trivial) (.inl rfl) (fun b u hb q=>(QO _ _ (Ne.symm hb)).trans q) ⟨_,e⟩ ?_;exact⟨hz,its',n',r,e⟩
noncomputable def L0:V->V->V->Hp->(Hp->Prop)->Prop:=fun o i v H Q=>∃p xs k j,o=.ref p/\i=.int k/\H p=some (.lst xs)/\ixN xs.length k=some j/\Q (upd H p (.lst (xs.set j v)))
theorem By:I0 X L0:=by
 intro pins s σ H o i v ov iv u Q I ro ri rv h;obtain⟨p,xs,k,j,rfl,rfl,hp,hj,q⟩:=h;cases ro;obtain⟨t,rfl⟩:=ri;obtain⟨its,n,r,ho,hz⟩:=I.lst hp;obtain⟨h1,h2,h3,h4⟩:=zv hj;have hl:=r.length;have hn:=kQ;have I':Inv X pins σ (upd H p (.lst (xs.set j v))) { s with heap:=s.heap.update p (Obj.mapSeq (·.setIfInBounds j u)) } :=
  I.lstUpd hp ho (ym its n j u) (r.set rv j) (by rw[SU];exact hz) s.toks
 by_cases h0:0<=k
 ·have hk:k.toNat=j:=by rw[seqIndex_of h0 h4] at h1;exact P4 h1
  exact W.ki_setAt ho h0 (by omega) (by rw[PH,<-hl];exact h4) (by rw[hk];exact⟨_,I',q⟩)
 ·have hk:(k+(its.toArray.size:Int)).toNat=j:=by rw[seqIndex_neg (by omega) h3] at h1;rw[PH,<-hl];exact P4 h1
  exact W.ki_setBack ho (by omega) (by rw[PH,<-hl];exact h3) (by omega) (by rw[hk];exact⟨_,I',q⟩)
theorem t9 (lo hi:Option Int)(n:Nat):(sliceBounds lo hi none n).1=((HT.sIx n 0 lo:Nat):Int)/\(sliceBounds lo hi none n).2.1=((HT.sIx n n hi:Nat):Int)/\(sliceBounds lo hi none n).2.2=1:=by
 refine⟨?_,?_,rfl⟩
 ·cases lo with
  | none=>simp[sliceBounds,HT.sIx]
  | some i =>
   simp only[sliceBounds,HT.sIx,Option.getD_none,show (1:Int) > 0 by decide,if_true];by_cases h:i<0
   ·simp only[h,if_true] <;> omega
   ·simp only[h,if_false] <;> omega
 ·cases hi with
  | none=>simp[sliceBounds,HT.sIx]
  | some i =>
   simp only[sliceBounds,HT.sIx,Option.getD_none,show (1:Int) > 0 by decide,if_true];by_cases h:i<0
   ·simp only[h,if_true] <;> omega
   ·simp only[h,if_false] <;> omega
theorem rF (its:List Value)(lo hi:Option Int):slicePick its.toArray lo hi none=((its.drop (HT.sIx its.length 0 lo)).take (HT.sIx its.length its.length hi-HT.sIx its.length 0 lo)).toArray:=by obtain⟨h1,h2,h3⟩:=t9 lo hi its.toArray.size;unfold slicePick;rw[h1,h2,h3];simp only[sliceRange_one,pick_run,List.size_toArray] <;> rfl
noncomputable def NX (K:W.Frag):V->Option Int->Option Int->Hp->VK->Prop:=fun x lo hi H Q=>∃a xs,x=.ref a/\SqL K H a xs/\∀p,H p=none->Q (.ref p) (upd H p (.lst (rX xs lo hi)))
theorem FP:SlR X (NX X.K):=by intro pins s σ H x v vl vu lo hi sl Q I rx hs pl pu h;obtain⟨a,xs,rfl,hx,q⟩:=h;cases rx;obtain⟨its,r,ht,hz⟩:=I.list hx;have hlen:=r.length;refine ⟨"list",_,slot_list_getitem.lookup,ht.isList.typeIs,?_⟩;refine wpAny_getItem_list_slice ht.isList hs pl pu .none (by simp) ?_ (by rw[PH] <;> omega);rw[rF,<-hlen];refine⟨.ref s.heap.objs.size,_,I.laid (t':=s.toks) (o:=.lst (rX xs lo hi)) (fun b ob q=>OR _ q) (OX _) ?_,rfl,q _ (I.hok.fresh (OX _))⟩;exact⟨O7 (ox xs lo hi) hz,_,0,(r.drop (HT.sIx xs.length 0 lo)).take (HT.sIx xs.length xs.length hi-HT.sIx xs.length 0 lo),O5 _ rfl⟩
noncomputable def jj:V->Bool
 | .non=>true
 | .bl _=>true
 | .int _=>true
 | .str _=>true
 | _=>false
noncomputable def eqV:V->V->Bool
 | .non,.non=>true
 | .bl a,.bl b=>a == b
 | .bl a,.int b=>(if a then 1 else 0) == b
 | .int a,.bl b=>a == (if b then 1 else 0)
 | .int a,.int b=>a == b
 | .str a,.str b=>a == b
 | _,_=>false
theorem Hm (ry:RelV y u)(rx:RelV x v)(fy:jj y=true)(fx:jj x=true):SeqAt.EqAt A s u v (eqV y x):=by
 cases y with
 | non =>
  cases ry;cases x with
  | non=>cases rx;exact SeqAt.EqAt.same _
  | bl b=>cases rx;exact SeqAt.EqAt.none_bool b
  | int b=>obtain⟨t,rfl⟩:=rx;exact SeqAt.EqAt.none_int b t
  | str b=>obtain⟨t,rfl⟩:=rx;exact SeqAt.EqAt.none_str b t
  | _=>exact absurd (show false=true from fx) OS
 | bl a =>
  cases ry;cases x with
  | non=>cases rx;exact SeqAt.EqAt.bool_none a
  | bl b=>cases rx;exact SeqAt.EqAt.bool_bool a b
  | int b=>obtain⟨t,rfl⟩:=rx;exact SeqAt.EqAt.bool_int a b t
  | str b=>obtain⟨t,rfl⟩:=rx;exact SeqAt.EqAt.bool_str a b t
  | _=>exact absurd (show false=true from fx) OS
 | int a =>
  obtain⟨t',rfl⟩:=ry;cases x with
  | non=>cases rx;exact SeqAt.EqAt.int_none a t'
  | bl b=>cases rx;exact SeqAt.EqAt.int_bool a t' b
  | int b=>obtain⟨t,rfl⟩:=rx;exact SeqAt.EqAt.int_int a t' b t
  | str b=>obtain⟨t,rfl⟩:=rx;exact SeqAt.EqAt.int_str a t' b t
  | _=>exact absurd (show false=true from fx) OS
 | str a =>
  obtain⟨t',rfl⟩:=ry;cases x with
  | non=>cases rx;exact SeqAt.EqAt.str_none a t'
  | bl b=>cases rx;exact SeqAt.EqAt.str_bool a t' b
  | int b=>obtain⟨t,rfl⟩:=rx;exact SeqAt.EqAt.str_int a t' b t
  | str b=>obtain⟨t,rfl⟩:=rx;exact SeqAt.EqAt.str_str a t' b t
  | _=>exact absurd (show false=true from fx) OS
 | _=>exact absurd (show false=true from fy) OS
noncomputable def eqU (x:V)(u:Value):Bool:=match u with
 | .none=>eqV .non x
 | .bool b=>eqV (.bl b) x
 | .int i _=>eqV (.int i) x
 | .str z _=>eqV (.str z) x
 | _=>false
theorem CY (r:RelV y u)(f:jj y=true):eqU x u=eqV y x:=by
 cases y with
 | non=>cases r;rfl
 | bl b=>cases r;rfl
 | int i=>obtain⟨t,rfl⟩:=r;rfl
 | str z=>obtain⟨t,rfl⟩:=r;rfl
 | _=>exact absurd (show false=true from f) OS
theorem l7:∀ {xs:List V}{us:List Value},Vals xs us->xs.all jj=true->us.any (eqU x)=xs.any fun y=>eqV y x
 | _,_,.nil,_=>rfl
 | y::xs,u::us,.cons r t,f=>by rw[QM,OU] at f;rw[QE,QE,CY r f.1,l7 t f.2]
theorem jE (rx:RelV x v)(fx:jj x=true):∀ {xs:List V}{us:List Value},Vals xs us->xs.all jj=true->∀u∈us,SeqAt.EqAt A s u v (eqU x u)
 | _,_,.nil,_=>fun u hu=>by cases hu
 | y::xs,u::us,.cons r t,f=>fun u' hu=>by
  rw[QM,OU] at f;rcases PQ.mp hu with rfl|hu
  ·rw[CY r f.1];exact Hm r rx f.1 fx
  ·exact jE rx fx t f.2 u' hu
noncomputable def inV (x:V)(xs:List V):Bool:=xs.any fun y=>eqV y x
noncomputable def rIn (K:W.Frag)(neg:Bool):R2:=fun x y H Q=>∃p xs,y=.ref p/\(SqL K H p xs\/SqT K H p xs)/\jj x=true/\xs.all jj=true/\Q (.bl (if neg then !inV x xs else inV x xs)) H
theorem jU:OpR X (compareOp .In) (rIn X.K false):=by
 intro pins s σ H x y v u Q I rx ry h;obtain⟨p,xs,rfl,hq,fx,fs,q⟩:=h;cases ry;rcases hq with hq|hq
 ·obtain⟨its,r,pl,hz⟩:=I.list hq;refine SeqAt.in_listAt (eqU x) pl.isList (fun w hw=>jE rx fx r fs w (by simpa using hw)) ⟨.bl _,H,I,rfl,?_⟩;rw[show its.toArray.any (eqU x)=its.any (eqU x) by simp,l7 r fs];exact q
 ·obtain⟨its,r,pl,hz⟩:=I.tuple hq;refine SeqAt.in_tupleAt (eqU x) pl (fun w hw=>jE rx fx r fs w (by simpa using hw)) ⟨.bl _,H,I,rfl,?_⟩;rw[show its.toArray.any (eqU x)=its.any (eqU x) by simp,l7 r fs];exact q
theorem iU:OpR X (compareOp .NotIn) (rIn X.K true):=by
 intro pins s σ H x y v u Q I rx ry h;obtain⟨p,xs,rfl,hq,fx,fs,q⟩:=h;cases ry;rcases hq with hq|hq
 ·obtain⟨its,r,pl,hz⟩:=I.list hq;refine SeqAt.notIn_listAt (eqU x) pl.isList (fun w hw=>jE rx fx r fs w (by simpa using hw)) ⟨.bl _,H,I,rfl,?_⟩;rw[show its.toArray.any (eqU x)=its.any (eqU x) by simp,l7 r fs];exact q
 ·obtain⟨its,r,pl,hz⟩:=I.tuple hq;refine SeqAt.notIn_tupleAt (eqU x) pl (fun w hw=>jE rx fx r fs w (by simpa using hw)) ⟨.bl _,H,I,rfl,?_⟩;rw[show its.toArray.any (eqU x)=its.any (eqU x) by simp,l7 r fs];exact q
theorem u4:OpR X (compareOp .NotIn) (fun x y H Q=>∃i j,x=.str i/\y=.str j/\Q (.bl (!(!(Builtin.Str.occurrences j i 0 j.length 1).isEmpty))) H):=by intro pins s σ H x y v u Q I rx ry h;obtain⟨i,j,rfl,rfl,q⟩:=h;obtain⟨t,rfl⟩:=rx;obtain⟨t',rfl⟩:=ry;exact notIn_str ⟨.bl _,H,I,rfl,q⟩
theorem tL:dG X (.builtin "len") (fun xs H Q=>∃p ys,xs=[.ref p]/\(SqL X.K H p ys\/SqT X.K H p ys)/\Q (.int ys.length) H):=by
 intro pins s σ H xs us Q I r h;obtain⟨p,ys,rfl,hq,q⟩:=h;obtain⟨u,rfl,rx⟩:=fe r;cases rx;have hn:=kQ;rcases hq with hq|hq
 ·obtain⟨its,r',pl,hz⟩:=I.list hq;have hlen:=r'.length;exact Calls.call_len_list pl.isList (by simp only[List.size_toArray] <;> omega) ⟨.int ys.length,H,I.tok _,⟨s.toks+1,by rw[PH,hlen]⟩,q⟩
 ·obtain⟨its,r',pl,hz⟩:=I.tuple hq;have hlen:=r'.length;exact len_tuple pl (by simp only[List.size_toArray] <;> omega) ⟨.int ys.length,H,I.tok _,⟨s.toks+1,by rw[PH,hlen]⟩,q⟩
theorem uE:dG X (.builtin "len") (fun xs H Q=>∃z,xs=[.str z]/\z.length<=sizeLine/\Q (.int z.length) H):=by intro pins s σ H xs us Q I r h;obtain⟨z,rfl,hz,q⟩:=h;obtain⟨u,rfl,t,rfl⟩:=fe r;have hn:=kQ;exact len_str (by omega) ⟨.int z.length,H,I.tok _,⟨_,rfl⟩,q⟩
theorem rO:dG X (.type "tuple") (fun xs H Q=>∃p ys,xs=[.ref p]/\((SqL X.K H p ys/\∀l,H l=none->Q (.ref l) (upd H l (.tup ys)))\/(SqT X.K H p ys/\Q (.ref p) H))):=by
 intro pins s σ H xs us Q I r h;obtain⟨p,ys,rfl,h⟩:=h;obtain⟨u,rfl,rx⟩:=fe r;cases rx;rcases h with⟨hq,q⟩|⟨hq,q⟩
 ·obtain⟨its,r',pl,hz⟩:=I.list hq;have hlen:=r'.length;refine call_tuple_list pl.isList (fun h' kp=>?_) (by simp only[List.size_toArray] <;> omega);have I1:Inv X pins σ H { s with heap:=h' }:=I.kept (t':=s.toks) kp;have I2:Inv X pins σ (upd H h'.objs.size (.tup ys)) { s with heap:=h'.push { cls:=.type "tuple",data:=.seq its.toArray } } :=
   I1.laid (t':=s.toks) (fun b o e=>OR _ e) (OX _) (show ObjOk X.prog X.w _ _ _ (.tup ys) from ⟨hz,its,r',IsTup.new _ _⟩)
  exact⟨.ref h'.objs.size,_,I2,rfl,q _ (I1.hok.fresh (OX _))⟩
 ·obtain⟨its,r',pl,hz⟩:=I.tuple hq;exact call_tuple_same pl ⟨.ref p,H,I,rfl,q⟩
def tyV (K:W.Frag)(T:String)(x:V)(H:Hp):Prop:=match x with
 | .str _=>T="str"
 | .int _=>T="int"
 | .ref p=>(T="list"/\∃xs,SqL K H p xs)\/(T="tuple"/\∃o,K.lookup p=some o/\o.cls=.type "tuple"/\o.dict=none) \/
   (T="dict"/\((∃kvs,H p=some (.dK kvs))\/∃kvs,H p=some (.dT kvs)))\/(T="set"/\∃S n,H p=some (.set S n))
 | _=>False
theorem CF {pins:List (Addr × Obj)}{σ:St}{H:Hp}{s:Shared}{T:String}{x:V}{v:Value}(I:Inv X pins σ H s)(r:RelV x v)(ty:tyV X.K T x H) :
  s.TypeIs v T/\∀a,v=.ref a->∃ob,s.heap.get? a=some ob/\ob.dict=none:=by
 cases x with
 | str z =>obtain⟨t,rfl⟩:=r;cases (show T="str" from ty);exact⟨typeIs_str s z t,fun _ e=>nomatch e⟩
 | int i =>obtain⟨t,rfl⟩:=r;cases (show T="int" from ty);exact⟨typeIs_int s i t,fun _ e=>nomatch e⟩
 | ref p =>
  cases r;rcases ty with⟨rfl,xs,hq⟩|⟨rfl,o,hk,hc,hd⟩|⟨rfl,hk⟩|⟨rfl,S,n,hk⟩
  ·obtain⟨its,_,pl,_⟩:=I.list hq;refine⟨pl.isList.typeIs,fun a e=>?_⟩;cases e;obtain⟨o,n,e,c,hd,_⟩:=pl;exact⟨o,e,hd⟩
  ·refine⟨⟨o,I.kIn p o hk,hc⟩,fun a e=>?_⟩;cases e;exact⟨o,I.kIn _ o hk,hd⟩
  ·have z:∃o,s.heap.get? p=some o/\o.ExactDict:=by
    rcases hk with⟨kvs,hk⟩|⟨kvs,hk⟩
    ·obtain⟨_,_,_,_,o,_,_,e,ex,_⟩:=I.hok p _ hk;exact⟨o,e,ex⟩
    ·obtain⟨_,_,_,_,o,_,_,e,ex,_⟩:=I.hok p _ hk;exact⟨o,e,ex⟩
   obtain⟨o,e,ex⟩:=z;refine⟨⟨o,e,ex.1⟩,fun a e2=>?_⟩;cases e2;exact⟨o,e,ex.2.1⟩
  ·obtain⟨o,_,_,_,e,ex,_⟩:=I.hok p _ hk;refine⟨⟨o,e,ex.1⟩,fun a e2=>?_⟩;cases e2;exact⟨o,e,ex.2.1⟩
 | _=>exact False.elim ty
noncomputable def NO (K:W.Frag)(T:String)(r:V->List V->Hp->VK->Prop)(to:TE):TE:=fun σ H Q=>to σ H fun x H1=>tyV K T x H1/\r x [] H1 Q
noncomputable def tBM (K:W.Frag)(T:String)(r:V->List V->Hp->VK->Prop)(to:TE)(t:TA):TE:=fun σ H Q=>to σ H fun x H1=>tyV K T x H1/\t σ H1 fun xs H2=>r x xs H2 Q
variable {o e:Expr}{es:List Expr}{to:TE}{t:TA}{name:Str}{apos cpos:Pos}{T id:String}{r:V->List V->Hp->VK->Prop}
theorem Jp (pa:PlainAttrs T)(slot:Slot T name id)(hty:typeOf (.builtin id)=pure (.type "method_descriptor"))(hm:MtR X id r)(ho:PE X o to)
  (hbase:attributeBase o name X.env (eval o X.env)=eval o X.env:=by rfl) (hline:(apos.endLine == cpos.line)=true:=by rfl):PE X (.Call (.Attribute o name apos) [] [] cpos) (NO X.K T r to):=by
 intro pins s σ H Q I h;refine wpAny_Call_method0_late hbase hline (thn (ho pins s σ H _ I h) fun v s1 ⟨x,H1,I1,r1,ty,q1⟩=>?_);obtain⟨h1,h2⟩:=CF I1 r1 ty;exact⟨T,id,pa,slot,hty,h1,h2,Calls.callWith_builtin rfl (PySem.evalArgs_none (hm pins s1 σ H1 x [] v [] Q I1 r1 .nil q1))⟩
theorem n6 (pa:PlainAttrs T)(slot:Slot T name id)(hty:typeOf (.builtin id)=pure (.type "method_descriptor"))(hm:MtR X id r)(ho:PE X o to)(ha:PA X (e::es) t)
  (hbase:attributeBase o name X.env (eval o X.env)=eval o X.env:=by rfl)
  (hfew:((backTo cpos (starEach (e::es) X.env)).all (fun x=>!x.1) && (backToKw cpos (keywordEach [] X.env)).all (fun x=>x.1.isSome)
   && decide ((e::es).length+([]:List Keyword).length+(if ([]:List Keyword).isEmpty then 0 else 1)<30))=true:=by rfl)
  (hline:(apos.endLine == cpos.line)=true:=by rfl) (hs:starEach (e::es) X.env=(false,eval e X.env)::starEach es X.env:=by rfl) (hplain:(backTo cpos (starEach es X.env)).any (·.1)=false:=by rfl) :
  PE X (.Call (.Attribute o name apos) (e::es) [] cpos) (tBM X.K T r to t):=by
 intro pins s σ H Q I h;refine wpAny_Call_method_late hbase hfew hline rfl (thn (ho pins s σ H _ I h) fun v s1 ⟨x,H1,I1,r1,ty,q1⟩=>?_);obtain⟨h1,h2⟩:=CF I1 r1 ty;refine⟨T,id,pa,slot,hty,h1,h2,?_⟩;have hA:=ha cpos pins s1 σ H1 _ I1 q1;rw[hs] at hA |-
 refine Calls.callWith_builtin (by show (false || (backTo cpos (starEach es X.env)).any (·.1))=false;rw[hplain] <;> rfl) (Calls.evalArgs_plain ?_);exact thn hA fun us s2 ⟨vs,H2,I2,r2,q2⟩=>hm pins s2 σ H2 x vs v us Q I2 r1 r2 q2
end
end L2
namespace L2
def MtM (X:Cx)(id:String)(r:V->List V->Hp->VK->Prop):Prop :=
 ∀(pins:List (Addr × Obj)) (s:Shared) (σ:St) (H:Hp) (x:V) (xs:List V) (v:Value) (us:List Value) (Q:VK),Inv X pins σ H s->RelV x v->Vals xs us->r x xs H Q ->
  wpAny (model X.prog X.w) X.A (call (.builtin id) (v::us)) (EP X pins σ Q) X.xe s
theorem Vals.one:∀ {x:V}{us:List Value},Vals [x] us->∃u,us=[u]/\RelV x u
 | _,_,.cons r .nil=>⟨_,rfl,r⟩
theorem Vals.eraseIdx:∀ {xs:List V}{us:List Value} (i:Nat),Vals xs us->Vals (xs.eraseIdx i) (us.eraseIdx i)
 | _,_,_,.nil=>.nil
 | _,_,0,.cons _ t=>t
 | _,_,i+1,.cons r t=>.cons r (Vals.eraseIdx i t)
theorem Vals.rep (h:Vals xs us):∀k:Nat,Vals (List.replicate k xs).flatten (List.replicate k us).flatten
 | 0=>.nil
 | k+1=>by rw[QH,QH,Q_,Q_];exact Vals.append h (Vals.rep h k)
theorem tE {α:Type}:∀(l:List α) (i:Nat),(l.eraseIdx i).length<=l.length
 | [],_=>OX _
 | _::_,0=>Nat.le_succ _
 | _::r,i+1=>Nat.succ_le_succ (tE r i)
theorem tG (its:List Value):∀(k:Nat) (acc:List Value),
  List.foldl (fun x1 x2=>x1++x2) acc.toArray (List.replicate k its.toArray)=(acc++(List.replicate k its).flatten).toArray
 | 0,acc=>by simp
 | k+1,acc=>by
  have e:acc.toArray++its.toArray=(acc++its).toArray:=by simp
  have e2:(acc++its)++(List.replicate k its).flatten=acc++(List.replicate (k+1) its).flatten:=by rw[QH,Q_,PY]
  rw[<-e2,<-tG its k (acc++its),<-e,QH,R7]
section
variable {X:Cx}{pins:List (Addr × Obj)}{σ:St}{H:Hp}{s:Shared}{l b:Addr}{xs ys zs:List V}
theorem Inv.lset {its its':List Value}{n:Nat}{f:Array Value->Array Value}{t':Nat}(I:Inv X pins σ H s)(hH:H l=some (.lst xs))
  (e:s.heap.get? l=some { cls:=.type "list",data:=.seq its.toArray n }) (hf:f its.toArray=its'.toArray) (hv:Vals ys its') (hz:ys.length<=sizeLine) :
  Inv X pins σ (upd H l (.lst ys)) { s with heap:=s.heap.update l (Obj.mapSeq f),toks:=t' }:=by
 have q:=PySem.IsL.update e f;rw[hf] at q;refine I.write (x:=l) (e:=l) (by rw[hH];exact trivial) (.inl rfl) (fun b' u hb hu=>(QO s.heap (Obj.mapSeq f) (Ne.symm hb)).trans hu) ⟨_,q⟩ ?_;exact⟨hz,its',_,hv,q⟩
theorem Inv.lnew {t':Nat}(I:Inv X pins σ H s)(hv:Vals ys its)(hz:ys.length<=sizeLine) :
  Inv X pins σ (upd H s.heap.objs.size (.lst ys)) { s with heap:=s.heap.push { cls:=.type "list",data:=.seq its.toArray },toks:=t' } :=
 I.laid (fun _ _ q=>OR _ q) (OX _) ⟨hz,its,0,hv,O5 _ rfl⟩
theorem Inv.fresh (I:Inv X pins σ H s):H s.heap.objs.size=none:=I.hok.fresh (OX _)
theorem Inv.lstM (I:Inv X pins σ H s)(hH:H l=some (.lst xs)):xs.length<=sizeLine/\∃(its:List Value) (n:Nat),Vals xs its/\xs.length=its.length/\s.heap.get? l=some { cls:=.type "list",data:=.seq its.toArray n }:=by obtain⟨z,its,n,r,e⟩:=I.hok l _ hH;exact⟨z,its,n,r,r.length,e⟩
theorem Bo {n:Nat}(h:n<=sizeLine):Builtin.List.listTooLong n=false:=by unfold Builtin.List.listTooLong;exact PF (by omega)
end
section
variable {X:Cx}
noncomputable def Er:V->List V->Hp->VK->Prop:=fun x vs H Q=>∃l xs y,x=.ref l/\vs=[y]/\H l=some (.lst xs)/\xs.length<sizeLine/\Q .non (upd H l (.lst (xs++[y])))
theorem nu:MtM X "list.append" Er:=by intro pins s σ H x vs v us Q I rx rv h;obtain⟨l,xs,y,rfl,rfl,hH,hz,q⟩:=h;cases rx;obtain⟨u,rfl,ru⟩:=rv.one;obtain⟨z,its,n,r,hl,e⟩:=I.lstM hH;refine call_meets F.slot_list_append ⟨_,e,rfl⟩ F.entry_list_append (F.args_list_append_2 _ _) (PySem.list_append l its.toArray n u (by rw[PH];omega)) ⟨e,?_⟩;refine⟨.non,_,I.lset (its':=its++[u]) hH e (by simp) (r.append (.cons ru .nil)) ?_,rfl,q⟩;rw[PL,List.length_singleton];omega
noncomputable def Ib:V->List V->Hp->VK->Prop:=fun x vs H Q=>∃l xs i k y,x=.ref l/\vs=[.int i]/\H l=some (.lst xs)/\-(2 ^ 63)<=i/\i<2 ^ 63/\seqIndex? i xs.length=some k/\xs[k]?=some y/\Q y (upd H l (.lst (xs.eraseIdx k)))
theorem DH:MtM X "list.pop" Ib:=by
 intro pins s σ H x vs v us Q I rx rv h;obtain⟨l,xs,i,k,y,rfl,rfl,hH,h1,h2,hk,hy,q⟩:=h;cases rx;obtain⟨u,rfl,ru⟩:=rv.one;obtain⟨t,rfl⟩:=ru;obtain⟨z,its,n,r,hl,e⟩:=I.lstM hH;obtain⟨w,hw,rw'⟩:=r.get hy;refine call_meets F.slot_list_pop ⟨_,e,rfl⟩ F.entry_list_pop (F.args_list_pop_2 _ _)
  (MeetsSeq.list_pop_at l its.toArray n i t k w (fitsIndex_both h1 h2) (by rw[PH,<-hl];exact hk) (by rw[<-Array.getElem?_toList];exact hw) (by rw[PH];omega)) ⟨e,?_⟩
 refine⟨y,_,I.lset (its':=its.eraseIdx k) hH e ?_ (r.eraseIdx k) ?_,rw',q⟩
 ·show its.toArray.eraseIdxIfInBounds k=(its.eraseIdx k).toArray;rw[List.eraseIdxIfInBounds_toArray]
 ·have:=tE xs k;omega
noncomputable def OC:R2:=fun x y H Q=>∃l b xs zs,x=.ref l/\y=.ref b/\H l=some (.lst xs)/\H b=some (.lst zs)/\xs.length+zs.length<=sizeLine/\∀p,H p=none->Q (.ref p) (upd H p (.lst (xs++zs)))
theorem Jz:OpR X (binaryOp .Add) OC:=by
 intro pins s σ H x y v u Q I rx ry h;obtain⟨l,b,xs,zs,rfl,rfl,hH,hB,hz,q⟩:=h;cases rx;cases ry;obtain⟨z,its,n,r,hl,e⟩:=I.lstM hH;obtain⟨z2,its2,n2,r2,hl2,e2⟩:=I.lstM hB;refine PySem.P.add_list e e2 ?_ (by rw[PH,PH];omega);have ea:its.toArray++its2.toArray=(its++its2).toArray:=by simp
 rw[ea];exact⟨.ref _,_,I.lnew (t':=s.toks) (r.append r2) (by rw[PL];omega),rfl,q _ I.fresh⟩
noncomputable def NN:R2:=fun x y H Q=>∃l k xs,x=.ref l/\y=.int k/\H l=some (.lst xs)/\-(2 ^ 63)<=k/\k<2 ^ 63/\xs.length*k.toNat<=sizeLine /\
 ∀p,H p=none->Q (.ref p) (upd H p (.lst (List.replicate k.toNat xs).flatten))
theorem Fq {α:Type}(xs:List α)(k:Nat):(List.replicate k xs).flatten.length=k*xs.length:=by
 induction k with
 | zero=>simp
 | succ k ih=>rw[QH,Q_,PL,ih,Nat.succ_mul,Nat.add_comm]
theorem Hl:OpR X (binaryOp .Mult) NN:=by
 intro pins s σ H x y v u Q I rx ry h;obtain⟨l,k,xs,rfl,rfl,hH,h1,h2,hz,q⟩:=h;cases rx;obtain⟨t,rfl⟩:=ry;obtain⟨z,its,n,r,hl,e⟩:=I.lstM hH;have hlen:its.toArray.size*k.toNat<=sizeLine:=by rw[PH,<-hl];exact hz
 have hcap:¬its.toArray.size*k.toNat > (2 ^ 63-1)/8:=by
  have:(sizeLine:Nat)<=(2 ^ 63-1)/8:=by decide
  omega
 have hfit:¬(!Builtin.List.listFitsIndex k)=true:=by rw[fitsIndex_both h1 h2];exact OS
 have hlong:¬Builtin.List.listTooLong (its.toArray.size*k.toNat)=true:=by rw[Bo hlen];exact OS
 have hnew:List.foldl (fun x1 x2=>x1++x2) #[] (List.replicate (if its.toArray.isEmpty=true then 0 else k.toNat) its.toArray)=(List.replicate k.toNat its).flatten.toArray:=by
  have f0:∀m:Nat,List.foldl (fun x1 x2=>x1++x2) #[] (List.replicate m its.toArray)=(List.replicate m its).flatten.toArray:=fun m=>by have:=tG its m [];rw[SV] at this;exact this
  rw[f0];cases its with
  | nil=>simp
  | cons a r'=>rw[OY (by simp)]
 refine wpAny_binaryOp_repeat_ref (T:="list") (U:="int") (by decide) ⟨_,e,rfl⟩ (fun s'=>typeIs_int s' k t) noFill_list_mul F.fills_int_mul F.slot_int_rmul repeat_list F.slot_int_index.lookup
  (call_meets F.slot_int_rmul (typeIs_int s k t) F.entry_int_rmul (F.args_int_rmul_2 _ _) (int___rmul___int_list k t l its.toArray n)
   ⟨e,rfl,⟨_,e,rfl⟩,call_meets F.slot_list_mul ⟨_,e,rfl⟩ F.entry_list_mul (F.args_list_mul_2 _ _) (AutoListH.list___mul___list_int_3 l its.toArray n k t hfit hcap hlong) ⟨e,?_⟩⟩)
 rw[hnew];exact⟨.ref _,_,I.lnew (t':=s.toks) (r.rep k.toNat) (by rw[Fq,S1];exact hz),rfl,q _ I.fresh⟩
end
section
variable {prog:Program}{w:World}{A:Around}{E:Value->Shared->Prop}{s:Shared}
set_option maxRecDepth 100000 in
end
section
variable {X:Cx}
end
end L2
namespace Att
open PySem PySem.W PySem.Calls
open PyProof.Rows hiding K st lo ad
theorem oZ:∀(ns:List Int) (vs:List Value),WellAll P h vs (ns.map WData.int)->IntsAre vs ns:=by
 intro ns
 induction ns with
 | nil =>intro vs w;rw[RL] at w;cases w;exact .nil
 | cons n ns ih =>
  intro vs w;rw[O8] at w;cases w with
  | cons a b =>cases a;exact .cons _ _ (ih _ b)
theorem zT {l:OpenLaw}{n:Nat}(hn:l.most=some n)(hpre:l.row.toRowW.claim.pre args=true)(hwl:WellAll P h vals args) :
  ∃a vs ns,vals=[Value.ref a]/\args=[WData.list (ns.map WData.int)]/\h.get? a=some { cls:=.type "list",data:=.seq vs.toArray }/\IntsAre vs ns/\ns.length<=n:=by
 have hsh:WShape.hasAll [] args [.list .int]=true:=(pre_splitW hpre).1;have hc:l.pre.holds [] { args:=args }=true:=(pre_splitW hpre).2;obtain⟨d,r,rfl,h1,h2⟩:=hasAllW_cons hsh;obtain rfl:=hasAllW_nil h2;obtain⟨xs,rfl,h3⟩:=hasW_list h1;obtain⟨ns,rfl⟩:=items_int h3;have hlen:ns.length<=n:=by
  unfold OpenLaw.pre at hc;have h4:(WTm.not (.lt (.lit (.int (n:Int))) (.len (.arg 0)))).holds [] { args:=[.list (ns.map .int)] }=true:=by have h4:=(holds_andW hc).1;rw[hn] at h4;exact h4
  have h5:=condW_of h4 (w_not (w_lt w_lit (w_len_list (w_arg rfl))));rw[O1] at h5;refine Nat.le_of_not_lt fun q=>?_;have q':(n:Int)<((ns.length:Nat):Int):=by omega
  first
   | (rw[PJ q'] at h5;exact absurd h5 (by decide))
   | (simp at h5;omega)
 cases hwl with
 | cons w1 w2 =>
  cases w2;cases w1 with
  | list ho hall=>exact⟨_,_,ns,rfl,rfl,ho,oZ ns _ hall,hlen⟩
theorem Av (l:OpenLaw)(args:List WData):l.row.toRowW.claim.post args (.bool true) args=true :=
 postW_of (r:=l.row.toRowW) (X:=(true == true))
  (show WShape.has [] (.bool true) .bool=true by first|rfl|decide|simp[WShape.has,WShape.arms,WShape.armsAll])
  (show (WTm.eq .res (.lit (.bool true))).value [] { args:=args,res:=some (.bool true),after:=args }=some (.bool (true == true)) from w_eq_bool (w_res rfl) w_lit) rfl
theorem attach_call {l:OpenLaw}{n:Nat}{YP:World->Heap->Prop}{d:DefRec}(hn:l.most=some n)(hdf:d.params.defaults=[])(call:∀(w:World) (s₀ s₁:Shared) (mg mb:Str->Option Value) (fa:Addr) (o:Obj) (pm cd doc:Value) (a:Addr) (vs:List Value) (ns:List Int),
   Ground q loose [] XP w s₀ mg mb s₁.heap->YP w s₁.heap ->
   s₁.heap.get? fa=some o->o.data=.func (docDef d.name d.params d.body d.scope pm cd doc)->s₁.heap.CodeRec cd d.name->mg d.name=some (.ref fa) ->
   s₁.heap.get? a=some { cls:=.type "list",data:=.seq vs.toArray }->IntsAre vs ns->ns.length<=n->s₁.gens=#[] ->
   codeAny (model l.prog w) callerA (.call (.ref fa) ⟨[.ref a],[]⟩) (fun r s'=>r=.ok (.ret (.bool true))/\OldK s₁.heap s'.heap/\s'.os=s₁.os/\AllBare s'.gens) s₁) :
  WalkO q loose XP YP l.row.toRowW d [] (fun f vs=>PySem.call f vs):=by
 intro w s₀ s₁ mg mb G Y fa o pm cd doc dV kV ho hd hcd hD hmg hg args vals as hpre hlay hrd hwl hlo;obtain rfl:dV=.none:=Dflts.none hD hdf;obtain rfl:kV=.none:=Dflts.noKw hD;obtain⟨a,vs,ns,rfl,rfl,hobj,hints,hlen⟩:=zT hn hpre hwl;refine enter_call (codeAny_mono (call w s₀ s₁ mg mb fa o pm cd doc a vs ns G Y ho (fd_plain hd) hcd hmg hobj hints hlen hg) fun r s' hq=>?_);obtain⟨rfl,h2,h3,h4⟩:=hq;exact⟨.inl ⟨.bool true,.bool true,[],rfl,fun _=>rfl,.bool true,Av l _,fun _=>⟨List.Pairwise.nil,fun _ hm=>(nomatch hm)⟩⟩,h2,h3,h4⟩
section
variable {prog:Program}{w:World}{A:Around}{E:Value->Shared->Prop}{s:Shared}{K:Frag}
end
end Att
namespace L2
theorem tu:∀ {vs:List Value}{ns:List Int},IntsAre vs ns->Vals (ns.map V.int) vs
 | _,_,.nil=>.nil
 | _,_,.cons n t h=>.cons ⟨t,rfl⟩ (tu h)
end L2
namespace L2
end L2
namespace L2
noncomputable def cH (s:Stmt):Arguments:=match s with
 | .FunctionDef _ a _ _ _ _ _ _ _ _=>a
 | _=>{ posonlyargs:=[],args:=[],vararg:=none,kwonlyargs:=[],kw_defaults:=[],kwarg:=none,defaults:=[] }
noncomputable def af (s:Stmt):List Stmt:=match s with
 | .FunctionDef _ _ b _ _ _ _ _ _ _=>b
 | _=>[]
noncomputable def ae (s:Stmt):Scope:=match s with
 | .FunctionDef _ _ _ _ _ _ sc _ _ _=>sc
 | _=>{ kind:=.function,names:=[],isGenerator:=false,isCoroutine:=false }
noncomputable abbrev CX0:CXT:=fun _ _ _ _ _ _=>False
noncomputable abbrev E0:XK:=fun _ _ _=>False
theorem Gi:rg CX0 X E0:=fun _ _ _ _ _ _ _ h=>h.elim
structure Fun (K:W.Frag)(x qual:Str)(st:Stmt)(f:Addr)(fd:FuncData):Prop where
 ex:∃(oc:Value) (od:Option Addr) (kV doc pm:Value) (an:Option Addr) (cdv ct:Value) (osl:Array (Option Value)),
  fd=W.fnOf x qual (cH st) (af st) (ae st) .none kV doc pm an cdv ct/\K.lookup f=some ⟨oc,od,.func fd,osl⟩/\W.codeIn K cdv qual=true
 kp:W.keepIn K (.ref f)=true
section
variable {P:Program}{w:World}{K:W.Frag}{mg:Str->Option Value}{base:Heap}
theorem Fun.ok {k:Nat}(F:Fun K x qual st f fd)(S:aj N ps (ae st))(len:∀vs H Q E,sp vs H Q E->vs.length=ps.length)(hbody:∀(cdv:Value) (A:Around) (outer:List Env) (s:Shared) (H:Hp) (vs:List V) (Q:VK) (E:XK),Room k (A.deeper (envOfC qual (ae st) s.heap.objs.size f cdv))->sp vs H Q E ->
   ∃t,PSs (j7 CX0 P w K mg base N qual (ae st) f cdv A outer s H E).nox (af st) t/\t { nx:=fun _ H'=>Q .non H',rt:=Q } (start N vs) H):pd P w K mg base CX0 (k+1) f fd ps sp:=by
 obtain⟨oc,od,kV,doc,pm,an,cdv,ct,osl,rfl,lk,hcd⟩:=F.ex;refine F_ lk hcd S len fun A outer s H vs Q E hr hsp=>?_;obtain⟨t,h,q⟩:=hbody cdv A outer s H vs Q E hr hsp;exact⟨t,h.nox,q⟩
theorem Fun.binds {ps:List Str}(F:Fun K x qual st f fd)(h:∀(kV doc pm:Value) (an:Option Addr) (cdv ct:Value) (us:List Value),us.length=ps.length->bindArgs (W.fnOf x qual (cH st) (af st) (ae st) .none kV doc pm an cdv ct) ⟨us,[]⟩=pure (ps.zip us)):Binds K fd ps []:=by
 obtain⟨oc,od,kV,doc,pm,an,cdv,ct,osl,rfl,lk,hcd⟩:=F.ex;exact .all (h kV doc pm an cdv ct)
theorem Bq {x qual:Str}{st:Stmt}{an:Option Addr}{kV doc pm cdv ct:Value}(l:K.lookup f=some ⟨oc,od,.func (W.fnOf x qual (cH st) (af st) (ae st) .none kV doc pm an cdv ct),osl⟩)(c:W.codeIn K cdv qual=true)(k:W.keepIn K (.ref f)=true):Fun K x qual st f (W.fnOf x qual (cH st) (af st) (ae st) .none kV doc pm an cdv ct):=⟨⟨oc,od,kV,doc,pm,an,cdv,ct,osl,rfl,l,c⟩,k⟩
end
section
variable {X:Cx}
end
theorem Ml {A B:Prop}(h:A):if true=true then A else B:=by rw[O0 rfl];exact h
def Same (H H':Hp):Prop:=∀b o,H b=some o->H' b=some o
theorem Same.seq (e:Same H H')(h:SqL K H a xs):SqL K H' a xs:=by
 rcases h with (h|⟨o,h⟩)|h
 ·exact .inl (.inl (e _ _ h))
 ·exact .inl (.inr ⟨o,e _ _ h⟩)
 ·exact .inr h
end L2
namespace HX
open L2
section
variable {X:Cx}{a b c:Expr}{ta tb tc:TE}{pos:Pos}
def CBig (j:Int):Prop:=0<j/\j.natAbs.log2<9000
def CMB (i j:Int):Prop:=i.natAbs<2 ^ 20000/\j.natAbs<2 ^ 20000\/(-(2 ^ 64)<i/\i<2 ^ 64)\/(-(2 ^ 64)<j/\j<2 ^ 64)
theorem zC {i:Int}{n:Nat}(h:i.natAbs<2 ^ n):Builtin.Int.intBits i<=n:=by
 unfold Builtin.Int.intBits;split
 ·exact P9 _
 ·rename_i hz;have h0:i.natAbs≠0:=by
   intro z;apply hz;have:i=0:=by omega
   simp[this]
  have:i.natAbs.log2<n:=(S8 h0).mpr h;omega
theorem CMB.ok {i j:Int}(h:CMB i j):IntMulOk i j:=by
 rcases h with⟨h1,h2⟩|⟨h1,h2⟩|⟨h1,h2⟩
 ·exact IntMulOk.of_le (zC h1) (zC h2) (by decide)
 ·exact .of_left (intBits_le_64 h1 h2)
 ·exact .of_right (intBits_le_64 h1 h2)
theorem CBig.of {j:Int}(h:0<j)(h2:j<2 ^ 8999):CBig j:=by
 refine⟨h,?_⟩;have h0:j.natAbs≠0:=by omega
 have:j.natAbs<2 ^ 8999:=by
  have e:((2:Int) ^ 8999)=((2 ^ 8999:Nat):Int):=by rw[TQ];rfl
  rw[e] at h2;generalize (2:Nat) ^ 8999=z at h2 |-
  omega
 have:=(S8 h0).mpr this;omega
theorem F8:OpR X (binaryOp .Mult) (rI CMB fun i j=>.int (i*j)):=opI fun _ _ _ _ _ _ _ hc q=>mul_int q hc.ok
theorem DS:OpR X (binaryOp .FloorDiv) (rI (fun _ j=>CBig j) fun i j=>.int (i/j)):=opI fun i j _ _ _ _ _ hc q=>by refine floordiv_int (by have:=hc.1;omega) ?_ (.inl (R4 hc.2));rw[Int.fdiv_eq_ediv_of_nonneg _ (TY hc.1)];exact q
theorem tO:dG X (.builtin "divmod") (fun xs H Q=>∃i j,xs=[.int i,.int j]/\CBig j/\∀p,H p=none->Q (.ref p) (upd H p (.tup [.int (i/j),.int (i % j)]))):=by intro pins s σ H xs us Q I r h;obtain⟨i,j,rfl,hc,q⟩:=h;obtain⟨u,v,rfl,⟨t,rfl⟩,⟨t',rfl⟩⟩:=oa r;refine divmod_int (by have:=hc.1;omega) ?_ (.inl (R4 hc.2));rw[Int.fdiv_eq_ediv_of_nonneg _ (TY hc.1),Int.fmod_eq_emod_of_nonneg _ (TY hc.1)];have hf:H s.heap.objs.size=none:=I.hok.fresh (OX _);refine⟨.ref s.heap.objs.size,upd H s.heap.objs.size (.tup [.int (i/j),.int (i % j)]),I.laid (t':=s.toks+1+1) (fun b u e=>OR _ e) (OX _) ?_,rfl,q _ hf⟩;exact⟨by show 2<=sizeLine;decide,[_,_],.cons ⟨_,rfl⟩ (.cons ⟨_,rfl⟩ .nil),⟨_,O5 _ rfl,rfl,_,rfl⟩⟩
theorem v7 (r:RelV x v)(k:Bool):(v == Value.bool k)=decide (x=.bl k):=by
 cases x with
 | non=>cases r;rfl
 | bl b=>cases r;cases b <;> cases k <;> rfl
 | int _=>obtain⟨t,rfl⟩:=r;rfl
 | str _=>obtain⟨t,rfl⟩:=r;rfl
 | byt _=>obtain⟨t,rfl⟩:=r;rfl
 | flt _=>obtain⟨t,rfl⟩:=r;rfl
 | ref _=>cases r;rfl
 | ty _=>cases r;rfl
theorem qd (r:RelV x v)(k:Bool):plainIs v (.bool k)=true:=by
 cases x with
 | non=>cases r;rfl
 | bl b=>cases r;rfl
 | int _=>obtain⟨t,rfl⟩:=r;rfl
 | str _=>obtain⟨t,rfl⟩:=r;rfl
 | byt _=>obtain⟨t,rfl⟩:=r;rfl
 | flt _=>obtain⟨t,rfl⟩:=r;rfl
 | ref _=>cases r;rfl
 | ty _=>cases r;rfl
noncomputable def Ox:R2:=fun x y H Q=>∃k,y=.bl k/\Q (.bl (decide (x=.bl k))) H
noncomputable def Fu:R2:=fun x y H Q=>∃k,y=.bl k/\Q (.bl (!decide (x=.bl k))) H
theorem HG:OpR X (compareOp .Is) Ox:=by intro pins s σ H x y v u Q I rx ry h;obtain⟨k,rfl,q⟩:=h;cases ry;exact wpAny_is_plain (qd rx k) ⟨.bl _,H,I,by rw[v7 rx k];rfl,q⟩
theorem Ag:OpR X (compareOp .IsNot) Fu:=by intro pins s σ H x y v u Q I rx ry h;obtain⟨k,rfl,q⟩:=h;cases ry;exact wpAny_isNot_plain (qd rx k) ⟨.bl _,H,I,by rw[v7 rx k];rfl,q⟩
noncomputable def bI (c n:String):Bool:=c == n || (n == "bool" && c == "int")
noncomputable def Ks (n c:String):Option Bool:=if (Value.type n == Value.type c)=true then some true else if W.kitMeta c=true then (fastBuiltinMro n).map (·.contains (.type c)) else none
theorem Fo (K:W.Frag)(n c:String):W.kitOne K (.type n) (.type c)=Ks n c:=rfl
theorem Cn:∀c∈["int","bool","str","tuple","list","dict"],∀n∈["NoneType","bool","int","str","list","tuple","dict"],Ks n c=some (bI c n):=by decide +kernel
theorem DA (K:W.Frag):∀c∈["int","bool","str","tuple","list","dict"],∀n∈["NoneType","bool","int","str","list","tuple","dict"],W.kitOne K (.type n) (.type c)=some (bI c n):=by intro c hc n hn;rw[Fo];exact Cn c hc n hn
end
end HX
namespace HX
open L2
theorem Ep {X:Cx}{pins:List (Addr × Obj)}{σ:L2.St}{H:Hp}{s:Shared}(I:Inv X pins σ H s):sysModules<s.heap.objs.size :=
 RX (by decide) (show mainGlobals<s.heap.objs.size from (I.mod.glob.keeps I.bk).lt)
noncomputable def IC:TE:=fun _ H Q=>∀p,H p=none->Q (.ref p) (upd H p (.dK []))
theorem Cj:PE X (.Dict [] [] pos) IC:=fun pins s σ H Q I h=>by refine wpAny_Dict_empty ⟨.ref s.heap.objs.size,_,I.laid (a:=s.heap.objs.size) (o:=.dK []) (t':=s.toks) (fun _ _ q=>OR _ q) (OX _) ?_,rfl,h _ (I.hok.fresh (OX _))⟩;exact⟨P9 _,beq_eq_false_iff_ne.mpr (Ne.symm (PN (Ep I))),[],.nil,Heap.DictOf.new _⟩
end HX
namespace HX
open L2
noncomputable abbrev D:=PyData
mutual
noncomputable def Den (K:W.Frag)(H:Hp):D->V->Prop
 | .none,v=>v=.non
 | .bool b,v=>v=.bl b
 | .int i,v=>v=.int i
 | .str x,v=>v=.str x
 | .tuple ds,v=>∃a xs,v=.ref a/\SqT K H a xs/\Dens K H ds xs
 | .list ds,v=>∃a xs,v=.ref a/\SqL K H a xs/\Dens K H ds xs
 | .dict _,_=>False
noncomputable def Dens (K:W.Frag)(H:Hp):List D->List V->Prop
 | [],xs=>xs=[]
 | d::ds,xs=>∃x r,xs=x::r/\Den K H d x/\Dens K H ds r
end
section
variable {K:W.Frag}{H H':Hp}{v:V}{xs:List V}
theorem den_int {i:Int}:Den K H (.int i) v↔v=.int i:=by unfold Den;exact T8
theorem den_bl {i:Bool}:Den K H (.bool i) v↔v=.bl i:=by unfold Den;exact T8
theorem den_str:Den K H (.str i) v↔v=.str i:=by unfold Den;exact T8
theorem den_non:Den K H .none v↔v=.non:=by unfold Den;exact T8
theorem den_tup {ds:List D}:Den K H (.tuple ds) v↔∃a xs,v=.ref a/\SqT K H a xs/\Dens K H ds xs:=by rw[Den]
theorem den_lst {ds:List D}:Den K H (.list ds) v↔∃a xs,v=.ref a/\SqL K H a xs/\Dens K H ds xs:=by rw[Den]
theorem wZ {ds:List (D × D)}:Den K H (.dict ds) v↔False:=by rw[Den]
theorem dens_nil:Dens K H [] xs↔xs=[]:=by unfold Dens;exact T8
theorem nP {d:D}{ds:List D}:Dens K H (d::ds) xs↔∃x r,xs=x::r/\Den K H d x/\Dens K H ds r:=by rw[Dens]
theorem dens_cons' {d:D}{ds:List D}{x:V}:Dens K H (d::ds) (x::xs)↔Den K H d x/\Dens K H ds xs:=by
 rw[nP];constructor
 ·rintro⟨_,_,e,h1,h2⟩;cases e;exact⟨h1,h2⟩
 ·rintro⟨h1,h2⟩;exact⟨_,_,rfl,h1,h2⟩
theorem Bu (e:Same H H')(h:SqT K H a xs):SqT K H' a xs:=by
 rcases h with (h|⟨o,h⟩)|h
 ·exact .inl (.inl (e _ _ h))
 ·exact .inl (.inr ⟨o,e _ _ h⟩)
 ·exact .inr h
end
mutual
theorem Den.mono (e:Same H H'):∀ {d:D}{v:V},Den K H d v->Den K H' d v
 | .none,v,h=>by rw[den_non] at h |-;exact h
 | .bool b,v,h=>by rw[den_bl] at h |-;exact h
 | .int b,v,h=>by rw[den_int] at h |-;exact h
 | .str b,v,h=>by rw[den_str] at h |-;exact h
 | .dict b,v,h=>by rw[wZ] at h;exact h.elim
 | .tuple ds,v,h=>by
  rw[den_tup] at h |-
  obtain⟨a,xs,h1,h2,h3⟩:=h;exact⟨a,xs,h1,Bu e h2,Dens.mono e h3⟩
 | .list ds,v,h=>by
  rw[den_lst] at h |-
  obtain⟨a,xs,h1,h2,h3⟩:=h;exact⟨a,xs,h1,Same.seq e h2,Dens.mono e h3⟩
theorem Dens.mono (e:Same H H'):∀ {ds:List D}{xs:List V},Dens K H ds xs->Dens K H' ds xs
 | [],xs,h=>by rw[dens_nil] at h |-;exact h
 | d::ds,xs,h=>by
  rw[nP] at h |-
  obtain⟨x,r,h1,h2,h3⟩:=h;exact⟨x,r,h1,Den.mono e h2,Dens.mono e h3⟩
end
section
variable {X:Cx}{pins:List (Addr × Obj)}{σ:L2.St}{H:Hp}{s:Shared}
mutual
theorem Den.reads (I:Inv X pins σ H s):∀(d:D) (v:V) (u:Value),Den X.K H d v->RelV v u->∃as,Reads s.heap u d as
 | .none,v,u,h,r=>by rw[den_non] at h;subst h;cases r;exact⟨_,.none⟩
 | .bool b,v,u,h,r=>by rw[den_bl] at h;subst h;cases r;exact⟨_,.bool b⟩
 | .int b,v,u,h,r=>by rw[den_int] at h;subst h;obtain⟨t,rfl⟩:=r;exact⟨_,.int b t⟩
 | .str b,v,u,h,r=>by rw[den_str] at h;subst h;obtain⟨t,rfl⟩:=r;exact⟨_,.str b t⟩
 | .dict b,v,u,h,r=>by rw[wZ] at h;exact h.elim
 | .tuple ds,v,u,h,r=>by rw[den_tup] at h;obtain⟨a,xs,rfl,h2,h3⟩:=h;cases r;obtain⟨its,rv,⟨o,ho,hc,n,hd⟩,_⟩:=I.tuple h2;obtain⟨as,hr⟩:=Dens.reads I ds xs its h3 rv;exact⟨as,.tuple ho hc hd (by simpa using hr)⟩
 | .list ds,v,u,h,r=>by rw[den_lst] at h;obtain⟨a,xs,rfl,h2,h3⟩:=h;cases r;obtain⟨its,rv,p,_⟩:=I.list h2;obtain⟨o,ho,hc,n,hd⟩:=p.isList;obtain⟨as,hr⟩:=Dens.reads I ds xs its h3 rv;exact⟨_,.list ho hc hd (by simpa using hr)⟩
theorem Dens.reads (I:Inv X pins σ H s):∀(ds:List D) (xs:List V) (us:List Value),Dens X.K H ds xs->Vals xs us->∃as,ReadsAll s.heap us ds as
 | [],xs,us,h,r=>by rw[dens_nil] at h;subst h;cases r;exact⟨_,.nil⟩
 | d::ds,xs,us,h,r=>by
  rw[nP] at h;obtain⟨x,q,rfl,h2,h3⟩:=h;cases r with
  | cons r1 r2 =>obtain⟨as,h4⟩:=Den.reads I d x _ h2 r1;obtain⟨bs,h5⟩:=Dens.reads I ds q _ h3 r2;exact⟨_,.cons h4 h5⟩
end
end
section
variable {X:Cx}
noncomputable def NV (K:W.Frag):R2:=fun x y H Q=>∃d e,Den K H d x/\Den K H e y/\SeqAt.shaped d=true/\SeqAt.shaped e=true/\Q (.bl (PyData.eqv d e)) H
noncomputable def Oy (K:W.Frag):R2:=fun x y H Q=>∃d e,Den K H d x/\Den K H e y/\SeqAt.shaped d=true/\SeqAt.shaped e=true/\Q (.bl (!PyData.eqv d e)) H
theorem IL (hu:X.A.units+64<cLine):OpR X (compareOp .Eq) (NV X.K):=by intro pins s σ H x y v u Q I rx ry h;obtain⟨d,e,h1,h2,h3,h4,q⟩:=h;obtain⟨as,ra⟩:=Den.reads I d x v h1 rx;obtain⟨bs,rb⟩:=Den.reads I e y u h2 ry;exact eq_dataH ra rb h3 h4 hu ⟨.bl _,H,I,rfl,q⟩
theorem Jj (hu:X.A.units+64<cLine):OpR X (compareOp .NotEq) (Oy X.K):=by intro pins s σ H x y v u Q I rx ry h;obtain⟨d,e,h1,h2,h3,h4,q⟩:=h;obtain⟨as,ra⟩:=Den.reads I d x v h1 rx;obtain⟨bs,rb⟩:=Den.reads I e y u h2 ry;exact ne_dataH ra rb h3 h4 hu ⟨.bl _,H,I,rfl,q⟩
structure Has (P:Program)(w:World)(K:W.Frag)(mg:Str->Option Value)(base:Heap)(k:Nat)(x:Str)(ps:List Str)(sp:Sp):Prop where
 ex:∃(f:Addr) (fd:FuncData),pd P w K mg base CX0 k f fd ps sp/\mg x=some (.ref f)/\W.keepIn K (.ref f)=true/\Binds K fd ps []
structure At (K:W.Frag)(mg:Str->Option Value)(x:Str)(st:Stmt)(ps:List Str):Prop where
 ex:∃(f:Addr) (fd:FuncData),Fun K x x st f fd/\mg x=some (.ref f)/\Binds K fd ps []
theorem At.mk' {K:W.Frag}{ps:List Str}{an:Option Addr}{kV doc pm cdv ct:Value}(X:K.In h)(G:h.Ns mainGlobals mg)(hb:∀(kV doc pm:Value) (an:Option Addr) (cdv ct:Value) (us:List Value),us.length=ps.length->bindArgs (W.fnOf x x (cH st) (af st) (ae st) .none kV doc pm an cdv ct) ⟨us,[]⟩=pure (ps.zip us))(a:W.nsIn K mainGlobals x=some (some (.ref f)))(l:K.lookup f=some ⟨oc,od,.func (W.fnOf x x (cH st) (af st) (ae st) .none kV doc pm an cdv ct),osl⟩)(c:W.codeIn K cdv x=true)(k:W.keepIn K (.ref f)=true):At K mg x st ps:=by
 have F:=Bq (st:=st) l c k;exact⟨f,_,F,RY X G a,F.binds hb⟩
theorem At.ok {k:Nat}(F:At K mg x st ps)(S:aj N ps (ae st))(len:∀vs H Q E,sp vs H Q E->vs.length=ps.length)(hbody:∀(f:Addr) (cdv:Value) (A:Around) (outer:List Env) (s:Shared) (H:Hp) (vs:List V) (Q:VK) (E:XK),Room k (A.deeper (envOfC x (ae st) s.heap.objs.size f cdv))->sp vs H Q E ->
   ∃t,PSs (j7 CX0 P w K mg base N x (ae st) f cdv A outer s H E).nox (af st) t/\t { nx:=fun _ H'=>Q .non H',rt:=Q } (start N vs) H):Has P w K mg base (k+1) x ps sp:=by
 obtain⟨f,fd,Ff,m,b⟩:=F.ex;exact⟨f,fd,Ff.ok S len (fun cdv A outer s H vs Q E hr h=>hbody f cdv A outer s H vs Q E hr h),m,Ff.kp,b⟩
theorem IV {k:Nat}{x:Str}{ps:List Str}{sp:Sp}{p pos:Pos}{e:Expr}{es:List Expr}{t:TA}(F:Has X.prog X.w X.K X.mg X.base k x ps sp)(hr:Room k X.A)(ha:PA X (e::es) t)
  (hg:Gl X x:=by rfl) (hdb:(x == ("__debug__":Str))=false:=by decide) (he:starEach (e::es) X.env=(false,eval e X.env)::starEach es X.env:=by rfl) (hpl:(backTo pos (starEach es X.env)).any (·.1)=false:=by rfl) :
  PE X (.Call (.Name x p) (e::es) [] pos) (lj sp [] E0 t):=by
 obtain⟨f,fd,F,m,kp,b⟩:=F.ex;exact yR F hr hg m kp b .nil Gi ha hdb he hpl
theorem FO {k:Nat}{x:Str}{ps:List Str}{sp:Sp}{p pos:Pos}(F:Has X.prog X.w X.K X.mg X.base k x ps sp)(hr:Room k X.A)
  (hg:Gl X x:=by rfl) (hdb:(x == ("__debug__":Str))=false:=by decide) :
  PE X (.Call (.Name x p) [] [] pos) (lj sp [] E0 kb):=by
 obtain⟨f,fd,F,m,kp,b⟩:=F.ex;exact Cg F hr hg m kp b .nil Gi hdb
end
end HX
namespace HX
open L2
noncomputable def ak:Expr->Bool
 | .Starred ..=>false
 | _=>true
theorem aw {es:List Expr}(h:ak e=true):starEach (e::es) env=(false,eval e env)::starEach es env:=by cases e <;> first|rfl|cases h
theorem w4:∀ {es:List Expr},es.all ak=true->(starEach es env).any (·.1)=false
 | [],_=>rfl
 | e::es,h=>by rw[QM,OU] at h;rw[aw h.1,QE,w4 h.2];rfl
noncomputable def mD:Expr->Bool
 | .Slice ..=>false
 | _=>true
theorem K6 (h:mD b=true):zj b:=fun o i=>by cases b <;> first|rfl|cases h
section
variable {X:Cx}
theorem pac (ha:PE X e te)(hr:PA X es t)(h:ak e=true:=by rfl):PA X (e::es) (cy te t):=Fc ha hr (aw h)
theorem Ce (hr:IxR X r)(ha:PE X a ta)(hb:PE X b tb)(hs:mD b=true:=by rfl):PE X (.Subscript a b pos) (tOp r ta tb):=KL hr ha hb (K6 hs)
theorem g9 {es:List Expr}(h:es.all ak=true):(backTo pos (starEach es env)).any (·.1)=false:=by have:=w4 (env:=env) h;unfold backTo;rw[List.any_map];exact this
theorem EL {k:Nat}{x:Str}{ps:List Str}{sp:Sp}{p pos:Pos}{e:Expr}{es:List Expr}{t:TA}(F:Has X.prog X.w X.K X.mg X.base k x ps sp)(hr:Room k X.A)(ha:PA X (e::es) t)
  (hg:Gl X x:=by rfl) (hdb:(x == ("__debug__":Str))=false:=by decide) (he:ak e=true:=by rfl) (hpl:es.all ak=true:=by rfl) :
  PE X (.Call (.Name x p) (e::es) [] pos) (lj sp [] E0 t):=IV F hr ha hg hdb (aw he) (g9 hpl)
theorem iq {id:String}{r:List V->Hp->VK->Prop}{x:Str}{p pos:Pos}{e:Expr}{es:List Expr}{t:TA}(hc:dG X (.builtin id) r)(hg:Gl X x)(hm:X.mg x=none)(hv:bootBuiltins x=some (.builtin id))(ha:PA X (e::es) t)(hn:x≠"__name__":=by decide)(hdb:(x == ("__debug__":Str))=false:=by decide)
  (he:ak e=true:=by rfl) (hpl:es.all ak=true:=by rfl):PE X (.Call (.Name x p) (e::es) [] pos) (tCB r t):=BW hc hg hm hv ha hn hdb (aw he) (g9 hpl)
theorem qT {T:String}{r:List V->Hp->VK->Prop}{x:Str}{p pos:Pos}{e:Expr}{es:List Expr}{t:TA}(hc:dG X (.type T) r)(hg:Gl X x)(hm:X.mg x=none)(hv:bootBuiltins x=some (.type T))(ha:PA X (e::es) t)(hn:x≠"__name__":=by decide)(hdb:(x == ("__debug__":Str))=false:=by decide)
  (he:ak e=true:=by rfl) (hpl:es.all ak=true:=by rfl):PE X (.Call (.Name x p) (e::es) [] pos) (tCB r t):=AU hc hg hm hv ha hn hdb (aw he) (g9 hpl)
end
end HX
namespace L2
section
variable {κ:Type} [DecidableEq κ]
end
section
variable {P:Program}{w:World}{H:Hp}{h:Heap}{a:Addr}
end
section
variable {X:Cx}{pins:List (Addr × Obj)}{σ:St}{H:Hp}{s:Shared}{a:Addr}{y v:V}{u r:Value}{o:Option V}{A:Around}{E:Value->Shared->Prop}
end
section
variable {X:Cx}{pins:List (Addr × Obj)}{σ:St}{H:Hp}{s:Shared}{a:Addr}{kvs:List (Key × V)}{k:Key}{u:Value}{A:Around}{E:Value->Shared->Prop}
end
section
variable {X:Cx}{pins:List (Addr × Obj)}{σ:St}{H:Hp}{s:Shared}{a:Addr}{kvs:List (Key × V)}{A:Around}{E:Value->Shared->Prop}
end
section
variable {X:Cx}{pins:List (Addr × Obj)}{σ:St}{H:Hp}{s:Shared}{a:Addr}{y d:V}{u r:Value}{o:Option V}{A:Around}{E:Value->Shared->Prop}
end
end L2
namespace FW
open L2
def MZ (xs:Array Nat):Prop:=∀i j,i<j->j<xs.size->xs.getD i 0<xs.getD j 0
structure LG (b:Bool)(t:SetTable):Prop where
 ris:MZ t.place
 led:t.led=b
noncomputable def toI:Value->Int
 | .int n _=>n
 | _=>0
section
variable {prog:Program}{w:World}{A:Around}{E:Value->Shared->Prop}{s:Shared}
def EI (prog:Program)(w:World)(e:Int × Value):Prop:=∃(k:Int) (t:Tok),e=((intKind prog w).hash k,.int k t)
structure MY (prog:Program)(w:World)(b:Bool)(es:Array (Int × Value))(t:SetTable)(zs:List Int):Prop where
 el:∀e∈es.toList,EI prog w e
 nd:(es.toList.map fun e=>toI e.2).Nodup
 mem:∀i,i∈(es.toList.map fun e=>toI e.2)↔i∈zs
 ln:es.size<=zs.length
 fit:t.fits es.size=true
 ok:LG b t
noncomputable abbrev J9 (es:Array (Int × Value))(ep:Nat)(t:SetTable):Obj:={ cls:=.type "set",dict:=none,data:=.set es ep t }
def NB (prog:Program)(w:World)(b:Bool)(h:Heap)(a:Addr)(zs:List Int):Prop:=∃es ep t,h.get? a=some (J9 es ep t)/\MY prog w b es t zs
end
end FW
namespace FW
noncomputable abbrev byT (w:World):Bool:=w.params.followText "set-order"
section
variable {prog:Program}{w:World}{A:Around}{E:Value->Shared->Prop}{s:Shared}
end
end FW
namespace FW
section
variable {prog:Program}{w:World}{A:Around}{E:Value->Shared->Prop}{s:Shared}
set_option maxHeartbeats 3200000 in
end
end FW
namespace L2
section
variable {X:Cx}
end
end L2
namespace L2
structure OM (h:Heap)(f:Addr)(qual:Str)(params:Arguments)(body:Expr)(scope:Scope)(cl:List (Str × Addr)):Prop where
 ex:∃pm c' ctv,h.get? f=some (W.kla_obj "<lambda>" qual params body scope cl pm c' ctv)/\h.CodeRec (.ref c') qual
structure LZ (x:Str)(scope:Scope)(cl:List (Str × Addr)):Prop where
 kind:scope.kind=.function
 co:scope.isCoroutine=false
 gen:scope.isGenerator=false
 nocell:∀y∈scope.names,y.2≠.cell
 par:scope.names.lookup x=some .local
 free:∀y,scope.names.lookup y=some .free->∃c,cl.lookup y=some c
 inj:∀y z c,cl.lookup y=some c->cl.lookup z=some c->y=z
end L2
namespace L2
def Hx (oc:Obj)(q:Str):Prop:=∃vs t,oc.data=.fields vs/\vs[1]?=some (.str q t)
end L2
namespace FW
open PySem L2 HX
set_option genInjectivity true
set_option genCtorIdx true
inductive PV where
 | non|bl (b:Bool)|int (i:Int)|str (x:Str)|tup (xs:List PV)|ref (n:Nat)|rdl (xs:List PV)|fn (a:Nat)
 deriving Inhabited
inductive Cell where
 | lst (xs:List PV)
 | dk (kvs:List (Key × PV))
 | fz (kvs:List (Key × PV))
noncomputable abbrev AH:=List Cell
noncomputable abbrev Fr:=List (Option PV)
noncomputable abbrev EK:=PV->AH->Prop
noncomputable abbrev LK:=List PV->AH->Prop
noncomputable abbrev BK:=Bool->AH->Prop
noncomputable abbrev FSp:=List PV->AH->EK->Prop
mutual
noncomputable def PV.bel (k:Nat):PV->Bool
 | .ref n=>decide (n<k)
 | .tup xs=>PV.bels k xs
 | .rdl xs=>PV.bels k xs
 | .non=>true
 | .bl _=>true
 | .int _=>true
 | .str _=>true
 | .fn _=>false
noncomputable def PV.bels (k:Nat):List PV->Bool
 | []=>true
 | x::xs=>x.bel k && PV.bels k xs
end
mutual
noncomputable def PV.bec (k:Nat):PV->Bool
 | .ref n=>decide (n<k)
 | .tup xs=>PV.becs k xs
 | .rdl xs=>PV.becs k xs
 | .non=>true
 | .bl _=>true
 | .int _=>true
 | .str _=>true
 | .fn _=>true
noncomputable def PV.becs (k:Nat):List PV->Bool
 | []=>true
 | x::xs=>x.bec k && PV.becs k xs
end
mutual
theorem PV.bel_bec {i j:Nat}(h:i<=j):∀ {v:PV},v.bel i=true->v.bec j=true
 | .non,_=>by rw[PV.bec]
 | .bl _,_=>by rw[PV.bec]
 | .int _,_=>by rw[PV.bec]
 | .str _,_=>by rw[PV.bec]
 | .ref n,z=>by rw[PV.bel] at z;rw[PV.bec];have:=P2 z;exact PJ (by omega)
 | .tup xs,z=>by rw[PV.bel] at z;rw[PV.bec];exact PV.bels_becs h z
 | .rdl xs,z=>by rw[PV.bel] at z;rw[PV.bec];exact PV.bels_becs h z
 | .fn _,z=>by rw[PV.bel] at z;cases z
theorem PV.bels_becs {i j:Nat}(h:i<=j):∀ {vs:List PV},PV.bels i vs=true->PV.becs j vs=true
 | [],_=>by rw[PV.becs]
 | v::vs,z=>by rw[PV.bels,OU] at z;rw[PV.becs,OU];exact⟨PV.bel_bec h z.1,PV.bels_becs h z.2⟩
end
noncomputable def Cell.bec (k:Nat):Cell->Bool
 | .lst xs=>PV.becs k xs
 | .dk kvs=>PV.becs k (kvs.map (·.2))
 | .fz kvs=>PV.becs k (kvs.map (·.2))
noncomputable def Cell.bel (k:Nat):Cell->Bool
 | .lst xs=>PV.bels k xs
 | .dk kvs=>PV.bels k (kvs.map (·.2))
 | .fz _=>false
mutual
noncomputable def PV.toD:PV->Option PyData
 | .non=>some .none
 | .bl b=>some (.bool b)
 | .int i=>some (.int i)
 | .str x=>some (.str x)
 | .tup xs=>(PV.toDs xs).map .tuple
 | .rdl xs=>(PV.toDs xs).map .list
 | .ref _=>none
 | .fn _=>none
noncomputable def PV.toDs:List PV->Option (List PyData)
 | []=>some []
 | x::xs=>match x.toD,PV.toDs xs with
  | some d,some ds=>some (d::ds)
  | _,_=>none
end
noncomputable def lP (st:AH):PV->Option PyData
 | .ref n=>match st[n]? with
  | some (.lst xs)=>(PV.toDs xs).map .list
  | _=>none
 | v=>v.toD
def eqW (st:AH)(x y:PV)(k:Bool->Prop):Prop :=
 match x,y with
 | .int i,.int j=>k (decide (i=j))
 | .bl a,.bl b=>k (decide (a=b))
 | .str a,.str b=>k (decide (a=b))
 | x,y=>∃d e,lP st x=some d/\lP st y=some e/\SeqAt.shaped d=true/\SeqAt.shaped e=true/\k (PyData.eqv d e)
noncomputable def bT (st:AH):PV->Option String
 | .non=>some "NoneType"
 | .bl _=>some "bool"
 | .int _=>some "int"
 | .str _=>some "str"
 | .tup _=>some "tuple"
 | .rdl _=>some "list"
 | .ref n=>match st[n]? with
  | some (.lst _)=>some "list"
  | some (.dk _)=>some "dict"
  | some (.fz _)=>some "dict"
  | none=>none
 | .fn _=>none
noncomputable def bH (st:AH):PV->Option (List PV)
 | .rdl xs=>some xs
 | .ref n=>match st[n]? with
  | some (.lst xs)=>some xs
  | _=>none
 | _=>none
noncomputable def bP (st:AH):PV->Option (List PV)
 | .tup xs=>some xs
 | v=>bH st v
noncomputable def fg:PV->Bool
 | .non=>true
 | _=>false
noncomputable def Dg:PV->Bool
 | .non=>true
 | .int _=>true
 | _=>false
noncomputable def oW (k:Bool):PV->Bool
 | .bl b=>b == k
 | _=>false
noncomputable def jc (xs:List PV)(lo hi:Option Int):List PV:=(xs.drop (HT.sIx xs.length 0 lo)).take (HT.sIx xs.length xs.length hi-HT.sIx xs.length 0 lo)
noncomputable def b2z (b:Bool):Int:=if b then 1 else 0
def iiW (f:Int->Int->Prop)(x y:PV):Prop :=
 match x with
 | .int i=>match y with
  | .int j=>f i j
  | _=>False
 | _=>False
def NP (x y:PV)(st:AH)(Q:EK):Prop :=
 match x with
 | .int i=>match y with
  | .int j=>Q (.int (i+j)) st
  | _=>False
 | .ref n=>match y with
  | .ref k=>∃xs ys,st[n]?=some (.lst xs)/\st[k]?=some (.lst ys)/\xs.length+ys.length<=100000/\Q (.ref st.length) (st++[.lst (xs++ys)])
  | _=>False
 | .tup xs=>match y with
  | .tup ys=>xs.length+ys.length<=100000/\Q (.tup (xs++ys)) st
  | _=>False
 | .str a=>match y with
  | .str b=>a.length+b.length<=100000/\Q (.str (a++b)) st
  | _=>False
 | _=>False
noncomputable def kT (z:Str)(n:Nat):Str:=⟨(List.replicate n z.cps).foldl (·++ ·) #[]⟩
def NF (x y:PV)(st:AH)(Q:EK):Prop :=
 match x with
 | .str z=>match y with
  | .int k=>2<=k/\k<2 ^ 30/\0<z.length/\z.length*k.toNat<=100000/\Q (.str (kT z k.toNat)) st
  | _=>False
 | .int i=>match y with
  | .int j=>CMB i j/\Q (.int (i*j)) st
  | _=>False
 | .ref n=>match y with
  | .int k=>∃xs,st[n]?=some (.lst xs)/\-(2 ^ 63)<=k/\k<2 ^ 63/\xs.length*k.toNat<=100000/\Q (.ref st.length) (st++[.lst (List.replicate k.toNat xs).flatten])
  | _=>False
 | _=>False
def ke (op:Operator)(x y:PV)(st:AH)(Q:EK):Prop :=
 match op with
 | .Add=>NP x y st Q
 | .Sub=>iiW (fun i j=>Q (.int (i-j)) st) x y
 | .Mult=>NF x y st Q
 | .FloorDiv=>iiW (fun i j=>CBig j/\Q (.int (i/j)) st) x y
 | .Mod=>iiW (fun i j=>0<j/\Q (.int (i % j)) st) x y
 | .Pow=>iiW (fun i j=>yt i j/\Q (.int (i ^ j.toNat)) st) x y
 | _=>False
noncomputable def NW (kvs:List (Key × PV))(k:Key)(v:PV):List (Key × PV) :=
 if (kvs.any fun kv=>decide (kv.1=k))=true then kvs.map (fun kv=>if kv.1=k then (kv.1,v) else kv) else kvs++[(k,v)]
inductive DW where
 | keys|items|values
 deriving DecidableEq
noncomputable def Gv (ps:List (Str × PV)):List (Key × PV):=ps.foldl (fun d p=>NW d (.inr p.1) p.2) []
def inR (a:Str)(n:Nat)(st:AH)(k:Bool->Prop):Prop:=(∃ns:List Str,st[n]?=some (.lst (ns.map PV.str))/\k (ns.any fun j=>j == a))\/False
def dC (op:CmpOp)(x y:PV)(st:AH)(Q:EK):Prop :=
 match op with
 | .Eq=>eqW st x y fun k=>Q (.bl k) st
 | .NotEq=>eqW st x y fun k=>Q (.bl (!k)) st
 | .Is=>match y with
  | .non=>Q (.bl (fg x)) st
  | .bl k=>Q (.bl (oW k x)) st
  | _=>False
 | .IsNot=>match y with
  | .non=>Q (.bl (!fg x)) st
  | .bl k=>Q (.bl (!oW k x)) st
  | _=>False
 | .Lt=>match x,y with
  | .str a,.str b=>Q (.bl (decide (a.cps.toList<b.cps.toList))) st
  | .int i,.int j=>Q (.bl (decide (i<j))) st
  | _,_=>False
 | .LtE=>match x,y with
  | .int i,.int j=>Q (.bl (decide (i<=j))) st
  | _,_=>False
 | .Gt=>match x,y with
  | .str a,.str b=>Q (.bl (decide (b.cps.toList<a.cps.toList))) st
  | .int i,.int j=>Q (.bl (decide (j<i))) st
  | _,_=>False
 | .GtE=>match x,y with
  | .int i,.int j=>Q (.bl (decide (j<=i))) st
  | _,_=>False
 | .In=>match x,y with
  | .str a,.str b=>Q (.bl (!(Builtin.Str.occurrences b a 0 b.length 1).isEmpty)) st
  | .non,.tup xs=>xs.all Dg=true/\Q (.bl (xs.any fg)) st
  | .int i,.tup xs=>∃ns:List Int,xs=ns.map PV.int/\Q (.bl (ns.any fun j=>j == i)) st
  | .str a,.tup xs=>∃ns:List Str,xs=ns.map PV.str/\Q (.bl (ns.any fun j=>j == a)) st
  | .str a,.ref n=>inR a n st fun k=>Q (.bl k) st
  | _,_=>False
 | .NotIn=>match x,y with
  | .str a,.str b=>Q (.bl (!(!(Builtin.Str.occurrences b a 0 b.length 1).isEmpty))) st
  | .int i,.tup xs=>∃ns:List Int,xs=ns.map PV.int/\Q (.bl (!(ns.any fun j=>j == i))) st
  | .str a,.tup xs=>∃ns:List Str,xs=ns.map PV.str/\Q (.bl (!(ns.any fun j=>j == a))) st
  | .str a,.ref n=>inR a n st fun k=>Q (.bl (!k)) st
  | _,_=>False
def xB (o:Option (Option PV))(f:PV->Prop):Prop :=
 match o with
 | some (some v)=>f v
 | _=>False
theorem lD (h:xB o f):∃v,o=some (some v)/\f v:=by
 cases o with
 | none=>exact False.elim h
 | some o=>cases o with|none=>exact False.elim h|some v=>exact⟨v,rfl,h⟩
theorem uO {o:Option (Option PV)}{f:PV->Prop}(e:o=some (some v))(h:f v):xB o f:=by subst e;exact h
theorem Ax:xB (some (some v)) f=f v:=rfl
def ixI (i:Int)(st:AH)(Q:EK)(x:PV):Prop :=
 match x with
 | .str z=>z.length<=100000/\∃c,atI z.cps.toList i=some c/\Q (.str ⟨#[c]⟩) st
 | x=>∃xs,bP st x=some xs/\∃v,atI xs i=some v/\Q v st
theorem yG {i:Int}(h:ixI i st Q x):(∃z c,x=.str z/\z.length<=100000/\atI z.cps.toList i=some c/\Q (.str ⟨#[c]⟩) st)\/∃xs v,bP st x=some xs/\atI xs i=some v/\Q v st:=by
 cases x with
 | str z=>exact .inl ⟨z,h.2.choose,rfl,h.1,h.2.choose_spec⟩
 | _=>obtain⟨xs,e,v,e2,q⟩:=h;exact .inr ⟨xs,v,e,e2,q⟩
theorem F4 {i:Int}{Q:EK}(e:bP st x=some xs)(e2:atI xs i=some v)(h:Q v st):ixI i st Q x:=by cases x with|str z=>cases e|_=>exact⟨xs,e,v,e2,h⟩
def ixD (z:Str)(st:AH)(Q:EK)(x:PV):Prop:=False
def ixW (x y:PV)(st:AH)(Q:EK):Prop :=
 match y with
 | .int i=>ixI i st Q x
 | .str z=>ixD z st Q x
 | _=>False
noncomputable def je (z:Str)(lo hi:Option Int):Str:=if ((Builtin.Str.strSliceIndices lo hi 1 z.length).length == z.length)=true then z else ⟨((Builtin.Str.strSliceIndices lo hi 1 z.length).filterMap (z.cps[·]?)).toArray⟩
noncomputable def oG (z y:Str):List PV :=
 match Builtin.Str.occurrences z y 0 z.length 1 with
 | i::_=>[.str (Builtin.Str.strSub z 0 i),.str y,.str (Builtin.Str.strSub z (i+y.length) z.length)]
 | []=>[.str z,.str Str.empty,.str Str.empty]
def stW (f:Str->Prop)(x:PV):Prop :=
 match x with
 | .str b=>f b
 | _=>False
def slW (x:PV)(lo hi:Option Int)(st:AH)(Q:EK):Prop :=
 match x with
 | .str z=>z.length<=100000/\Q (.str (je z lo hi)) st
 | .tup xs=>Q (.tup (jc xs lo hi)) st
 | x=>∃xs,bH st x=some xs/\Q (.ref st.length) (st++[.lst (jc xs lo hi)])
def Jb (st:AH)(Q:EK)(x:PV):Prop :=
 match x with
 | .str z=>z.length<=100000/\Q (.int z.length) st
 | x=>∃xs,bP st x=some xs/\Q (.int xs.length) st
theorem vN (h:Jb st Q x):(∃z,x=.str z/\z.length<=100000/\Q (.int z.length) st)\/∃xs,bP st x=some xs/\Q (.int xs.length) st:=by cases x with|str z=>exact .inl ⟨z,rfl,h⟩|_=>exact .inr h
theorem BO {Q:EK}(e:bP st x=some xs)(h:Q (.int xs.length) st):Jb st Q x:=by cases x with|str z=>cases e|_=>exact⟨xs,e,h⟩
def Gh (st:AH)(Q:EK)(x:PV):Prop :=
 match x with
 | .bl b=>Q (.int (b2z b)) st
 | .str z=>z.length<=640/\∃n,PySem.intText? z=some n/\Q (.int n) st
 | _=>False
theorem sC (h:Gh st Q x):(∃b,x=.bl b/\Q (.int (b2z b)) st)\/∃z n,x=.str z/\z.length<=640/\PySem.intText? z=some n/\Q (.int n) st:=by cases x with|bl b=>exact .inl ⟨b,rfl,h⟩|str z=>exact .inr ⟨z,h.2.choose,rfl,h.1,h.2.choose_spec⟩|_=>exact False.elim h
noncomputable def bQ {α:Type}:List (Option α)->Option (List α)
 | []=>some []
 | some x::r=>(bQ r).map (x::·)
 | none::_=>none
inductive B where
 | len|max2|min2|divmod|int1|str1|tuple1|list1|all1|any1|abs1|sorted1|repr1|sortS|max1|sortD
 deriving DecidableEq
noncomputable def mz:List PV->Option (List Bool)
 | []=>some []
 | .bl b::r=>(mz r).map (b::·)
 | _::_=>none
def uH (f:PV->Prop)(vs:List PV):Prop :=
 match vs with
 | [x]=>f x
 | _=>False
def Dj (f:PV->PV->Prop)(vs:List PV):Prop :=
 match vs with
 | [x,y]=>f x y
 | _=>False
def inW (f:Int->Prop)(x:PV):Prop :=
 match x with
 | .int b=>f b
 | _=>False
def fJ (b:B)(vs:List PV)(st:AH)(Q:EK):Prop :=
 match b with
 | .len=>uH (Jb st Q) vs
 | .max2=>Dj (iiW fun i j=>Q (.int (if i<j then j else i)) st) vs
 | .min2=>Dj (iiW fun i j=>Q (.int (if j<i then j else i)) st) vs
 | .divmod=>Dj (iiW fun i j=>CBig j/\Q (.tup [.int (i/j),.int (i % j)]) st) vs
 | .int1=>uH (Gh st Q) vs
 | .str1=>uH (inW fun i=>i.natAbs.log2<1920/\Q (.str (toString i)) st) vs
 | .tuple1=>uH (fun x=>∃xs,bP st x=some xs/\Q (.tup xs) st) vs
 | .list1=>False
 | .all1=>uH (fun x=>∃xs bs,bH st x=some xs/\mz xs=some bs/\Q (.bl (bs.all id)) st) vs
 | .any1=>False
 | .abs1=>uH (inW fun i=>Q (.int i.natAbs) st) vs
 | .sorted1=>False
 | .repr1=>False
 | .sortS=>False
 | .max1=>False
 | .sortD=>False
inductive M where
 | append|pop0|extend|insert|count|index|popI
 deriving DecidableEq
def rfW (f:Nat->Prop)(x:PV):Prop :=
 match x with
 | .ref n=>f n
 | _=>False
def uR (m:M)(x:PV)(vs:List PV)(st:AH)(Q:EK):Prop :=
 match m with
 | .append=>rfW (fun n=>uH (fun v=>∃xs,st[n]?=some (.lst xs)/\xs.length<100000/\Q .non (st.set n (.lst (xs++[v])))) vs) x
 | .pop0=>False
 | .extend=>False
 | .insert=>rfW (fun n=>Dj (fun i v=>inW (fun i=>∃xs,st[n]?=some (.lst xs)/\xs.length<100000/\0<=i/\i<=xs.length/\Q .non (st.set n (.lst (xs.take i.toNat++v::xs.drop i.toNat)))) i) vs) x
 | .count=>False
 | .index=>False
 | .popI=>rfW (fun n=>uH (inW fun i=>∃xs v,st[n]?=some (.lst xs)/\0<=i/\i<100000/\xs[i.toNat]?=some v/\Q v (st.set n (.lst (xs.eraseIdx i.toNat)))) vs) x
theorem cq (h:iiW f x y):∃i j,x=.int i/\y=.int j/\f i j:=by
 cases x with
 | int i =>
  cases y with
  | int j=>exact⟨i,j,rfl,rfl,h⟩
  | _=>exact False.elim h
 | _=>exact False.elim h
theorem br (h:uH f vs):∃x,vs=[x]/\f x:=by
 cases vs with
 | nil=>exact False.elim h
 | cons x t =>
  cases t with
  | nil=>exact⟨x,rfl,h⟩
  | cons _ _=>exact False.elim h
theorem eL (h:Dj f vs):∃x y,vs=[x,y]/\f x y:=by
 cases vs with
 | nil=>exact False.elim h
 | cons x t =>
  cases t with
  | nil=>exact False.elim h
  | cons y t =>
   cases t with
   | nil=>exact⟨x,y,rfl,h⟩
   | cons _ _=>exact False.elim h
theorem gD (h:inW f x):∃b,x=.int b/\f b:=by
 cases x with
 | int b=>exact⟨b,rfl,h⟩
 | _=>exact False.elim h
theorem jS {f:Nat->Prop}(h:rfW f x):∃b,x=.ref b/\f b:=by
 cases x with
 | ref b=>exact⟨b,rfl,h⟩
 | _=>exact False.elim h
def gU (x:PV)(st:AH)(Q:BK):Prop :=
 match x with
 | .bl b=>Q b st
 | .non=>Q false st
 | .int i=>Q (i != 0) st
 | .str _=>False
 | x=>∃xs,bP st x=some xs/\Q (!xs.isEmpty) st
def Sub (st st':AH):Prop:=∀i,i<st.length->st'[i]?=st[i]?\/∃c,st'[i]?=some c/\c.bel 0=true
noncomputable def Tmp (st:AH)(Q:EK):EK:=fun v st'=>∃st1 g,st'=st1++g/\st1.length=st.length/\Sub st st1/\v.bel st.length=true/\Q v st1
noncomputable def Ret (st:AH)(Q:EK):EK:=fun v st'=>Q v st'\/Tmp st Q v st'
inductive SM where
 | join|split
 deriving DecidableEq
def smW (k:SM)(x y:PV)(st:AH)(Q:EK):Prop :=
 match x with
 | .str z=>match k with
  | .join=>∃ss:List Str,bH st y=some (ss.map PV.str)/\JoinOk z ss=true/\Q (.str (Txt.join z ss)) st
  | .split=>match y with
   | .str w=>0<w.length/\z.length<=100000/\(Txt.split z w).length<=100000/\Q (.ref st.length) (st++[.lst ((Txt.split z w).map PV.str)])
   | _=>False
 | _=>False
set_option genInjectivity false
set_option genCtorIdx false
mutual
inductive E where
 | var (i:Nat)|int (i:Int)|bl (b:Bool)|non|str (x:Str)|gv (x:Str) (v:PV)
 | tup (es:Es)|lst (es:Es)|dct0|dct1 (k:Str) (i:Int)
 | bin (op:Operator) (a b:E)|neg (a:E)|not (a:E)
 | cmp (op:CmpOp) (a b:E)
 | bop (isAnd:Bool) (es:Es)
 | ite (c a b:E)
 | ix (a b:E)|sl (a:E) (lo hi:O)
 | call (f:Nat) (es:Es)
 | blt (b:B) (es:Es)
 | inst (a:E) (t:String)
 | met (m:M) (o:E) (es:Es)
 | comp (elt:E) (tg:Tg) (it:It) (ifs:Es) (nt:List Str) (caps:List Nat)
 | tmp (a:E)
 | bad
 | jrev (a:E)|part (a:E) (y:Str)|sset (a:E)|clr (a:E)|dcp (a:E)|dget (a b:E)
 | pcall (i:Nat) (e:E)|hm (e be:E) (caps:List Nat)
 | compK (elt:E) (tg:Tg) (wk:DW) (e:E) (ifs:Es) (nt:List Str) (caps:List Nat)
 | compD (kx vx:E) (tg:Tg) (wk:DW) (e:E) (ifs:Es) (nt:List Str) (caps:List Nat)
 | dcl (a:E)|eqd (ne:Bool) (a b:E)|dct2 (k v:E)|smx (k:SM) (a b:E)
inductive Es where
 | nil|cons (e:E) (es:Es)
inductive O where
 | no|yes (e:E)
inductive It where
 | seq (e:E)|range1 (a:E)|range2 (a b:E)|zip (a b:E)|enum (a:E)|chars (e:E)|range3 (a b c:E)|zip3 (a b c:E)
inductive Tg where
 | name (i:Nat)|tup (ts:Tgs)|ltup (ts:Tgs)|sub (o i:E)
inductive Tgs where
 | nil|cons (t:Tg) (ts:Tgs)
end
noncomputable def Tgs.size:Tgs->Nat
 | .nil=>0
 | .cons _ ts=>ts.size+1
def wF (o i v:PV)(st:AH)(k:AH->Prop):Prop :=
 match o,i with
 | .ref n,.int j=>∃xs,st[n]?=some (.lst xs)/\∃q,ixN xs.length j=some q/\k (st.set n (.lst (xs.set q v)))
 | _,_=>False
noncomputable def fQ (chk:AH->Prop)(body:PV->AH->(Option PV->AH->Prop)->Prop):List PV->List PV->AH->LK->Prop
 | [],acc,st,Q=>chk st/\Q acc st
 | x::xs,acc,st,Q=>chk st/\body x st fun o st'=>fQ chk body xs (acc++o.toList) st' Q
noncomputable def gW (st:AH):PV->AH->Prop
 | .ref n=>fun st'=>st'[n]?=st[n]?
 | _=>fun _=>True
noncomputable def rSz (i j k:Int):Nat:=if i<j then ((j-i-1)/k+1).toNat else 0
noncomputable def iX (lo k:Int)(n:Nat):List PV:=(List.range n).map fun (i:Nat)=>PV.int (lo+(i:Int)*k)
noncomputable def bY (lo:Int)(n:Nat):List PV:=(List.range n).map fun (i:Nat)=>PV.int (lo+(i:Int))
noncomputable def gO:List PV->List PV->List PV
 | x::xs,y::ys=>.tup [x,y]::gO xs ys
 | _,_=>[]
noncomputable def i7:Int->List PV->List PV
 | _,[]=>[]
 | i,x::xs=>.tup [.int i,x]::i7 (i+1) xs
noncomputable def dU (z:Str):List PV:=z.cps.toList.map fun c=>.str ⟨#[c]⟩
noncomputable def IF (g:PV->Bool)(xs:List PV):Nat->Nat->Nat->Nat
 | 0,lo,_=>lo
 | n+1,lo,hi=>if lo<hi then (if g (xs.getD ((lo+hi)/2) .non)=true then IF g xs n ((lo+hi)/2+1) hi else IF g xs n lo ((lo+hi)/2)) else lo
noncomputable def bsr (g:PV->Bool)(xs:List PV):Nat:=IF g xs xs.length 0 xs.length
section
variable (Γ:Nat->FSp)
mutual
noncomputable def wpE:E->Fr->AH->EK->Prop
 | .var i,ρ,st,Q=>xB ρ[i]? fun v=>Q v st
 | .int i,_,st,Q=>Q (.int i) st
 | .bl b,_,st,Q=>Q (.bl b) st
 | .non,_,st,Q=>Q .non st
 | .str x,_,st,Q=>Q (.str x) st
 | .gv _ v,_,st,Q=>Q v st
 | .tup es,ρ,st,Q=>cj es ρ st fun vs st1=>vs.length<=100000/\Q (.tup vs) st1
 | .lst es,ρ,st,Q=>cj es ρ st fun vs st1=>vs.length<=100000/\Q (.ref st1.length) (st1++[.lst vs])
 | .dct0,_,st,Q=>Q (.ref st.length) (st++[.dk []])
 | .dct1 _ _,_,_,_=>False
 | .bin op a b,ρ,st,Q=>wpE a ρ st fun x st1=>wpE b ρ st1 fun y st2=>ke op x y st2 Q
 | .neg a,ρ,st,Q=>wpE a ρ st fun x st1=>∃i,x=.int i/\Q (.int (-i)) st1
 | .not a,ρ,st,Q=>wpE a ρ st fun x st1=>∃c,x=.bl c/\Q (.bl (!c)) st1
 | .cmp op a b,ρ,st,Q=>wpE a ρ st fun x st1=>wpE b ρ st1 fun y st2=>dC op x y st2 Q
 | .bop true es,ρ,st,Q=>ue es ρ st Q
 | .bop false es,ρ,st,Q=>t8 es ρ st Q
 | .ite c a b,ρ,st,Q=>wpT c ρ st fun k st1=>if k=true then wpE a ρ st1 Q else wpE b ρ st1 Q
 | .ix a b,ρ,st,Q=>wpE a ρ st fun x st1=>wpE b ρ st1 fun y st2=>ixW x y st2 Q
 | .sl a lo hi,ρ,st,Q=>wpE a ρ st fun x st1=>wpO lo ρ st1 fun l st2=>wpO hi ρ st2 fun h st3=>slW x l h st3 Q
 | .call f es,ρ,st,Q=>cj es ρ st fun vs st1=>Γ f vs st1 Q
 | .blt b es,ρ,st,Q=>cj es ρ st fun vs st1=>fJ b vs st1 Q
 | .inst a t,ρ,st,Q=>wpE a ρ st fun x st1=>∃n,bT st1 x=some n/\Q (.bl (bI t n)) st1
 | .met m o es,ρ,st,Q=>wpE o ρ st fun x st1=>(∃xs,bH st1 x=some xs)/\cj es ρ st1 fun vs st2=>uR m x vs st2 Q
 | .comp elt tg it ifs nt caps,ρ,st,Q=>eg it ρ st fun xs chk st1 =>
   xs.length<100000/\fQ chk (fun x st2 k=>cX tg x (nt.map (fun _=>none)++caps.map fun i=>(ρ[i]?).join) st2 fun ρ' st3=>jt ifs ρ' st3 fun c st4 =>
    if c=true then wpE elt ρ' st4 fun v st5=>k (some v) st5 else k none st4) xs [] st1 fun vs st2=>Q (.ref st2.length) (st2++[.lst vs])
 | .tmp a,ρ,st,Q=>wpE a ρ st (Tmp st Q)
 | .bad,_,_,_=>False
 | .jrev _,_,_,_=>False
 | .part a y,ρ,st,Q=>wpE a ρ st fun x st1=>∃z,x=.str z/\z.length<=100000/\Q (.tup (oG z y)) st1
 | .dget _ _,_,_,_=>False
 | .smx k a b,ρ,st,Q=>wpE a ρ st fun x st1=>(∃z,x=.str z)/\wpE b ρ st1 fun y st2=>smW k x y st2 Q
 | .dcp _,_,_,_=>False
 | .clr _,_,_,_=>False
 | .sset _,_,_,_=>False
 | .pcall _ _,_,_,_=>False
 | .hm _ _ _,_,_,_=>False
 | .compK _ _ _ _ _ _ _,_,_,_=>False
 | .compD _ _ _ _ _ _ _ _,_,_,_=>False
 | .dct2 _ _,_,_,_=>False
 | .dcl _,_,_,_=>False
 | .eqd _ _ _,_,_,_=>False
noncomputable def cj:Es->Fr->AH->LK->Prop
 | .nil,_,st,Q=>Q [] st
 | .cons e es,ρ,st,Q=>wpE e ρ st fun x st1=>cj es ρ st1 fun xs st2=>Q (x::xs) st2
noncomputable def wpO:O->Fr->AH->(Option Int->AH->Prop)->Prop
 | .no,_,st,Q=>Q none st
 | .yes e,ρ,st,Q=>wpE e ρ st fun x st1=>∃i,x=.int i/\Q (some i) st1
noncomputable def wpT:E->Fr->AH->BK->Prop
 | .bop true es,ρ,st,Q=>jt es ρ st Q
 | .bop false es,ρ,st,Q=>uZ es ρ st Q
 | .not a,ρ,st,Q=>wpT a ρ st fun c st1=>Q (!c) st1
 | .cmp op a b,ρ,st,Q=>wpE a ρ st fun x st1=>wpE b ρ st1 fun y st2=>dC op x y st2 fun v st3=>∃c,v=.bl c/\Q c st3
 | .var i,ρ,st,Q=>xB ρ[i]? fun v=>gU v st Q
 | .call f es,ρ,st,Q=>cj es ρ st fun vs st1=>Γ f vs st1 fun v st2=>gU v st2 Q
 | .blt b es,ρ,st,Q=>cj es ρ st fun vs st1=>fJ b vs st1 fun v st2=>gU v st2 Q
 | .inst a t,ρ,st,Q=>wpE a ρ st fun x st1=>∃n,bT st1 x=some n/\Q (bI t n) st1
 | .tmp a,ρ,st,Q=>wpE a ρ st (Tmp st fun v st1=>gU v st1 Q)
 | .ix a b,ρ,st,Q=>wpE a ρ st fun x st1=>wpE b ρ st1 fun y st2=>ixW x y st2 fun v st3=>gU v st3 Q
 | .pcall _ _,_,_,_=>False
 | .eqd _ _ _,_,_,_=>False
 | _,_,_,_=>False
noncomputable def ue:Es->Fr->AH->EK->Prop
 | .nil,_,_,_=>False
 | .cons e .nil,ρ,st,Q=>wpE e ρ st Q
 | .cons e es,ρ,st,Q=>wpE e ρ st fun x st1=>∃c,x=.bl c/\if c=true then ue es ρ st1 Q else Q (.bl false) st1
noncomputable def t8:Es->Fr->AH->EK->Prop
 | .nil,_,_,_=>False
 | .cons e .nil,ρ,st,Q=>wpE e ρ st Q
 | .cons e es,ρ,st,Q=>wpE e ρ st fun x st1=>∃c,x=.bl c/\if c=true then Q (.bl true) st1 else t8 es ρ st1 Q
noncomputable def jt:Es->Fr->AH->BK->Prop
 | .nil,_,st,Q=>Q true st
 | .cons e .nil,ρ,st,Q=>wpT e ρ st Q
 | .cons e es,ρ,st,Q=>wpT e ρ st fun c st1=>if c=true then jt es ρ st1 Q else Q false st1
noncomputable def uZ:Es->Fr->AH->BK->Prop
 | .nil,_,st,Q=>Q false st
 | .cons e .nil,ρ,st,Q=>wpT e ρ st Q
 | .cons e es,ρ,st,Q=>wpT e ρ st fun c st1=>if c=true then Q true st1 else uZ es ρ st1 Q
noncomputable def eg:It->Fr->AH->(List PV->(AH->Prop)->AH->Prop)->Prop
 | .seq e,ρ,st,Q=>wpE e ρ st fun x st1=>∃xs,bP st1 x=some xs/\Q xs (gW st1 x) st1
 | .range1 a,ρ,st,Q=>wpE a ρ st fun x st1=>∃j,x=.int j/\-(2 ^ 62)<=j/\j<2 ^ 62/\Q (bY 0 j.toNat) (fun _=>True) st1
 | .range2 a b,ρ,st,Q=>wpE a ρ st fun x st1=>wpE b ρ st1 fun y st2=>∃i j,x=.int i/\y=.int j/\(-(2 ^ 62)<=i/\i<2 ^ 62/\-(2 ^ 62)<=j/\j<2 ^ 62)/\Q (bY i (j-i).toNat) (fun _=>True) st2
 | .zip a b,ρ,st,Q=>wpE a ρ st fun x st1=>wpE b ρ st1 fun y st2=>∃xs ys,bP st2 x=some xs/\bP st2 y=some ys/\Q (gO xs ys) (fun st'=>gW st2 x st'/\gW st2 y st') st2
 | .zip3 _ _ _,_,_,_=>False
 | .enum a,ρ,st,Q=>wpE a ρ st fun x st1=>∃xs,x=.tup xs/\Q (i7 0 xs) (fun _=>True) st1
 | .chars a,ρ,st,Q=>wpE a ρ st fun x st1=>∃z,x=.str z/\Q (dU z) (fun _=>True) st1
 | .range3 a b c,ρ,st,Q=>wpE a ρ st fun x st1=>wpE b ρ st1 fun y st2=>wpE c ρ st2 fun u st3=>∃i j k,x=.int i/\y=.int j/\u=.int k/\(-(2 ^ 62)<=i/\i<2 ^ 62/\-(2 ^ 62)<=j/\j<2 ^ 62/\0<k/\k<2 ^ 62)/\Q (iX i k (rSz i j k)) (fun _=>True) st3
noncomputable def cX:Tg->PV->Fr->AH->(Fr->AH->Prop)->Prop
 | .name i,v,ρ,st,Q=>Q (ρ.set i (some v)) st
 | .tup ts,v,ρ,st,Q=>∃xs,v=.tup xs/\xs.length=ts.size/\jf ts xs ρ st Q
 | .ltup _,_,_,_,_=>False
 | .sub o i,v,ρ,st,Q=>wpE o ρ st fun x st1=>wpE i ρ st1 fun y st2=>wF x y v st2 fun st3=>Q ρ st3
noncomputable def jf:Tgs->List PV->Fr->AH->(Fr->AH->Prop)->Prop
 | .nil,vs,ρ,st,Q=>vs=[]/\Q ρ st
 | .cons t ts,vs,ρ,st,Q=>∃v r,vs=v::r/\cX t v ρ st fun ρ' st'=>jf ts r ρ' st' Q
end
end
mutual
inductive S where
 | set (t:Tg) (e:E)|par (i j:Nat) (a b:E)|aug (i:Nat) (op:Operator) (e:E)|expr (e:E)|ret (e:E)|retN
 | ifS (c:E) (a b:Ss)|whileS (c:E) (b:Ss)|forS (t:Tg) (it:It) (b:Ss)|pass|brk|cont|bad|set2 (i j:Nat) (e:E)|forK (t:Tg) (wk:DW) (e:E) (b:Ss)
inductive Ss where
 | nil|cons (s:S) (ss:Ss)
end
structure aK where
 nx:Fr->AH->Prop
 rt:EK
 bk:Fr->AH->Prop:=fun _ _=>False
 ct:Fr->AH->Prop:=fun _ _=>False
set_option genInjectivity true
set_option genCtorIdx true
noncomputable def m9 (chk:AH->Prop)(body:PV->Fr->AH->aK->Prop)(D:aK):List PV->Fr->AH->Prop
 | [],ρ,st=>chk st/\D.nx ρ st
 | x::xs,ρ,st=>chk st/\body x ρ st { nx:=m9 chk body D xs,ct:=m9 chk body D xs,bk:=D.nx,rt:=D.rt }
noncomputable def fY (c:Fr->AH->BK->Prop)(body:Fr->AH->aK->Prop)(D:aK):Nat->Fr->AH->Prop
 | 0,_,_=>False
 | n+1,ρ,st=>c ρ st fun k st1=>if k=true then body ρ st1 { nx:=fY c body D n,ct:=fY c body D n,bk:=D.nx,rt:=D.rt } else D.nx ρ st1
section
variable (Γ:Nat->FSp)
mutual
noncomputable def wpS:S->Fr->AH->aK->Prop
 | .set t e,ρ,st,D=>wpE Γ e ρ st fun v st1=>cX Γ t v ρ st1 D.nx
 | .par i j a b,ρ,st,D=>wpE Γ a ρ st fun x st1=>wpE Γ b ρ st1 fun y st2=>D.nx ((ρ.set i (some x)).set j (some y)) st2
 | .aug _ _ _,_,_,_=>False
 | .expr e,ρ,st,D=>wpE Γ e ρ st fun _ st1=>D.nx ρ st1
 | .ret e,ρ,st,D=>wpE Γ e ρ st D.rt
 | .retN,_,st,D=>D.rt .non st
 | .ifS c a b,ρ,st,D=>wpT Γ c ρ st fun k st1=>if k=true then aG a ρ st1 D else aG b ρ st1 D
 | .whileS c b,ρ,st,D=>∃n,fY (wpT Γ c) (aG b) D n ρ st
 | .forS t it b,ρ,st,D=>eg Γ it ρ st fun xs chk st1=>m9 chk (fun x ρ' st' D'=>cX Γ t x ρ' st' fun ρ2 st2=>aG b ρ2 st2 D') D xs ρ st1
 | .pass,ρ,st,D=>D.nx ρ st
 | .brk,ρ,st,D=>D.bk ρ st
 | .cont,ρ,st,D=>D.ct ρ st
 | .bad,_,_,_=>False
 | .forK _ _ _ _,_,_,_=>False
 | .set2 i j e,ρ,st,D=>wpE Γ e ρ st fun v st1=>D.nx ((ρ.set i (some v)).set j (some v)) st1
noncomputable def aG:Ss->Fr->AH->aK->Prop
 | .nil,ρ,st,D=>D.nx ρ st
 | .cons s ss,ρ,st,D=>wpS s ρ st { D with nx:=fun ρ' st'=>aG ss ρ' st' D }
end
end
section
variable {Γ:Nat->FSp}{ρ:Fr}{st:AH}{Q:EK}{D:aK}{a b c:E}{es:Es}
theorem JI:aG Γ .nil ρ st D=D.nx ρ st:=rfl
theorem JB:aG Γ (.cons s .nil) ρ st D=wpS Γ s ρ st D:=rfl
theorem DL:wpS Γ (.set t a) ρ st D=wpE Γ a ρ st fun v st1=>cX Γ t v ρ st1 D.nx:=rfl
theorem ML {i j:Nat}:wpS Γ (.par i j a b) ρ st D=wpE Γ a ρ st fun x st1=>wpE Γ b ρ st1 fun y st2=>D.nx ((ρ.set i (some x)).set j (some y)) st2:=rfl
theorem Ig:wpS Γ (.expr a) ρ st D=wpE Γ a ρ st fun _ st1=>D.nx ρ st1:=rfl
theorem MJ:wpS Γ (.ret a) ρ st D=wpE Γ a ρ st fun v st1=>D.rt v st1:=rfl
theorem Jf:wpS Γ .retN ρ st D=D.rt .non st:=rfl
theorem NZ:wpS Γ (.ifS c x y) ρ st D=wpT Γ c ρ st fun k st1=>if k=true then aG Γ x ρ st1 D else aG Γ y ρ st1 D:=rfl
theorem JD:wpS Γ .pass ρ st D=D.nx ρ st:=rfl
theorem Ii {i j:Nat}:wpS Γ (.set2 i j a) ρ st D=wpE Γ a ρ st fun v st1=>D.nx ((ρ.set i (some v)).set j (some v)) st1:=rfl
theorem Mm:wpS Γ .brk ρ st D=D.bk ρ st:=rfl
theorem Hk:wpS Γ .cont ρ st D=D.ct ρ st:=rfl
theorem Lb {i:Nat}:wpE Γ (.var i) ρ st Q=xB ρ[i]? fun v=>Q v st:=rfl
theorem Mz {i:Int}:wpE Γ (.int i) ρ st Q=Q (.int i) st:=rfl
theorem Nj {i:Bool}:wpE Γ (.bl i) ρ st Q=Q (.bl i) st:=rfl
theorem Ma:wpE Γ .non ρ st Q=Q .non st:=rfl
theorem Mw:wpE Γ (.str i) ρ st Q=Q (.str i) st:=rfl
theorem Of:wpE Γ (.gv x v) ρ st Q=Q v st:=rfl
theorem Kq:wpE Γ (.tup es) ρ st Q=cj Γ es ρ st fun vs st1=>vs.length<=100000/\Q (.tup vs) st1:=rfl
theorem Kt:wpE Γ (.lst es) ρ st Q=cj Γ es ρ st fun vs st1=>vs.length<=100000/\Q (.ref st1.length) (st1++[.lst vs]):=rfl
theorem IW:wpE Γ .dct0 ρ st Q=Q (.ref st.length) (st++[.dk []]):=rfl
theorem Ly:wpE Γ (.bin op a b) ρ st Q=wpE Γ a ρ st fun x st1=>wpE Γ b ρ st1 fun y st2=>ke op x y st2 Q:=rfl
theorem Me:wpE Γ (.neg a) ρ st Q=wpE Γ a ρ st fun x st1=>∃i,x=.int i/\Q (.int (-i)) st1:=rfl
theorem Lk:wpE Γ (.not a) ρ st Q=wpE Γ a ρ st fun x st1=>∃c,x=.bl c/\Q (.bl (!c)) st1:=rfl
theorem LR:wpE Γ (.cmp op a b) ρ st Q=wpE Γ a ρ st fun x st1=>wpE Γ b ρ st1 fun y st2=>dC op x y st2 Q:=rfl
theorem MQ:wpE Γ (.bop true es) ρ st Q=ue Γ es ρ st Q:=rfl
theorem OJ:wpE Γ (.bop false es) ρ st Q=t8 Γ es ρ st Q:=rfl
theorem K5:wpE Γ (.ite c a b) ρ st Q=wpT Γ c ρ st fun k st1=>if k=true then wpE Γ a ρ st1 Q else wpE Γ b ρ st1 Q:=rfl
theorem N1:wpE Γ (.ix a b) ρ st Q=wpE Γ a ρ st fun x st1=>wpE Γ b ρ st1 fun y st2=>ixW x y st2 Q:=rfl
theorem M9:wpE Γ (.sl a lo hi) ρ st Q=wpE Γ a ρ st fun x st1=>wpO Γ lo ρ st1 fun l st2=>wpO Γ hi ρ st2 fun h st3=>slW x l h st3 Q:=rfl
theorem Hc {f:Nat}:wpE Γ (.call f es) ρ st Q=cj Γ es ρ st fun vs st1=>Γ f vs st1 Q:=rfl
theorem KI:wpE Γ (.blt f es) ρ st Q=cj Γ es ρ st fun vs st1=>fJ f vs st1 Q:=rfl
theorem GY {t:String}:wpE Γ (.inst a t) ρ st Q=wpE Γ a ρ st fun x st1=>∃n,bT st1 x=some n/\Q (.bl (bI t n)) st1:=rfl
theorem Kn:wpE Γ (.met m a es) ρ st Q=wpE Γ a ρ st fun x st1=>(∃xs,bH st1 x=some xs)/\cj Γ es ρ st1 fun vs st2=>uR m x vs st2 Q:=rfl
theorem Mp:wpE Γ (.smx k a b) ρ st Q=wpE Γ a ρ st fun x st1=>(∃z,x=.str z)/\wpE Γ b ρ st1 fun y st2=>smW k x y st2 Q:=rfl
theorem Ia:wpE Γ (.part a y) ρ st Q=wpE Γ a ρ st fun x st1=>∃z,x=.str z/\z.length<=100000/\Q (.tup (oG z y)) st1:=rfl
theorem Mi:wpE Γ (.tmp a) ρ st Q=wpE Γ a ρ st fun v st1=>Tmp st Q v st1:=rfl
variable {LQ:LK}{BQ:BK}{e e2:E}{i:Nat}{v:PV}{FQ:Fr->AH->Prop}{IQ:List PV->(AH->Prop)->AH->Prop}
theorem Ih:cj Γ .nil ρ st LQ=LQ [] st:=rfl
theorem FK:cj Γ (.cons e es) ρ st LQ=wpE Γ e ρ st fun x st1=>cj Γ es ρ st1 fun xs st2=>LQ (x::xs) st2:=rfl
theorem NM:wpO Γ .no ρ st OQ=OQ none st:=rfl
theorem KJ:wpO Γ (.yes e) ρ st OQ=wpE Γ e ρ st fun x st1=>∃i,x=.int i/\OQ (some i) st1:=rfl
theorem Mq:wpT Γ (.bop true es) ρ st BQ=jt Γ es ρ st BQ:=rfl
theorem Oh:wpT Γ (.bop false es) ρ st BQ=uZ Γ es ρ st BQ:=rfl
theorem Ki:wpT Γ (.not a) ρ st BQ=wpT Γ a ρ st fun c st1=>BQ (!c) st1:=rfl
theorem Ms:wpT Γ (.cmp op a b) ρ st BQ=wpE Γ a ρ st fun x st1=>wpE Γ b ρ st1 fun y st2=>dC op x y st2 fun v st3=>∃c,v=.bl c/\BQ c st3:=rfl
theorem LF:wpT Γ (.var i) ρ st BQ=xB ρ[i]? fun v=>gU v st BQ:=rfl
theorem Hr {f:Nat}:wpT Γ (.call f es) ρ st BQ=cj Γ es ρ st fun vs st1=>Γ f vs st1 fun v st2=>gU v st2 BQ:=rfl
theorem K1:wpT Γ (.blt f es) ρ st BQ=cj Γ es ρ st fun vs st1=>fJ f vs st1 fun v st2=>gU v st2 BQ:=rfl
theorem HU {t:String}:wpT Γ (.inst a t) ρ st BQ=wpE Γ a ρ st fun x st1=>∃n,bT st1 x=some n/\BQ (bI t n) st1:=rfl
theorem Kd:wpT Γ (.tmp a) ρ st BQ=wpE Γ a ρ st fun v st1=>Tmp st (fun v st1=>gU v st1 BQ) v st1:=rfl
theorem OE:wpT Γ (.ix a b) ρ st BQ=wpE Γ a ρ st fun x st1=>wpE Γ b ρ st1 fun y st2=>ixW x y st2 fun v st3=>gU v st3 BQ:=rfl
theorem Jx:ue Γ (.cons e .nil) ρ st Q=wpE Γ e ρ st Q:=rfl
theorem EU:ue Γ (.cons e (.cons e2 es)) ρ st Q=wpE Γ e ρ st fun x st1=>∃c,x=.bl c/\if c=true then ue Γ (.cons e2 es) ρ st1 Q else Q (.bl false) st1:=rfl
theorem JK:t8 Γ (.cons e .nil) ρ st Q=wpE Γ e ρ st Q:=rfl
theorem FZ:t8 Γ (.cons e (.cons e2 es)) ρ st Q=wpE Γ e ρ st fun x st1=>∃c,x=.bl c/\if c=true then Q (.bl true) st1 else t8 Γ (.cons e2 es) ρ st1 Q:=rfl
theorem D4:jt Γ .nil ρ st BQ=BQ true st:=rfl
theorem GT:jt Γ (.cons e .nil) ρ st BQ=wpT Γ e ρ st BQ:=rfl
theorem ER:jt Γ (.cons e (.cons e2 es)) ρ st BQ=wpT Γ e ρ st fun c st1=>if c=true then jt Γ (.cons e2 es) ρ st1 BQ else BQ false st1:=rfl
theorem Jv:uZ Γ (.cons e .nil) ρ st BQ=wpT Γ e ρ st BQ:=rfl
theorem EM:uZ Γ (.cons e (.cons e2 es)) ρ st BQ=wpT Γ e ρ st fun c st1=>if c=true then BQ true st1 else uZ Γ (.cons e2 es) ρ st1 BQ:=rfl
theorem Jk:eg Γ (.seq e) ρ st IQ=wpE Γ e ρ st fun x st1=>∃xs,bP st1 x=some xs/\IQ xs (gW st1 x) st1:=rfl
theorem KZ:eg Γ (.range1 a) ρ st IQ=wpE Γ a ρ st fun x st1=>∃j,x=.int j/\-(2 ^ 62)<=j/\j<2 ^ 62/\IQ (bY 0 j.toNat) (fun _=>True) st1:=rfl
theorem Lg:eg Γ (.range2 a b) ρ st IQ=wpE Γ a ρ st fun x st1=>wpE Γ b ρ st1 fun y st2=>∃i j,x=.int i/\y=.int j/\(-(2 ^ 62)<=i/\i<2 ^ 62/\-(2 ^ 62)<=j/\j<2 ^ 62)/\IQ (bY i (j-i).toNat) (fun _=>True) st2:=rfl
theorem HK:eg Γ (.zip a b) ρ st IQ=wpE Γ a ρ st fun x st1=>wpE Γ b ρ st1 fun y st2=>∃xs ys,bP st2 x=some xs/\bP st2 y=some ys/\IQ (gO xs ys) (fun st'=>gW st2 x st'/\gW st2 y st') st2:=rfl
theorem Fl:eg Γ (.enum a) ρ st IQ=wpE Γ a ρ st fun x st1=>∃xs,x=.tup xs/\IQ (i7 0 xs) (fun _=>True) st1:=rfl
theorem CU:eg Γ (.chars a) ρ st IQ=wpE Γ a ρ st fun x st1=>∃z,x=.str z/\IQ (dU z) (fun _=>True) st1:=rfl
theorem KO:eg Γ (.range3 a b c) ρ st IQ=wpE Γ a ρ st fun x st1=>wpE Γ b ρ st1 fun y st2=>wpE Γ c ρ st2 fun u st3=>∃i j k,x=.int i/\y=.int j/\u=.int k/\(-(2 ^ 62)<=i/\i<2 ^ 62/\-(2 ^ 62)<=j/\j<2 ^ 62/\0<k/\k<2 ^ 62)/\IQ (iX i k (rSz i j k)) (fun _=>True) st3:=rfl
theorem mj:cX Γ (.name i) v ρ st FQ=FQ (ρ.set i (some v)) st:=rfl
theorem tM {ts:Tgs}:cX Γ (.tup ts) v ρ st FQ=∃xs,v=.tup xs/\xs.length=ts.size/\jf Γ ts xs ρ st FQ:=rfl
theorem uF:cX Γ (.sub a b) v ρ st FQ=wpE Γ a ρ st fun x st1=>wpE Γ b ρ st1 fun y st2=>wF x y v st2 fun st3=>FQ ρ st3:=rfl
theorem D7:jf Γ .nil vs ρ st FQ=(vs=[]/\FQ ρ st):=rfl
theorem CM:jf Γ (.cons t ts) vs ρ st FQ=∃v r,vs=v::r/\cX Γ t v ρ st fun ρ' st'=>jf Γ ts r ρ' st' FQ:=rfl
theorem H_:Tgs.size .nil=0:=id rfl
theorem Ez {ts:Tgs}:Tgs.size (.cons t ts)=ts.size+1:=id rfl
end
end FW
namespace FW
open PySem L2 HX
theorem wu {k k':Bool->Prop}(h:∀b,k b->k' b)(q:eqW st x y k):eqW st x y k':=by
 unfold eqW at q |-
 split at q
 ·exact h _ q
 ·exact h _ q
 ·exact h _ q
 ·obtain⟨d,e,h1,h2,h3,h4,q⟩:=q;exact⟨d,e,h1,h2,h3,h4,h _ q⟩
theorem sI {st:AH}{Q':EK}(h:∀v st,Q v st->Q' v st)(q:ke op x y st Q):ke op x y st Q':=by
 cases op with
 | Add =>
  cases x with
  | int i =>
   cases y with
   | int j=>exact h _ _ q
   | _=>exact False.elim q
  | ref n =>
   cases y with
   | ref k=>obtain⟨xs,ys,h1,h2,h3,q⟩:=q;exact⟨xs,ys,h1,h2,h3,h _ _ q⟩
   | _=>exact False.elim q
  | tup xs =>
   cases y with
   | tup ys=>exact⟨q.1,h _ _ q.2⟩
   | _=>exact False.elim q
  | str a =>
   cases y with
   | str b=>exact⟨q.1,h _ _ q.2⟩
   | _=>exact False.elim q
  | _=>exact False.elim q
 | Mult =>
  cases x with
  | int i =>
   cases y with
   | int j=>exact⟨q.1,h _ _ q.2⟩
   | _=>exact False.elim q
  | ref n =>
   cases y with
   | int k=>obtain⟨xs,h1,h2,h3,h4,q⟩:=q;exact⟨xs,h1,h2,h3,h4,h _ _ q⟩
   | _=>exact False.elim q
  | str z =>
   cases y with
   | int k=>obtain⟨h1,h2,h3,h4,q⟩:=q;exact⟨h1,h2,h3,h4,h _ _ q⟩
   | _=>exact False.elim q
  | _=>exact False.elim q
 | Sub=>obtain⟨i,j,rfl,rfl,q⟩:=cq q;exact h _ _ q
 | FloorDiv=>obtain⟨i,j,rfl,rfl,q⟩:=cq q;exact⟨q.1,h _ _ q.2⟩
 | Mod=>obtain⟨i,j,rfl,rfl,q⟩:=cq q;exact⟨q.1,h _ _ q.2⟩
 | Pow=>obtain⟨i,j,rfl,rfl,q⟩:=cq q;exact⟨q.1,h _ _ q.2⟩
 | _=>exact False.elim q
theorem wo {n:Nat}{k k':Bool->Prop}(h:∀b,k b->k' b)(q:inR a n st k):inR a n st k':=q.elim (fun ⟨ns,e,q⟩=>.inl ⟨ns,e,h _ q⟩) False.elim
theorem jO {st:AH}{Q':EK}(h:∀v st,Q v st->Q' v st)(q:dC op x y st Q):dC op x y st Q':=by
 unfold dC at q |-
 split at q
 ·exact wu (fun _=>h _ _) q
 ·exact wu (fun _=>h _ _) q
 ·split at q <;> first|exact h _ _ q|exact q
 ·split at q <;> first|exact h _ _ q|exact q
 ·split at q <;> first|exact h _ _ q|exact q
 ·split at q <;> first|exact h _ _ q|exact q
 ·split at q <;> first|exact h _ _ q|exact q
 ·split at q <;> first|exact h _ _ q|exact q
 ·split at q <;> first|exact h _ _ q|(obtain⟨ns,e,q⟩:=q;exact⟨ns,e,h _ _ q⟩)|exact⟨q.1,h _ _ q.2⟩|exact wo (fun _=>h _ _) q|exact q
 ·split at q <;> first|exact h _ _ q|(obtain⟨ns,e,q⟩:=q;exact⟨ns,e,h _ _ q⟩)|exact wo (fun _=>h _ _) q|exact q
theorem lX {st:AH}{Q':EK}(h:∀v st,Q v st->Q' v st)(q:ixW x y st Q):ixW x y st Q':=by
 cases y with
 | int i =>
  rcases yG q with⟨z,c,rfl,h1,h2,q⟩|⟨xs,v,h1,h2,q⟩
  ·exact⟨h1,c,h2,h _ _ q⟩
  ·exact F4 h1 h2 (h _ _ q)
 | str z=>exact False.elim q
 | _=>exact q
theorem wa {st:AH}{Q':EK}(h:∀v st,Q v st->Q' v st)(q:slW x lo hi st Q):slW x lo hi st Q':=by
 cases x with
 | tup xs=>exact h _ _ q
 | str z=>exact⟨q.1,h _ _ q.2⟩
 | _=>obtain⟨xs,e,q⟩:=q;exact⟨xs,e,h _ _ q⟩
theorem CT {st:AH}{Q':EK}(h:∀v st,Q v st->Q' v st)(q:smW k x y st Q):smW k x y st Q':=by
 cases x with
 | str z =>
  cases k with
  | join=>obtain⟨ss,h2,h3,q⟩:=q;exact⟨ss,h2,h3,h _ _ q⟩
  | split =>
   cases y with
   | str w=>obtain⟨h1,h2,h3,q⟩:=q;exact⟨h1,h2,h3,h _ _ q⟩
   | _=>exact False.elim q
 | _=>exact False.elim q
theorem jL {st:AH}{Q':EK}(h:∀v st,Q v st->Q' v st)(q:fJ b vs st Q):fJ b vs st Q':=by
 cases b with
 | len =>
  obtain⟨x,rfl,q⟩:=br q;rcases vN q with⟨z,rfl,h1,q⟩|⟨xs,e,q⟩
  ·exact⟨h1,h _ _ q⟩
  ·exact BO e (h _ _ q)
 | max2=>obtain⟨x,y,rfl,q⟩:=eL q;obtain⟨i,j,rfl,rfl,q⟩:=cq q;exact h _ _ q
 | min2=>obtain⟨x,y,rfl,q⟩:=eL q;obtain⟨i,j,rfl,rfl,q⟩:=cq q;exact h _ _ q
 | divmod=>obtain⟨x,y,rfl,q⟩:=eL q;obtain⟨i,j,rfl,rfl,q⟩:=cq q;exact⟨q.1,h _ _ q.2⟩
 | int1 =>
  obtain⟨x,rfl,q⟩:=br q;rcases sC q with⟨b,rfl,q⟩|⟨z,n,rfl,h1,h2,q⟩
  ·exact h _ _ q
  ·exact⟨h1,n,h2,h _ _ q⟩
 | str1=>obtain⟨x,rfl,q⟩:=br q;obtain⟨i,rfl,q⟩:=gD q;exact⟨q.1,h _ _ q.2⟩
 | tuple1=>obtain⟨x,rfl,xs,h1,q⟩:=br q;exact⟨xs,h1,h _ _ q⟩
 | list1=>exact False.elim q
 | all1=>obtain⟨x,rfl,xs,bs,h1,h2,q⟩:=br q;exact⟨xs,bs,h1,h2,h _ _ q⟩
 | any1=>exact False.elim q
 | abs1=>obtain⟨x,rfl,q⟩:=br q;obtain⟨i,rfl,q⟩:=gD q;exact h _ _ q
 | sortS=>exact False.elim q
 | sortD=>exact False.elim q
 | max1=>exact False.elim q
 | sorted1=>exact False.elim q
 | repr1=>exact False.elim q
theorem jM {st:AH}{Q':EK}(h:∀v st,Q v st->Q' v st)(q:uR m x vs st Q):uR m x vs st Q':=by
 cases m with
 | append=>obtain⟨n,rfl,q⟩:=jS q;obtain⟨v,rfl,xs,h1,h2,q⟩:=br q;exact⟨xs,h1,h2,h _ _ q⟩
 | pop0=>exact False.elim q
 | extend=>exact False.elim q
 | insert=>obtain⟨n,rfl,q⟩:=jS q;obtain⟨i,v,rfl,q⟩:=eL q;obtain⟨k,rfl,xs,h1,h2,h3,h4,q⟩:=gD q;exact⟨xs,h1,h2,h3,h4,h _ _ q⟩
 | count=>exact False.elim q
 | index=>exact False.elim q
 | popI=>obtain⟨n,rfl,q⟩:=jS q;obtain⟨i,rfl,q⟩:=br q;obtain⟨k,rfl,xs,v,h1,h2,h3,h4,q⟩:=gD q;exact⟨xs,v,h1,h2,h3,h4,h _ _ q⟩
theorem b9 {st:AH}{Q':BK}(h:∀v st,Q v st->Q' v st)(q:gU x st Q):gU x st Q':=by
 unfold gU at q |-
 split at q <;> first
  | exact h _ _ q
  | exact q.elim
  | (obtain⟨xs,h1,q⟩:=q;exact⟨xs,h1,h _ _ q⟩)
theorem sM {st:AH}{k k':AH->Prop}(h:∀st,k st->k' st)(q:wF o i v st k):wF o i v st k':=by
 unfold wF at q |-
 split at q
 ·obtain⟨xs,h1,j,h2,q⟩:=q;exact⟨xs,h1,j,h2,h _ q⟩
 ·exact q
theorem vY {Q':EK}(h:∀v st,Q v st->Q' v st)(q:Tmp st0 Q v st):Tmp st0 Q' v st:=by obtain⟨st1,g,h1,h2,h3,h4,q⟩:=q;exact⟨st1,g,h1,h2,h3,h4,h _ _ q⟩
theorem iT {body body':PV->AH->(Option PV->AH->Prop)->Prop}(hb:∀x st k k',(∀o st,k o st->k' o st)->body x st k->body' x st k') :
  ∀ {xs acc:List PV}{st:AH}{Q Q':LK},(∀v st,Q v st->Q' v st)->fQ chk body xs acc st Q->fQ chk body' xs acc st Q'
 | [],acc,st,Q,Q',h,q=>⟨q.1,h _ _ q.2⟩
 | x::xs,acc,st,Q,Q',h,q=>⟨q.1,hb _ _ _ _ (fun o st' z=>iT hb h z) q.2⟩
section
variable {Γ:Nat->FSp}
def aT (Γ:Nat->FSp):Prop:=∀f vs st Q Q',(∀v st,Q v st->Q' v st)->Γ f vs st Q->Γ f vs st Q'
mutual
theorem aa (G:aT Γ):∀(e:E) {ρ:Fr}{st:AH}{Q Q':EK},(∀v st,Q v st->Q' v st)->wpE Γ e ρ st Q->wpE Γ e ρ st Q'
 | .var i,ρ,st,Q,Q',h,q=>by obtain⟨v,e,z⟩:=lD q;exact uO e (h _ _ z)
 | .int i,ρ,st,Q,Q',h,q=>by exact h _ _ q
 | .bl i,ρ,st,Q,Q',h,q=>by exact h _ _ q
 | .non,ρ,st,Q,Q',h,q=>by exact h _ _ q
 | .str i,ρ,st,Q,Q',h,q=>by exact h _ _ q
 | .gv _ i,ρ,st,Q,Q',h,q=>by exact h _ _ q
 | .tup es,ρ,st,Q,Q',h,q=>by exact aC G es (fun vs st1 z=>⟨z.1,h _ _ z.2⟩) q
 | .lst es,ρ,st,Q,Q',h,q=>by exact aC G es (fun vs st1 z=>⟨z.1,h _ _ z.2⟩) q
 | .dct0,ρ,st,Q,Q',h,q=>by exact h _ _ q
 | .bad,ρ,st,Q,Q',h,q=>False.elim q
 | .jrev _,ρ,st,Q,Q',h,q=>False.elim q
 | .dget _ _,ρ,st,Q,Q',h,q=>False.elim q
 | .smx k a b,ρ,st,Q,Q',h,q=>by exact aa G a (fun x st1 z=>⟨z.1,aa G b (fun y st2 z=>CT h z) z.2⟩) q
 | .dcp _,ρ,st,Q,Q',h,q=>False.elim q
 | .clr _,ρ,st,Q,Q',h,q=>False.elim q
 | .sset _,ρ,st,Q,Q',h,q=>False.elim q
 | .part a y,ρ,st,Q,Q',h,q=>by refine aa G a (fun x st1 z=>?_) q;obtain⟨w,e,h1,z⟩:=z;exact⟨w,e,h1,h _ _ z⟩
 | .pcall _ _,ρ,st,Q,Q',h,q=>False.elim q
 | .hm _ _ _,ρ,st,Q,Q',h,q=>False.elim q
 | .dct1 _ _,ρ,st,Q,Q',h,q=>False.elim q
 | .bin op a b,ρ,st,Q,Q',h,q=>by exact aa G a (fun x st1 z=>aa G b (fun y st2 z=>sI h z) z) q
 | .neg a,ρ,st,Q,Q',h,q=>by
  skip
  refine aa G a (fun x st1 z=>?_) q;obtain⟨i,e,z⟩:=z;exact⟨i,e,h _ _ z⟩
 | .not a,ρ,st,Q,Q',h,q=>by
  skip
  refine aa G a (fun x st1 z=>?_) q;obtain⟨i,e,z⟩:=z;exact⟨i,e,h _ _ z⟩
 | .cmp op a b,ρ,st,Q,Q',h,q=>by exact aa G a (fun x st1 z=>aa G b (fun y st2 z=>jO h z) z) q
 | .bop true es,ρ,st,Q,Q',h,q=>by exact nS G es h q
 | .bop false es,ρ,st,Q,Q',h,q=>by exact mV G es h q
 | .ite c a b,ρ,st,Q,Q',h,q=>by
  skip
  refine aP G c (fun k st1 z=>?_) q;cases k with
  | true=>rw[O0 rfl] at z |-;exact aa G a h z
  | false=>rw[OY OS] at z |-;exact aa G b h z
 | .ix a b,ρ,st,Q,Q',h,q=>by exact aa G a (fun x st1 z=>aa G b (fun y st2 z=>lX h z) z) q
 | .sl a lo hi,ρ,st,Q,Q',h,q=>by exact aa G a (fun x st1 z=>lJ G lo (fun l st2 z=>lJ G hi (fun u st3 z=>wa h z) z) z) q
 | .call f es,ρ,st,Q,Q',h,q=>by exact aC G es (fun vs st1 z=>G _ _ _ _ _ h z) q
 | .blt b es,ρ,st,Q,Q',h,q=>by exact aC G es (fun vs st1 z=>jL h z) q
 | .inst a t,ρ,st,Q,Q',h,q=>by
  skip
  refine aa G a (fun x st1 z=>?_) q;obtain⟨i,e,z⟩:=z;exact⟨i,e,h _ _ z⟩
 | .met m o es,ρ,st,Q,Q',h,q=>by exact aa G o (fun x st1 z=>⟨z.1,aC G es (fun vs st2 z=>jM h z) z.2⟩) q
 | .comp elt tg it ifs nt caps,ρ,st,Q,Q',h,q=>by
  skip
  exact bL G it (fun xs chk st1 z=>⟨z.1,iT (fun x st k k' hk w=>aU G tg (fun ρ' st3 w=>cG G ifs (fun c st4 w=>by
   cases c with
   | true=>rw[O0 rfl] at w |-;exact aa G elt (fun v st5 w=>hk _ _ w) w
   | false=>rw[OY OS] at w |-;exact hk _ _ w) w) w) (fun vs st2 w=>h _ _ w) z.2⟩) q
 | .tmp a,ρ,st,Q,Q',h,q=>by exact aa G a (fun v st1 z=>vY h z) q
 | .compK _ _ _ _ _ _ _,ρ,st,Q,Q',h,q=>False.elim q
 | .compD _ _ _ _ _ _ _ _,ρ,st,Q,Q',h,q=>False.elim q
 | .dct2 _ _,ρ,st,Q,Q',h,q=>False.elim q
 | .dcl _,ρ,st,Q,Q',h,q=>False.elim q
 | .eqd _ _ _,ρ,st,Q,Q',h,q=>False.elim q
theorem aC (G:aT Γ):∀(e:Es) {ρ:Fr}{st:AH}{Q Q':LK},(∀v st,Q v st->Q' v st)->cj Γ e ρ st Q->cj Γ e ρ st Q'
 | .nil,ρ,st,Q,Q',h,q=>by exact h _ _ q
 | .cons e es,ρ,st,Q,Q',h,q=>by exact aa G e (fun x st1 z=>aC G es (fun xs st2 z=>h _ _ z) z) q
theorem lJ (G:aT Γ):∀(e:O) {ρ:Fr}{st:AH}{Q Q':Option Int->AH->Prop},(∀v st,Q v st->Q' v st)->wpO Γ e ρ st Q->wpO Γ e ρ st Q'
 | .no,ρ,st,Q,Q',h,q=>by exact h _ _ q
 | .yes e,ρ,st,Q,Q',h,q=>by
  skip
  refine aa G e (fun x st1 z=>?_) q;obtain⟨i,e,z⟩:=z;exact⟨i,e,h _ _ z⟩
theorem aP (G:aT Γ):∀(e:E) {ρ:Fr}{st:AH}{Q Q':BK},(∀v st,Q v st->Q' v st)->wpT Γ e ρ st Q->wpT Γ e ρ st Q'
 | .bop true es,ρ,st,Q,Q',h,q=>by exact cG G es h q
 | .bop false es,ρ,st,Q,Q',h,q=>by exact nK G es h q
 | .not a,ρ,st,Q,Q',h,q=>by exact aP G a (fun c st1 z=>h _ _ z) q
 | .cmp op a b,ρ,st,Q,Q',h,q=>by
  skip
  exact aa G a (fun x st1 z=>aa G b (fun y st2 z=>jO (fun v st3 w=>by obtain⟨c,e,w⟩:=w;exact⟨c,e,h _ _ w⟩) z) z) q
 | .var i,ρ,st,Q,Q',h,q=>by obtain⟨v,e,z⟩:=lD q;exact uO e (b9 h z)
 | .call f es,ρ,st,Q,Q',h,q=>by exact aC G es (fun vs st1 z=>G _ _ _ _ _ (fun v st2 z=>b9 h z) z) q
 | .blt b es,ρ,st,Q,Q',h,q=>by exact aC G es (fun vs st1 z=>jL (fun v st2 z=>b9 h z) z) q
 | .inst a t,ρ,st,Q,Q',h,q=>by
  skip
  refine aa G a (fun x st1 z=>?_) q;obtain⟨i,e,z⟩:=z;exact⟨i,e,h _ _ z⟩
 | .tmp a,ρ,st,Q,Q',h,q=>by exact aa G a (fun v st1 z=>vY (fun v st2 z=>b9 h z) z) q
 | .ix a b,ρ,st,Q,Q',h,q=>by exact aa G a (fun x st1 z=>aa G b (fun y st2 z=>lX (fun v st3 z=>b9 h z) z) z) q
 | .pcall _ _,ρ,st,Q,Q',h,q=>False.elim q
 | .eqd _ _ _,ρ,st,Q,Q',h,q=>False.elim q
 | .compK _ _ _ _ _ _ _,ρ,st,Q,Q',h,q=>False.elim q
 | .compD _ _ _ _ _ _ _ _,ρ,st,Q,Q',h,q=>False.elim q
 | .dcl _,ρ,st,Q,Q',h,q=>False.elim q
 | .dct2 _ _,ρ,st,Q,Q',h,q=>False.elim q
 | .hm _ _ _,ρ,st,Q,Q',h,q=>False.elim q
 | .int _,ρ,st,Q,Q',h,q=>False.elim q
 | .bl _,ρ,st,Q,Q',h,q=>False.elim q
 | .non,ρ,st,Q,Q',h,q=>False.elim q
 | .str _,ρ,st,Q,Q',h,q=>False.elim q
 | .gv _ _,ρ,st,Q,Q',h,q=>False.elim q
 | .tup _,ρ,st,Q,Q',h,q=>False.elim q
 | .lst _,ρ,st,Q,Q',h,q=>False.elim q
 | .dct0,ρ,st,Q,Q',h,q=>False.elim q
 | .bad,ρ,st,Q,Q',h,q=>False.elim q
 | .jrev _,ρ,st,Q,Q',h,q=>False.elim q
 | .dcp _,ρ,st,Q,Q',h,q=>False.elim q
 | .smx _ _ _,ρ,st,Q,Q',h,q=>False.elim q
 | .dget _ _,ρ,st,Q,Q',h,q=>False.elim q
 | .clr _,ρ,st,Q,Q',h,q=>False.elim q
 | .sset _,ρ,st,Q,Q',h,q=>False.elim q
 | .part _ _,ρ,st,Q,Q',h,q=>False.elim q
 | .dct1 _ _,ρ,st,Q,Q',h,q=>False.elim q
 | .bin _ _ _,ρ,st,Q,Q',h,q=>False.elim q
 | .neg _,ρ,st,Q,Q',h,q=>False.elim q
 | .ite _ _ _,ρ,st,Q,Q',h,q=>False.elim q
 | .sl _ _ _,ρ,st,Q,Q',h,q=>False.elim q
 | .met _ _ _,ρ,st,Q,Q',h,q=>False.elim q
 | .comp _ _ _ _ _ _,ρ,st,Q,Q',h,q=>False.elim q
theorem nS (G:aT Γ):∀(e:Es) {ρ:Fr}{st:AH}{Q Q':EK},(∀v st,Q v st->Q' v st)->ue Γ e ρ st Q->ue Γ e ρ st Q'
 | .nil,ρ,st,Q,Q',h,q=>False.elim q
 | .cons e .nil,ρ,st,Q,Q',h,q=>by exact aa G e h q
 | .cons e (.cons e2 es),ρ,st,Q,Q',h,q=>by
  skip
  refine aa G e (fun x st1 z=>?_) q;obtain⟨c,e,z⟩:=z;refine⟨c,e,?_⟩;cases c with
  | true=>rw[O0 rfl] at z |-;exact nS G (.cons e2 es) h z
  | false=>rw[OY OS] at z |-;exact h _ _ z
theorem mV (G:aT Γ):∀(e:Es) {ρ:Fr}{st:AH}{Q Q':EK},(∀v st,Q v st->Q' v st)->t8 Γ e ρ st Q->t8 Γ e ρ st Q'
 | .nil,ρ,st,Q,Q',h,q=>False.elim q
 | .cons e .nil,ρ,st,Q,Q',h,q=>by exact aa G e h q
 | .cons e (.cons e2 es),ρ,st,Q,Q',h,q=>by
  skip
  refine aa G e (fun x st1 z=>?_) q;obtain⟨c,e,z⟩:=z;refine⟨c,e,?_⟩;cases c with
  | true=>rw[O0 rfl] at z |-;exact h _ _ z
  | false=>rw[OY OS] at z |-;exact mV G (.cons e2 es) h z
theorem cG (G:aT Γ):∀(e:Es) {ρ:Fr}{st:AH}{Q Q':BK},(∀v st,Q v st->Q' v st)->jt Γ e ρ st Q->jt Γ e ρ st Q'
 | .nil,ρ,st,Q,Q',h,q=>by exact h _ _ q
 | .cons e .nil,ρ,st,Q,Q',h,q=>by exact aP G e h q
 | .cons e (.cons e2 es),ρ,st,Q,Q',h,q=>by
  skip
  refine aP G e (fun c st1 z=>?_) q;cases c with
  | true=>rw[O0 rfl] at z |-;exact cG G (.cons e2 es) h z
  | false=>rw[OY OS] at z |-;exact h _ _ z
theorem nK (G:aT Γ):∀(e:Es) {ρ:Fr}{st:AH}{Q Q':BK},(∀v st,Q v st->Q' v st)->uZ Γ e ρ st Q->uZ Γ e ρ st Q'
 | .nil,ρ,st,Q,Q',h,q=>by exact h _ _ q
 | .cons e .nil,ρ,st,Q,Q',h,q=>by exact aP G e h q
 | .cons e (.cons e2 es),ρ,st,Q,Q',h,q=>by
  skip
  refine aP G e (fun c st1 z=>?_) q;cases c with
  | true=>rw[O0 rfl] at z |-;exact h _ _ z
  | false=>rw[OY OS] at z |-;exact nK G (.cons e2 es) h z
theorem bL (G:aT Γ):∀(e:It) {ρ:Fr}{st:AH}{Q Q':List PV->(AH->Prop)->AH->Prop},(∀v c st,Q v c st->Q' v c st)->eg Γ e ρ st Q->eg Γ e ρ st Q'
 | .seq a,ρ,st,Q,Q',h,q=>by
  skip
  refine aa G a (fun x st1 z=>?_) q;obtain⟨c,e,z⟩:=z;exact⟨c,e,h _ _ _ z⟩
 | .range1 a,ρ,st,Q,Q',h,q=>by
  skip
  refine aa G a (fun x st1 z=>?_) q;obtain⟨c,e,h1,h2,z⟩:=z;exact⟨c,e,h1,h2,h _ _ _ z⟩
 | .range2 a b,ρ,st,Q,Q',h,q=>by
  skip
  refine aa G a (fun x st1 z=>aa G b (fun y st2 z=>?_) z) q;obtain⟨i,j,e,e2,h1,z⟩:=z;exact⟨i,j,e,e2,h1,h _ _ _ z⟩
 | .zip a b,ρ,st,Q,Q',h,q=>by
  skip
  refine aa G a (fun x st1 z=>aa G b (fun y st2 z=>?_) z) q;obtain⟨i,j,e,e2,z⟩:=z;exact⟨i,j,e,e2,h _ _ _ z⟩
 | .enum a,ρ,st,Q,Q',h,q=>by
  skip
  refine aa G a (fun x st1 z=>?_) q;obtain⟨c,e,z⟩:=z;exact⟨c,e,h _ _ _ z⟩
 | .chars a,ρ,st,Q,Q',h,q=>by refine aa G a (fun x st1 z=>?_) q;obtain⟨c,e,z⟩:=z;exact⟨c,e,h _ _ _ z⟩
 | .zip3 _ _ _,ρ,st,Q,Q',h,q=>False.elim q
 | .range3 a b c,ρ,st,Q,Q',h,q=>by refine aa G a (fun x st1 z=>aa G b (fun y st2 z=>aa G c (fun u st3 z=>?_) z) z) q;obtain⟨i,j,k,e,e2,e3,h1,z⟩:=z;exact⟨i,j,k,e,e2,e3,h1,h _ _ _ z⟩
theorem aU (G:aT Γ):∀(t:Tg) {v:PV}{ρ:Fr}{st:AH}{Q Q':Fr->AH->Prop},(∀ρ st,Q ρ st->Q' ρ st)->cX Γ t v ρ st Q->cX Γ t v ρ st Q'
 | .name i,v,ρ,st,Q,Q',h,q=>by exact h _ _ q
 | .tup ts,v,ρ,st,Q,Q',h,q=>by
  skip
  obtain⟨xs,e,hl,q⟩:=q;exact⟨xs,e,hl,iD G ts h q⟩
 | .ltup ts,v,ρ,st,Q,Q',h,q=>False.elim q
 | .sub o i,v,ρ,st,Q,Q',h,q=>by exact aa G o (fun x st1 z=>aa G i (fun y st2 z=>sM (fun st3 z=>h _ _ z) z) z) q
theorem iD (G:aT Γ):∀(t:Tgs) {v:List PV}{ρ:Fr}{st:AH}{Q Q':Fr->AH->Prop},(∀ρ st,Q ρ st->Q' ρ st)->jf Γ t v ρ st Q->jf Γ t v ρ st Q'
 | .nil,v,ρ,st,Q,Q',h,q=>by exact⟨q.1,h _ _ q.2⟩
 | .cons t ts,v,ρ,st,Q,Q',h,q=>by
  skip
  obtain⟨x,r,e,q⟩:=q;exact⟨x,r,e,aU G t (fun ρ' st' z=>iD G ts h z) q⟩
end
structure i2 (D D':aK):Prop where
 nx:∀ρ st,D.nx ρ st->D'.nx ρ st
 rt:∀v st,D.rt v st->D'.rt v st
 bk:∀ρ st,D.bk ρ st->D'.bk ρ st
 ct:∀ρ st,D.ct ρ st->D'.ct ρ st
theorem jV {body body':PV->Fr->AH->aK->Prop}{D:aK}(hD:i2 D D')(hb:∀x ρ st D D',i2 D D'->body x ρ st D->body' x ρ st D') :
  ∀ {xs:List PV}{ρ:Fr}{st:AH},m9 chk body D xs ρ st->m9 chk body' D' xs ρ st
 | [],ρ,st,q=>⟨q.1,hD.nx _ _ q.2⟩
 | x::xs,ρ,st,q=>by refine⟨q.1,hb _ _ _ _ _ ?_ q.2⟩;exact⟨fun _ _ z=>jV hD hb z,hD.rt,hD.nx,fun _ _ z=>jV hD hb z⟩
theorem jx {c:Fr->AH->BK->Prop}{body:Fr->AH->aK->Prop}{D:aK}(hD:i2 D D')(hc:∀ρ st Q Q',(∀b st,Q b st->Q' b st)->c ρ st Q->c ρ st Q')(hb:∀ρ st D D',i2 D D'->body ρ st D->body ρ st D'):∀ {n:Nat}{ρ:Fr}{st:AH},fY c body D n ρ st->fY c body D' n ρ st
 | 0,ρ,st,q=>q
 | n+1,ρ,st,q=>hc _ _ _ _ (fun b st1 z=>by
  cases b with
  | true =>
   rw[O0 rfl] at z |-
   refine hb _ _ _ _ ?_ z;exact⟨fun _ _ z=>jx hD hc hb z,hD.rt,hD.nx,fun _ _ z=>jx hD hc hb z⟩
  | false=>rw[OY OS] at z |-;exact hD.nx _ _ z) q
mutual
theorem jC (G:aT Γ):∀(s:S) {ρ:Fr}{st:AH}{D D':aK},i2 D D'->wpS Γ s ρ st D->wpS Γ s ρ st D'
 | .set t e,ρ,st,D,D',h,q=>by exact aa G e (fun v st1 z=>aU G t h.nx z) q
 | .par i j a b,ρ,st,D,D',h,q=>by exact aa G a (fun v st1 z=>aa G b (fun w st2 z=>h.nx _ _ z) z) q
 | .aug i op e,ρ,st,D,D',h,q=>False.elim q
 | .expr e,ρ,st,D,D',h,q=>by exact aa G e (fun v st1 z=>h.nx _ _ z) q
 | .ret e,ρ,st,D,D',h,q=>by exact aa G e h.rt q
 | .retN,ρ,st,D,D',h,q=>by exact h.rt _ _ q
 | .ifS c a b,ρ,st,D,D',h,q=>by
  skip
  refine aP G c (fun k st1 z=>?_) q;cases k with
  | true=>rw[O0 rfl] at z |-;exact bb G a h z
  | false=>rw[OY OS] at z |-;exact bb G b h z
 | .whileS c b,ρ,st,D,D',h,q=>by
  skip
  obtain⟨n,q⟩:=q;refine⟨n,jx h (c:=wpT Γ c) (body:=aG Γ b) ?_ ?_ q⟩
  ·exact fun _ _ _ _ hk z=>aP G c hk z
  ·exact fun _ _ _ _ hk z=>bb G b hk z
 | .forS t it b,ρ,st,D,D',h,q=>by
  skip
  exact bL G it (fun xs chk st1 z=>jV h (fun x ρ st D D' hd w=>aU G t (fun ρ2 st2 w=>bb G b hd w) w) z) q
 | .forK _ _ _ _,ρ,st,D,D',h,q=>False.elim q
 | .pass,ρ,st,D,D',h,q=>by exact h.nx _ _ q
 | .bad,ρ,st,D,D',h,q=>False.elim q
 | .set2 i j e,ρ,st,D,D',h,q=>by exact aa G e (fun v st1 z=>h.nx _ _ z) q
 | .brk,ρ,st,D,D',h,q=>by exact h.bk _ _ q
 | .cont,ρ,st,D,D',h,q=>by exact h.ct _ _ q
theorem bb (G:aT Γ):∀(s:Ss) {ρ:Fr}{st:AH}{D D':aK},i2 D D'->aG Γ s ρ st D->aG Γ s ρ st D'
 | .nil,ρ,st,D,D',h,q=>by exact h.nx _ _ q
 | .cons s ss,ρ,st,D,D',h,q=>by
  skip
  refine jC G s ?_ q;exact⟨fun _ _ z=>bb G ss h z,h.rt,h.bk,h.ct⟩
end
end
end FW
namespace FW
open L2 HX
def RdF (K:W.Frag)(H:Hp)(a:Addr)(ys:List V):Prop :=
 (∃o,H a=some (.frz o (.lst ys)))\/∃(o:Obj) (its:Array Value) (n:Nat),K.lookup a=some o/\o.cls=.type "list"/\o.dict=none/\o.data=.seq its n/\its.size<=sizeLine/\Vals ys its.toList
theorem RdF.sq (h:RdF K H a ys):SqL K H a ys:=by
 rcases h with h|h
 ·exact .inl (.inr h)
 ·exact .inr h
mutual
noncomputable def R (K:W.Frag)(m:List Addr)(H:Hp):PV->V->Prop
 | .non,v=>v=.non
 | .bl b,v=>v=.bl b
 | .int i,v=>v=.int i
 | .str x,v=>v=.str x
 | .ref n,v=>∃a,m[n]?=some a/\v=.ref a
 | .tup xs,v=>∃a ys,v=.ref a/\SqT K H a ys/\Rs K m H xs ys
 | .rdl xs,v=>∃a ys,v=.ref a/\RdF K H a ys/\Rs K m H xs ys
 | .fn a,v=>v=.ref a
noncomputable def Rs (K:W.Frag)(m:List Addr)(H:Hp):List PV->List V->Prop
 | [],ys=>ys=[]
 | x::xs,ys=>∃y r,ys=y::r/\R K m H x y/\Rs K m H xs r
end
section
variable {K:W.Frag}{m m':List Addr}{H H':Hp}{v:V}{vs:List V}
theorem R_non:R K m H .non v↔v=.non:=by rw[R]
theorem R_bl {b:Bool}:R K m H (.bl b) v↔v=.bl b:=by rw[R]
theorem R_int {b:Int}:R K m H (.int b) v↔v=.int b:=by rw[R]
theorem R_str:R K m H (.str b) v↔v=.str b:=by rw[R]
theorem jv {n:Nat}:R K m H (.ref n) v↔∃a,m[n]?=some a/\v=.ref a:=by rw[R]
theorem R_tup:R K m H (.tup xs) v↔∃a ys,v=.ref a/\SqT K H a ys/\Rs K m H xs ys:=by rw[R]
theorem gC:R K m H (.rdl xs) v↔∃a ys,v=.ref a/\RdF K H a ys/\Rs K m H xs ys:=by rw[R]
theorem Bc {a:Nat}:R K m H (.fn a) v↔v=.ref a:=by rw[R]
theorem Rs_nil:Rs K m H [] vs↔vs=[]:=by rw[Rs]
theorem bh {x:PV}{xs:List PV}:Rs K m H (x::xs) vs↔∃y r,vs=y::r/\R K m H x y/\Rs K m H xs r:=by rw[Rs]
theorem Rs_cons' {x:PV}{xs:List PV}:Rs K m H (x::xs) (v::vs)↔R K m H x v/\Rs K m H xs vs:=by
 rw[bh];constructor
 ·rintro⟨_,_,e,h1,h2⟩;cases e;exact⟨h1,h2⟩
 ·rintro⟨h1,h2⟩;exact⟨_,_,rfl,h1,h2⟩
theorem Rs.len:∀ {xs:List PV}{ys:List V},Rs K m H xs ys->xs.length=ys.length
 | [],ys,h=>by rw[Rs_nil] at h;subst h;rfl
 | x::xs,ys,h=>by rw[bh] at h;obtain⟨y,r,rfl,_,h⟩:=h;simp[Rs.len h]
theorem Rs.get:∀ {xs:List PV}{ys:List V}{i:Nat}{x:PV},Rs K m H xs ys->xs[i]?=some x->∃y,ys[i]?=some y/\R K m H x y
 | [],ys,i,x,h,e=>by simp at e
 | x::xs,ys,i,z,h,e=>by
  rw[bh] at h;obtain⟨y,r,rfl,h1,h⟩:=h;cases i with
  | zero=>simp at e;subst e;exact⟨y,rfl,h1⟩
  | succ i =>obtain⟨w,e1,e2⟩:=Rs.get h (by simpa using e);exact⟨w,by simpa using e1,e2⟩
theorem Rs.app:∀ {xs zs:List PV}{ys ws:List V},Rs K m H xs ys->Rs K m H zs ws->Rs K m H (xs++zs) (ys++ws)
 | [],zs,ys,ws,h,h'=>by rw[Rs_nil] at h;subst h;exact h'
 | x::xs,zs,ys,ws,h,h'=>by rw[bh] at h;obtain⟨y,r,rfl,h1,h⟩:=h;rw[List.cons_append,bh];exact⟨y,r++ws,rfl,h1,h.app h'⟩
theorem Rs.drop:∀ {xs:List PV}{ys:List V} (n:Nat),Rs K m H xs ys->Rs K m H (xs.drop n) (ys.drop n)
 | xs,ys,0,h=>by simpa using h
 | [],ys,n+1,h=>by rw[Rs_nil] at h;subst h;simp[Rs_nil]
 | x::xs,ys,n+1,h=>by rw[bh] at h;obtain⟨y,r,rfl,h1,h⟩:=h;simpa using Rs.drop n h
theorem Rs.take:∀ {xs:List PV}{ys:List V} (n:Nat),Rs K m H xs ys->Rs K m H (xs.take n) (ys.take n)
 | xs,ys,0,h=>by simp[Rs_nil]
 | [],ys,n+1,h=>by rw[Rs_nil] at h;subst h;simp[Rs_nil]
 | x::xs,ys,n+1,h=>by rw[bh] at h;obtain⟨y,r,rfl,h1,h⟩:=h;rw[List.take_succ_cons,List.take_succ_cons,Rs_cons'];exact⟨h1,Rs.take n h⟩
theorem Rs.set (hx:R K m H x y):∀ {xs:List PV}{ys:List V} (n:Nat),Rs K m H xs ys->Rs K m H (xs.set n x) (ys.set n y)
 | [],ys,n,h=>by rw[Rs_nil] at h;subst h;simp[Rs_nil]
 | z::xs,ys,0,h=>by rw[bh] at h;obtain⟨w,r,rfl,h1,h⟩:=h;rw[List.set_cons_zero,List.set_cons_zero,Rs_cons'];exact⟨hx,h⟩
 | z::xs,ys,n+1,h=>by rw[bh] at h;obtain⟨w,r,rfl,h1,h⟩:=h;rw[List.set_cons_succ,List.set_cons_succ,Rs_cons'];exact⟨h1,Rs.set hx n h⟩
theorem Rs.cut (h:Rs K m H xs ys)(lo hi:Option Int):Rs K m H (jc xs lo hi) (rX ys lo hi):=by unfold jc rX;rw[h.len];exact(h.drop _).take _
theorem Rs.atI {i:Int}(h:Rs K m H xs ys)(e:atI xs i=some x):∃y,L2.atI ys i=some y/\R K m H x y:=by
 unfold L2.atI at e |-
 rw[h.len] at e;cases q:ixN ys.length i with
 | none=>rw[q] at e;cases e
 | some j =>rw[q] at e;obtain⟨y,e1,e2⟩:=h.get (show xs[j]?=some x from e);exact⟨y,e1,e2⟩
theorem Rs.erase (h:Rs K m H xs ys)(i:Nat):Rs K m H (xs.eraseIdx i) (ys.eraseIdx i):=by rw[QD,QD];exact(h.take _).app (h.drop _)
theorem Rs.rep (h:Rs K m H xs ys):∀n:Nat,Rs K m H (List.replicate n xs).flatten (List.replicate n ys).flatten
 | 0=>by simp[Rs_nil]
 | n+1=>by rw[QH,QH,Q_,Q_];exact h.app (Rs.rep h n)
theorem Rs.one (h:R K m H x y):Rs K m H [x] [y]:=by rw[Rs_cons',Rs_nil];exact⟨h,rfl⟩
end
noncomputable def bM:List Str:=["coming","latest","through"]
def TB (K:W.Frag)(H:Hp):Prop:=∀x∈bM,∀c T,W.tabIn K x=some (c,T)->(∀y∈bM,∀d,W.tabIn K y=some (d,T)->y=x)/\∃ps,H T=some (.tbl ps)/\TriplesOk ps.toList /\
 ∀pos cv,codeAmong pos ps.toList=some cv->∃c' oc,cv=.ref c'/\H c'=some (.frz oc (.own 0))/\Hx oc (x++".<locals>."++"<lambda>")
theorem TB.keep {H':Hp}(t:TB K H)(h1:∀a ps,H a=some (.tbl ps)->H' a=some (.tbl ps))(h2:∀a o,H a=some (.frz o (.own 0))->H' a=some (.frz o (.own 0))):TB K H':=fun x hx c T e=>by obtain⟨e0,ps,e1,e2,e3⟩:=t x hx c T e;refine⟨e0,ps,h1 _ _ e1,e2,fun pos cv q=>?_⟩;obtain⟨c',oc,g1,g2,g3⟩:=e3 pos cv q;exact⟨c',oc,g1,h2 _ _ g2,g3⟩
structure Ext (K:W.Frag)(m:List Addr)(H:Hp)(m':List Addr)(H':Hp):Prop where
 pre:m <+: m'
 new:∀a∈m',a∈m\/H a=none
 fr:∀a o,a ∉ m->H a=some o->(∀ps,o≠.tbl ps)->H' a=some o
 tup:∀a ys,SqT K H a ys->SqT K H' a ys
 rdf:∀a ys,RdF K H a ys->RdF K H' a ys
 tbs:∀a ps,a ∉ m->H a=some (.tbl ps)->∃ps',H' a=some (.tbl ps')
 tb:TB K H->TB K H'
 frz:∀a o u,H a=some (.frz o u)->H' a=some (.frz o u)
theorem Ext.refl (K:W.Frag)(m:List Addr)(H:Hp):Ext K m H m H:=⟨SN _,fun _ h=>.inl h,fun _ _ _ h _=>h,fun _ _ h=>h,fun _ _ h=>h,fun _ ps _ h=>⟨ps,h⟩,fun h=>h,fun _ _ _ h=>h⟩
theorem Ext.ne (x:Ext K m H m' H'){a:Addr}(hm:a ∉ m)(e:H a=some o):H' a≠none:=fun z=>by
 by_cases h:∃ps,o=.tbl ps
 ·obtain⟨ps,rfl⟩:=h;obtain⟨q,e2⟩:=x.tbs a ps hm e;rw[e2] at z;cases z
 ·rw[x.fr a o hm e fun ps q=>h ⟨ps,q⟩] at z;cases z
theorem Ext.trans (a:Ext K m H m1 H1)(b:Ext K m1 H1 m2 H2):Ext K m H m2 H2:=by
 have nin:∀c o,c ∉ m->H c=some o->c ∉ m1:=fun c o h e z=>by
  rcases a.new c z with q|q
  ·exact h q
  ·rw[e] at q;cases q
 refine⟨a.pre.trans b.pre,fun c hc=>?_,fun c o h e n=>b.fr c o (nin c o h e) (a.fr c o h e n) n,fun c ys h=>b.tup c ys (a.tup c ys h),fun c ys h=>b.rdf c ys (a.rdf c ys h),fun c ps h e=>let ⟨p1,e1⟩:=a.tbs c ps h e;b.tbs c p1 (nin c _ h e) e1,fun h=>b.tb (a.tb h),fun c o u h=>b.frz c o u (a.frz c o u h)⟩;rcases b.new c hc with q|q
 ·exact a.new c q
 ·by_cases hm:c∈m
  ·exact .inl hm
  ·cases e:H c with
   | none=>exact .inr rfl
   | some o=>exact absurd q (a.ne hm e)
theorem lz {m:List Addr}(h:m <+: m'){n:Nat}(e:m[n]?=some a):m'[n]?=some a:=by obtain⟨t,rfl⟩:=h;rw[O_ (OT.mp e).1];exact e
mutual
theorem R.mono (x:Ext K m H m' H'):∀ {p:PV}{v:V},R K m H p v->R K m' H' p v
 | .non,v,h=>by rw[R_non] at h |-;exact h
 | .bl b,v,h=>by rw[R_bl] at h |-;exact h
 | .int b,v,h=>by rw[R_int] at h |-;exact h
 | .str b,v,h=>by rw[R_str] at h |-;exact h
 | .ref n,v,h=>by rw[jv] at h |-;obtain⟨a,e,q⟩:=h;exact⟨a,lz x.pre e,q⟩
 | .tup xs,v,h=>by rw[R_tup] at h |-;obtain⟨a,ys,e,q,r⟩:=h;exact⟨a,ys,e,x.tup _ _ q,Rs.mono x r⟩
 | .rdl xs,v,h=>by rw[gC] at h |-;obtain⟨a,ys,e,q,r⟩:=h;exact⟨a,ys,e,x.rdf _ _ q,Rs.mono x r⟩
 | .fn b,v,h=>by rw[Bc] at h |-;exact h
theorem Rs.mono (x:Ext K m H m' H'):∀ {ps:List PV}{vs:List V},Rs K m H ps vs->Rs K m' H' ps vs
 | [],vs,h=>by rw[Rs_nil] at h |-;exact h
 | p::ps,vs,h=>by
  rw[bh] at h |-
  obtain⟨y,r,e,h1,h2⟩:=h;exact⟨y,r,e,R.mono x h1,Rs.mono x h2⟩
end
mutual
theorem R.cut {m:List Addr}{k:Nat}:∀ {p:PV}{v:V},R K m H p v->p.bec k=true->R K (m.take k) H p v
 | .non,v,h,_=>by rw[R_non] at h |-;exact h
 | .bl b,v,h,_=>by rw[R_bl] at h |-;exact h
 | .int b,v,h,_=>by rw[R_int] at h |-;exact h
 | .str b,v,h,_=>by rw[R_str] at h |-;exact h
 | .ref n,v,h,z=>by
  rw[jv] at h |-
  obtain⟨a,e,q⟩:=h;rw[PV.bec] at z;exact⟨a,by rw[RB (P2 z)];exact e,q⟩
 | .tup xs,v,h,z=>by
  rw[R_tup] at h |-
  obtain⟨a,ys,e,q,r⟩:=h;rw[PV.bec] at z;exact⟨a,ys,e,q,Rs.cutm r z⟩
 | .rdl xs,v,h,z=>by
  rw[gC] at h |-
  obtain⟨a,ys,e,q,r⟩:=h;rw[PV.bec] at z;exact⟨a,ys,e,q,Rs.cutm r z⟩
 | .fn b,v,h,_=>by rw[Bc] at h |-;exact h
theorem Rs.cutm {m:List Addr}{k:Nat}:∀ {ps:List PV}{vs:List V},Rs K m H ps vs->PV.becs k ps=true->Rs K (m.take k) H ps vs
 | [],vs,h,_=>by rw[Rs_nil] at h |-;exact h
 | p::ps,vs,h,z=>by
  rw[bh] at h |-
  obtain⟨y,r,e,h1,h2⟩:=h;rw[PV.becs,OU] at z;exact⟨y,r,e,R.cut h1 z.1,Rs.cutm h2 z.2⟩
end
mutual
theorem R.bel {m:List Addr}:∀ {p:PV}{v:V},R K m H p v->p.bec m.length=true
 | .non,v,h=>by rw[PV.bec]
 | .bl b,v,h=>by rw[PV.bec]
 | .int b,v,h=>by rw[PV.bec]
 | .str b,v,h=>by rw[PV.bec]
 | .ref n,v,h=>by rw[jv] at h;obtain⟨a,e,q⟩:=h;rw[PV.bec];exact PJ (OT.mp e).1
 | .tup xs,v,h=>by rw[R_tup] at h;obtain⟨a,ys,e,q,r⟩:=h;rw[PV.bec];exact Rs.bel r
 | .rdl xs,v,h=>by rw[gC] at h;obtain⟨a,ys,e,q,r⟩:=h;rw[PV.bec];exact Rs.bel r
 | .fn b,v,h=>by rw[PV.bec]
theorem Rs.bel {m:List Addr}:∀ {ps:List PV}{vs:List V},Rs K m H ps vs->PV.becs m.length ps=true
 | [],vs,h=>by rw[PV.becs]
 | p::ps,vs,h=>by rw[bh] at h;obtain⟨y,r,e,h1,h2⟩:=h;rw[PV.becs,OU];exact⟨R.bel h1,Rs.bel h2⟩
end
noncomputable def CellR (K:W.Frag)(m:List Addr)(H:Hp):Cell->Addr->Prop
 | .lst xs,a=>∃ys,H a=some (.lst ys)/\Rs K m H xs ys
 | .dk kvs,a=>∃ys,H a=some (.dK ys)/\ys.map (·.1)=kvs.map (·.1)/\Rs K m H (kvs.map (·.2)) (ys.map (·.2))
 | .fz kvs,a=>∃o ys,H a=some (.frz o (.dK ys))/\ys.map (·.1)=kvs.map (·.1)/\Rs K m H (kvs.map (·.2)) (ys.map (·.2))
theorem CellR.mono (x:Ext K m H m' H')(h:CellR K m H c a)(e:H' a=H a):CellR K m' H' c a:=by
 cases c with
 | lst xs=>obtain⟨ys,h1,h2⟩:=h;exact⟨ys,e.trans h1,h2.mono x⟩
 | dk kvs=>obtain⟨ys,h1,h2,h3⟩:=h;exact⟨ys,e.trans h1,h2,h3.mono x⟩
 | fz kvs=>obtain⟨o,ys,h1,h2,h3⟩:=h;exact⟨o,ys,e.trans h1,h2,h3.mono x⟩
theorem CellR.ex (h:CellR K m H c a):∃o,H a=some o/\(∀ys,o≠.tup ys)/\∀u p,o=.frz u p->∃ys,p=.dK ys:=by
 cases c with
 | lst xs=>obtain⟨ys,h1,h2⟩:=h;exact⟨_,h1,⟨fun _ z=>(by cases z),fun _ _ z=>(by cases z)⟩⟩
 | dk kvs=>obtain⟨ys,h1,h2,h3⟩:=h;exact⟨_,h1,⟨fun _ z=>(by cases z),fun _ _ z=>(by cases z)⟩⟩
 | fz kvs=>obtain⟨o,ys,h1,h2,h3⟩:=h;exact⟨_,h1,⟨fun _ z=>(by cases z),fun _ _ z=>(by cases z;exact⟨ys,rfl⟩)⟩⟩
theorem CellR.cut {k:Nat}(h:CellR K m H c a)(z:c.bec k=true):CellR K (m.take k) H c a:=by
 cases c with
 | lst xs=>obtain⟨ys,h1,h2⟩:=h;exact⟨ys,h1,h2.cutm z⟩
 | dk kvs=>obtain⟨ys,h1,h2,h3⟩:=h;exact⟨ys,h1,h2,h3.cutm z⟩
 | fz kvs=>obtain⟨o,ys,h1,h2,h3⟩:=h;exact⟨o,ys,h1,h2,h3.cutm z⟩
theorem CellR.bel (h:CellR K m H c a):c.bec m.length=true:=by
 cases c with
 | lst xs=>obtain⟨ys,h1,h2⟩:=h;exact h2.bel
 | dk kvs=>obtain⟨ys,h1,h2,h3⟩:=h;exact h3.bel
 | fz kvs=>obtain⟨o,ys,h1,h2,h3⟩:=h;exact h3.bel
structure RH (K:W.Frag)(m:List Addr)(H:Hp)(st:AH):Prop where
 len:m.length=st.length
 nd:m.Nodup
 at_:∀(n:Nat) (c:Cell) (a:Addr),st[n]?=some c->m[n]?=some a->CellR K m H c a
 tb:TB K H
section
variable {K:W.Frag}{m m':List Addr}{H H':Hp}{st:AH}
theorem RH.get {n:Nat}(h:RH K m H st)(e:st[n]?=some c):∃a,m[n]?=some a/\CellR K m H c a:=by
 have:n<m.length:=by rw[h.len];exact(OT.mp e).1
 exact⟨m[n],by simp[this],h.at_ n c _ e (by simp[this])⟩
theorem RH.mem {a:Addr}(h:RH K m H st)(e:a∈m):∃o,H a=some o/\(∀ys,o≠.tup ys)/\∀u p,o=.frz u p->∃ys,p=.dK ys:=by
 obtain⟨n,hn,rfl⟩:=List.mem_iff_getElem.mp e;have:n<st.length:=by rw[<-h.len];exact hn
 exact(h.at_ n st[n] _ (by simp[this]) (by simp[hn])).ex
theorem RH.mem_tbl {a:Addr}(h:RH K m H st)(e:a∈m):H a≠some (.tbl ps):=fun z=>by
 obtain⟨n,hn,rfl⟩:=List.mem_iff_getElem.mp e;have:n<st.length:=by rw[<-h.len];exact hn
 have c:=h.at_ n st[n] m[n] (by simp[this]) (by simp[hn]);cases q:st[n] with
 | lst xs=>rw[q] at c;obtain⟨ys,h1,_⟩:=c;rw[h1] at z;cases z
 | dk xs=>rw[q] at c;obtain⟨ys,h1,_⟩:=c;rw[h1] at z;cases z
 | fz xs=>rw[q] at c;obtain⟨o,ys,h1,_⟩:=c;rw[h1] at z;cases z
theorem RH.lst {n:Nat}(h:RH K m H st)(e:st[n]?=some (.lst xs))(r:R K m H (.ref n) v):∃a ys,v=.ref a/\m[n]?=some a/\H a=some (.lst ys)/\Rs K m H xs ys:=by rw[jv] at r;obtain⟨a,e1,rfl⟩:=r;obtain⟨ys,h1,h2⟩:=h.at_ n _ a e e1;exact⟨a,ys,rfl,e1,h1,h2⟩
theorem RH.fresh (h:RH K m H st)(e:H p=none):p ∉ m:=fun z=>by obtain⟨o,q,_⟩:=h.mem z;rw[e] at q;cases q
theorem Ext.newT (h:RH K m H st)(e:H p=none):Ext K m H m (upd H p o):=by
 refine⟨SN _,fun _ z=>.inl z,fun a u _ q _=>?_,fun a ys q=>?_,fun a ys q=>?_,fun a ps _ q=>⟨ps,by rw[ao (aH q e)];exact q⟩,fun t=>t.keep (fun a ps q=>by rw[ao (aH q e)];exact q) fun a o q=>by rw[ao (aH q e)];exact q,fun a o u q=>by rw[ao (aH q e)];exact q⟩
 ·rw[ao (aH q e)];exact q
 ·rcases q with (q|⟨u,q⟩)|q
  ·exact .inl (.inl (by rw[ao (aH q e)];exact q))
  ·exact .inl (.inr ⟨u,by rw[ao (aH q e)];exact q⟩)
  ·exact .inr q
 ·rcases q with⟨u,q⟩|q
  ·exact .inl ⟨u,by rw[ao (aH q e)];exact q⟩
  ·exact .inr q
theorem RH.keep (h:RH K m H st)(x:Ext K m H m H')(e:∀a∈m,H' a=H a):RH K m H' st :=
 ⟨h.len,h.nd,fun n c a h1 h2=>(h.at_ n c a h1 h2).mono x (e a (OZ h2)),x.tb h.tb⟩
theorem RH.newT (h:RH K m H st)(e:H p=none):RH K m (upd H p o) st :=
 h.keep (Ext.newT h e) fun a ha=>ao fun z=>h.fresh e (z ▸ ha)
theorem Ext.new1 (h:RH K m H st)(e:H p=none):Ext K m H (m++[p]) (upd H p o):=by
 have q:=Ext.newT (o:=o) h e;refine⟨S2 _ _,fun a z=>?_,q.fr,q.tup,q.rdf,q.tbs,q.tb,q.frz⟩;rcases P7.mp z with z|z
 ·exact .inl z
 ·rw[PM] at z;subst z;exact .inr e
theorem RH.new1 (h:RH K m H st)(e:H p=none)(hc:CellR K (m++[p]) (upd H p o) c p):RH K (m++[p]) (upd H p o) (st++[c]):=by
 have x:=Ext.new1 (o:=o) h e;refine⟨by simp[h.len],RS.mpr ⟨h.nd,O4.mpr ⟨by simp,TU⟩,fun a ha b hb z=>?_⟩,fun n c' a h1 h2=>?_,x.tb h.tb⟩
 ·rw[PM] at hb;subst hb;exact h.fresh e (z ▸ ha)
 ·by_cases hn:n<st.length
  ·rw[O_ hn] at h1;rw[O_ (by rw[h.len];exact hn)] at h2;exact(h.at_ n c' a h1 h2).mono x (ao fun z=>h.fresh e (z ▸ OZ h2))
  ·rw[PB (by omega)] at h1;rw[PB (by rw[h.len];omega)] at h2;have hl:=h.len;by_cases hz:n-st.length=0
   ·rw[hz] at h1;rw[show n-m.length=0 by omega] at h2;simp at h1 h2;subst h1 h2;exact hc
   ·rw[QU (by simp;omega)] at h1;cases h1
theorem RH.newL (h:RH K m H st)(e:H p=none)(r:Rs K m H xs ys):RH K (m++[p]) (upd H p (.lst ys)) (st++[.lst xs]) :=
 h.new1 e ⟨ys,bq,r.mono (Ext.new1 h e)⟩
theorem R.last {p:Addr}{n:Nat}(h:m.length=n):R K (m++[p]) H (.ref n) (.ref p):=by rw[jv];exact⟨p,by rw[<-h];simp,rfl⟩
theorem nfL {H:Hp}(g:H a=some (.lst ys)):∀w v,H a≠some (.frz w v):=fun _ _ z=>by rw[g] at z;cases z
theorem Ext.set {n:Nat}{ys:List V}(h:RH K m H st)(e:m[n]?=some a)(hz:∀w v,H a≠some (.frz w v)):Ext K m H m (upd H a o):=by
 have hm:=OZ e;obtain⟨u,hu,h1,h2⟩:=h.mem hm;refine⟨SN _,fun _ z=>.inl z,fun b w hb q _=>?_,fun b zs q=>?_,fun b zs q=>?_,fun b ps hb q=>⟨ps,by rw[ao (show b≠a from fun z=>hb (by rw[z];exact hm))];exact q⟩,fun t=>t.keep (fun b ps q=>by rw[ao (fun z=>by subst z;exact h.mem_tbl hm q)];exact q) fun b w q=>by rw[ao (fun z=>by subst z;exact hz _ _ q)];exact q,fun b w v q=>by rw[ao (fun z=>by subst z;exact hz _ _ q)];exact q⟩
 ·have hne:b≠a:=fun z=>hb (by rw[z];exact hm);rw[ao hne];exact q
 ·rcases q with (q|⟨w,q⟩)|q
  ·exact .inl (.inl (by rw[ao (fun z=>by subst z;rw[hu] at q;cases q;exact h1 _ rfl)];exact q))
  ·exact .inl (.inr ⟨w,by rw[ao (fun z=>by subst z;exact hz _ _ q)];exact q⟩)
  ·exact .inr q
 ·rcases q with⟨w,q⟩|q
  ·exact .inl ⟨w,by rw[ao (fun z=>by subst z;exact hz _ _ q)];exact q⟩
  ·exact .inr q
theorem Ao {m:List Addr}(h:m.Nodup){i j:Nat}(e:m[i]?=some a)(e':m[j]?=some a):i=j:=by obtain⟨h1,h2⟩:=OT.mp e;obtain⟨h3,h4⟩:=OT.mp e';exact(List.getElem_inj h).mp (h2.trans h4.symm)
theorem RH.setL {n:Nat}(h:RH K m H st)(e:m[n]?=some a)(hz:∀w v,H a≠some (.frz w v))(r:Rs K m H xs ys):RH K m (upd H a (.lst ys)) (st.set n (.lst xs)):=by
 have x:Ext K m H m (upd H a (.lst ys)):=Ext.set (ys:=ys) h e hz;refine⟨by simp[h.len],h.nd,fun k c b h1 h2=>?_,x.tb h.tb⟩;by_cases hk:k=n
 ·subst hk;rw[e] at h2;cases h2;have hl:k<st.length:=by rw[<-h.len];exact(OT.mp e).1
  rw[P0 hl] at h1;cases h1;exact⟨ys,bq,r.mono x⟩
 ·rw[PR (fun z=>hk z.symm)] at h1;exact(h.at_ k c b h1 h2).mono x (ao fun z=>hk (Ao h.nd h2 (z ▸ e)))
end
structure RF (K:W.Frag)(m:List Addr)(H:Hp)(ρ:Fr)(σ:L2.St):Prop where
 len:ρ.length=σ.length
 at_:∀(i:Nat) v,ρ[i]?=some (some v)->∃x,σ[i]?=some (some x)/\R K m H v x
theorem RF.mono (h:RF K m H ρ σ)(x:Ext K m H m' H'):RF K m' H' ρ σ :=
 ⟨h.len,fun i v e=>let ⟨y,e1,r⟩:=h.at_ i v e;⟨y,e1,r.mono x⟩⟩
theorem RF.set (h:RF K m H ρ σ)(i:Nat)(r:R K m H v x):RF K m H (ρ.set i (some v)) (σ.set i (some x)):=by
 refine⟨by simp[h.len],fun j w e=>?_⟩;by_cases hj:i=j
 ·subst hj;have hl:i<ρ.length:=by have:=(OT.mp e).1;simpa using this
  rw[P0 hl] at e;cases e;exact⟨x,by rw[P0 (h.len ▸ hl)],r⟩
 ·rw[PR hj] at e;rw[PR hj];exact h.at_ j w e
noncomputable def post (K:W.Frag)(m:List Addr)(H:Hp)(Q:VK):EK:=fun v st'=>∀m' H' x,Ext K m H m' H'->RH K m' H' st'->R K m' H' v x->Q x H'
noncomputable def postB (K:W.Frag)(m:List Addr)(H:Hp)(Q:Bool->Hp->Prop):BK:=fun v st'=>∀m' H',Ext K m H m' H'->RH K m' H' st'->Q v H'
noncomputable def GB (K:W.Frag)(m:List Addr)(H:Hp)(Q:List V->Hp->Prop):LK:=fun vs st'=>∀m' H' xs,Ext K m H m' H'->RH K m' H' st'->Rs K m' H' vs xs->Q xs H'
noncomputable def TEx (K:W.Frag)(w:Fr->AH->EK->Prop):TE:=fun σ H Q=>∃m ρ st,RF K m H ρ σ/\RH K m H st/\w ρ st (post K m H Q)
noncomputable def TTx (K:W.Frag)(w:Fr->AH->BK->Prop):TT:=fun σ H Q=>∃m ρ st,RF K m H ρ σ/\RH K m H st/\w ρ st (postB K m H Q)
noncomputable def TAx (K:W.Frag)(w:Fr->AH->LK->Prop):TA:=fun σ H Q=>∃m ρ st,RF K m H ρ σ/\RH K m H st/\w ρ st (GB K m H Q)
theorem post.ext (x:Ext K m H m1 H1)(q:post K m H Q v st):post K m1 H1 Q v st:=fun m' H' y e r s=>q m' H' y (x.trans e) r s
theorem postB.ext (x:Ext K m H m1 H1){v:Bool}(q:postB K m H Q v st):postB K m1 H1 Q v st:=fun m' H' e r=>q m' H' (x.trans e) r
noncomputable def Ic (K:W.Frag)(w:PV->PV->AH->EK->Prop):R2:=fun x' y' H Q=>∃m st x y,RH K m H st/\R K m H x x'/\R K m H y y'/\w x y st (post K m H Q)
noncomputable def K2 (K:W.Frag)(w:List PV->AH->EK->Prop):List V->Hp->VK->Prop:=fun xs' H Q=>∃m st xs,RH K m H st/\Rs K m H xs xs'/\w xs st (post K m H Q)
end FW
namespace FW
open L2 HX
theorem eT {n:Nat}(h:n<=100000):n<=sizeLine:=by rw[sizeLine_eq];omega
theorem pw {n:Nat}(h:n<100000):n<sizeLine:=by rw[sizeLine_eq];omega
section
variable {X:Cx}
theorem post.here (q:post K m H Q v st)(h:RH K m H st)(r:R K m H v x):Q x H:=q m H x (Ext.refl _ _ _) h r
theorem post.newT (q:post K m H Q (.tup xs) st)(h:RH K m H st)(r:Rs K m H xs ys)(e:H p=none):Q (.ref p) (upd H p (.tup ys)) :=
 q m _ _ (Ext.newT h e) (h.newT e) (R_tup.mpr ⟨p,ys,rfl,SqT.of bq,r.mono (Ext.newT h e)⟩)
theorem post.newL {st:AH}(q:post K m H Q (.ref st.length) (st++[.lst xs]))(h:RH K m H st)(r:Rs K m H xs ys)(e:H p=none):Q (.ref p) (upd H p (.lst ys)) :=
 q _ _ _ (Ext.new1 h e) (h.newL e r) (R.last h.len)
theorem post.setL {st:AH}{n:Nat}(q:post K m H Q v (st.set n (.lst xs)))(h:RH K m H st)(e:m[n]?=some a)(hz:∀w v,H a≠some (.frz w v))(r:Rs K m H xs ys)(rv:R K m H v y) :
  Q y (upd H a (.lst ys)):=q _ _ _ (Ext.set (ys:=ys) h e hz) (h.setL e hz r) (rv.mono (Ext.set (ys:=ys) h e hz))
theorem fM (h:RH K m H st)(r:R K m H v x)(e:bH st v=some xs):∃a ys,x=.ref a/\SqL K H a ys/\Rs K m H xs ys:=by
 cases v with
 | rdl zs =>cases e;rw[gC] at r;obtain⟨a,ys,rfl,h1,h2⟩:=r;exact⟨a,ys,rfl,h1.sq,h2⟩
 | ref n =>
  unfold bH at e;simp only at e;split at e
  ·cases e;rename_i q;obtain⟨a,ys,rfl,_,h1,h2⟩:=h.lst q r;exact⟨a,ys,rfl,SqL.of h1,h2⟩
  ·cases e
 | _=>cases e
theorem lb (h:RH K m H st)(r:R K m H v x)(e:bP st v=some xs):∃a ys,x=.ref a/\(SqL K H a ys\/SqT K H a ys)/\Rs K m H xs ys:=by
 cases v with
 | tup zs =>cases e;rw[R_tup] at r;obtain⟨a,ys,rfl,h1,h2⟩:=r;exact⟨a,ys,rfl,.inr h1,h2⟩
 | rdl zs =>obtain⟨a,ys,h1,h2,h3⟩:=fM h r e;exact⟨a,ys,h1,.inl h2,h3⟩
 | ref n =>obtain⟨a,ys,h1,h2,h3⟩:=fM h r e;exact⟨a,ys,h1,.inl h2,h3⟩
 | _=>cases e
theorem OL {E:Value->Shared->Prop}{s:Shared}{ws:List Value}{Q:Value->Shared->Prop}(ht:IsTup s.heap t ([]:List Value).toArray)(hb:IsTup s.heap b ws.toArray)(h:Q (.ref b) s) :
  wpAny (model P w) A (binaryOp .Add (.ref t) (.ref b)) Q E s:=by
 obtain⟨⟨cls,dd,data,sl⟩,ho,hc,n,hd⟩:=id ht;obtain⟨⟨cls2,dd2,data2,sl2⟩,ho2,hc2,n2,hd2⟩:=id hb;simp only at hc hd hc2 hd2;subst hc hd hc2 hd2;exact concat_meets ⟨_,ho,rfl⟩ ⟨_,ho2,rfl⟩ noFill_tuple_add seq_tuple_add SF R_ (R3 _ _)
  (tuple_addW0 t b ([]:List Value).toArray ws.toArray n n2 dd dd2 sl sl2 rfl) ⟨ho,ho2,h⟩
theorem k8 {z:Str}{n:Nat}:(kT z n).length=z.length*n:=by
 have:∀(n:Nat) (a:Array Nat),((List.replicate n z.cps).foldl (·++ ·) a).size=a.size+z.cps.size*n:=by
  intro n
  induction n with
  | zero=>intro a;simp
  | succ n ih=>intro a;rw[QH,R7,ih,Array.size_append,Nat.mul_succ];omega
 have:=this n #[];simpa[kT,Str.length] using this
theorem El:OpR X (binaryOp .Mult) (fun x y H Q=>∃z k,x=.str z/\y=.int k/\2<=k/\k<2 ^ 30/\0<z.length/\z.length*k.toNat<=100000/\Q (.str (kT z k.toNat)) H):=by
 intro pins s σ H x y v u Q I rx ry h;obtain⟨z,k,rfl,rfl,h1,h2,h3,h4,q⟩:=h;obtain⟨t,rfl⟩:=rx;obtain⟨t',rfl⟩:=ry;have hz:(z.length:Int)<=100000:=by
  have:1<=k.toNat:=by omega
  have:=Nat.le_mul_of_pos_right z.length this;omega
 have e1:(k == 1 || z.length == 0)=false:=by rw[Bool.or_eq_false_iff,S0,S0];omega
 refine PySem.P.mul_str (by rw[Bool.or_eq_false_iff,decide_eq_false_iff_not,decide_eq_false_iff_not];omega) (fun _ _=>?_) (fun _ _=>?_) ?_
 ·have:=Int.le_ediv_of_mul_le (a:=100000) (b:=2 ^ 63-1) (c:=k) (by omega) (by omega);omega
 ·unfold Builtin.Str.tooLong;exact PF (by rw[sizeLine_eq];omega)
 ·rw[OY (by omega),OY (by rw[e1];exact OS)];exact⟨by rw[show Str.length ⟨_⟩=(kT z k.toNat).length from rfl,k8,sizeLine_eq];omega,.str _,H,I.tok _,⟨_,rfl⟩,q⟩
theorem JC (op:Operator):OpR X (binaryOp op) (Ic X.K (ke op)):=by
 intro pins s σ H x' y' v u Q I rx ry h;obtain⟨m,st,x,y,rh,hx,hy,w⟩:=h;cases op with
 | Add =>
  cases x with
  | int i =>
   cases y with
   | int j =>have w:post X.K m H Q (.int (i+j)) st:=w;rw[R_int] at hx hy;subst hx hy;exact GR pins s σ H _ _ v u Q I rx ry ⟨_,_,rfl,rfl,w.here rh (R_int.mpr rfl)⟩
   | _=>exact False.elim w
  | ref n =>
   cases y with
   | ref k =>obtain⟨xs,ys,h1,h2,h3,w⟩:=w;obtain⟨a,xs',rfl,e1,g1,r1⟩:=rh.lst h1 hx;obtain⟨b,ys',rfl,e2,g2,r2⟩:=rh.lst h2 hy;exact Jz pins s σ H _ _ v u Q I rx ry ⟨a,b,xs',ys',rfl,rfl,g1,g2,by rw[<-r1.len,<-r2.len];exact eT h3,fun p hp=>w.newL rh (r1.app r2) hp⟩
   | _=>exact False.elim w
  | tup xs =>
   cases y with
   | tup ys =>
    obtain⟨h2,w⟩:=w;rw[R_tup] at hx hy;obtain⟨a,xs',rfl,g1,r1⟩:=hx;obtain⟨b,ys',rfl,g2,r2⟩:=hy;by_cases h1:xs'=[]
    ·subst h1;cases rx;cases ry;obtain⟨its1,rv1,p1,_⟩:=I.tuple g1;obtain⟨its2,rv2,p2,_⟩:=I.tuple g2;cases rv1;have e:=r1.len;rw[QX.mp e,SV] at w;exact OL p1 p2 ⟨.ref b,H,I,rfl,w.here rh (R_tup.mpr ⟨b,ys',rfl,g2,r2⟩)⟩
    refine Fy pins s σ H _ _ v u Q I rx ry ⟨a,b,xs',ys',rfl,rfl,g1,g2,fun z=>?_,by rw[<-r1.len,<-r2.len];exact eT h2,fun z=>?_,fun z p hp=>w.newT rh (r1.app r2) hp⟩
    ·exact h1 z
    ·subst z;have e:=r2.len;rw[QX.mp e,Q7] at w;exact w.here rh (R_tup.mpr ⟨a,xs',rfl,g1,r1⟩)
   | _=>exact False.elim w
  | str a =>
   cases y with
   | str b =>obtain⟨h2,w⟩:=w;rw[R_str] at hx hy;subst hx hy;exact yw pins s σ H _ _ v u Q I rx ry ⟨_,_,rfl,rfl,eT h2,w.here rh (R_str.mpr rfl)⟩
   | _=>exact False.elim w
  | _=>exact False.elim w
 | Mult =>
  cases x with
  | int i =>
   cases y with
   | int j =>have w:CMB i j/\post X.K m H Q (.int (i*j)) st:=w;rw[R_int] at hx hy;subst hx hy;exact F8 pins s σ H _ _ v u Q I rx ry ⟨_,_,rfl,rfl,w.1,w.2.here rh (R_int.mpr rfl)⟩
   | _=>exact False.elim w
  | ref n =>
   cases y with
   | int k =>obtain⟨xs,h1,h2,h3,h4,w⟩:=w;rw[R_int] at hy;subst hy;obtain⟨a,xs',rfl,e1,g1,r1⟩:=rh.lst h1 hx;exact Hl pins s σ H _ _ v u Q I rx ry ⟨a,_,xs',rfl,rfl,g1,h2,h3,by rw[<-r1.len];exact eT h4,fun p hp=>w.newL rh (r1.rep _) hp⟩
   | _=>exact False.elim w
  | str z =>
   cases y with
   | int k =>obtain⟨h1,h2,h3,h4,w⟩:=w;rw[R_int] at hy;subst hy;rw[R_str] at hx;subst hx;exact El pins s σ H _ _ v u Q I rx ry ⟨_,_,rfl,rfl,h1,h2,h3,h4,w.here rh (R_str.mpr rfl)⟩
   | _=>exact False.elim w
  | _=>exact False.elim w
 | Sub =>obtain⟨i,j,rfl,rfl,w⟩:=cq w;rw[R_int] at hx hy;subst hx hy;exact HY pins s σ H _ _ v u Q I rx ry ⟨_,_,rfl,rfl,w.here rh (R_int.mpr rfl)⟩
 | FloorDiv =>obtain⟨i,j,rfl,rfl,w⟩:=cq w;rw[R_int] at hx hy;subst hx hy;exact DS pins s σ H _ _ v u Q I rx ry ⟨_,_,rfl,rfl,w.1,w.2.here rh (R_int.mpr rfl)⟩
 | Mod =>obtain⟨i,j,rfl,rfl,w⟩:=cq w;rw[R_int] at hx hy;subst hx hy;exact Jg pins s σ H _ _ v u Q I rx ry ⟨_,_,rfl,rfl,w.1,w.2.here rh (R_int.mpr rfl)⟩
 | Pow =>obtain⟨i,j,rfl,rfl,w⟩:=cq w;rw[R_int] at hx hy;subst hx hy;exact HZ pins s σ H _ _ v u Q I rx ry ⟨_,_,rfl,rfl,w.1,w.2.here rh (R_int.mpr rfl)⟩
 | _=>exact False.elim w
mutual
theorem R.den:∀ {p:PV}{v:V}{d:PyData},R K m H p v->p.toD=some d->(∃xs,d=.list xs)\/Den K H d v
 | .non,v,d,h,e=>by rw[PV.toD] at e;cases e;rw[R_non] at h;exact .inr (den_non.mpr h)
 | .bl b,v,d,h,e=>by rw[PV.toD] at e;cases e;rw[R_bl] at h;exact .inr (den_bl.mpr h)
 | .int b,v,d,h,e=>by rw[PV.toD] at e;cases e;rw[R_int] at h;exact .inr (den_int.mpr h)
 | .str b,v,d,h,e=>by rw[PV.toD] at e;cases e;rw[R_str] at h;exact .inr (den_str.mpr h)
 | .ref n,v,d,h,e=>by rw[PV.toD] at e;cases e
 | .fn n,v,d,h,e=>by rw[PV.toD] at e;cases e
 | .tup xs,v,d,h,e=>by
  rw[PV.toD] at e;cases q:PV.toDs xs with
  | none=>rw[q] at e;cases e
  | some ds =>rw[q] at e;cases e;rw[R_tup] at h;obtain⟨a,ys,rfl,h1,h2⟩:=h;exact .inr (den_tup.mpr ⟨a,ys,rfl,h1,Rs.den h2 q⟩)
 | .rdl xs,v,d,h,e=>by
  rw[PV.toD] at e;cases q:PV.toDs xs with
  | none=>rw[q] at e;cases e
  | some ds=>rw[q] at e;cases e;exact .inl ⟨_,rfl⟩
theorem Rs.den:∀ {ps:List PV}{vs:List V}{ds:List PyData},Rs K m H ps vs->PV.toDs ps=some ds->Dens K H ds vs
 | [],vs,ds,h,e=>by rw[PV.toDs] at e;cases e;rw[Rs_nil] at h;exact dens_nil.mpr h
 | p::ps,vs,ds,h,e=>by
  rw[bh] at h;obtain⟨y,r,rfl,h1,h2⟩:=h;rw[PV.toDs] at e;cases q:p.toD with
  | none=>rw[q] at e;cases e
  | some d =>
   cases q2:PV.toDs ps with
   | none=>rw[q,q2] at e;cases e
   | some ds' =>
    rw[q,q2] at e;cases e;refine dens_cons'.mpr ⟨?_,Rs.den h2 q2⟩;cases p with
    | rdl xs =>
     rw[PV.toD] at q;cases q3:PV.toDs xs with
     | none=>rw[q3] at q;cases q
     | some es =>rw[q3] at q;cases q;rw[gC] at h1;obtain⟨a,ys,rfl,g1,g2⟩:=h1;exact den_lst.mpr ⟨a,ys,rfl,g1.sq,Rs.den g2 q3⟩
    | _ =>
     rcases R.den h1 q with⟨xs,rfl⟩|z
     ·first
       | (rw[PV.toD] at q;cases q;done)
       | (rw[PV.toD] at q;simp only[Option.map_eq_some_iff,reduceCtorEq,and_false,exists_false] at q)
     ·exact z
end
theorem lW (rh:RH K m H st)(h:R K m H p v)(e:lP st p=some d):Den K H d v:=by
 cases p with
 | ref n =>
  unfold lP at e;simp only at e;split at e
  ·rename_i xs q;cases q2:PV.toDs xs with
   | none=>rw[q2] at e;cases e
   | some ds =>rw[q2] at e;cases e;obtain⟨a,ys,rfl,_,h1,h2⟩:=rh.lst q h;exact den_lst.mpr ⟨a,ys,rfl,SqL.of h1,h2.den q2⟩
  ·cases e
 | rdl xs =>
  have e':(PV.rdl xs).toD=some d:=e;rw[PV.toD] at e';cases q2:PV.toDs xs with
  | none=>rw[q2] at e';cases e'
  | some ds =>rw[q2] at e';cases e';rw[gC] at h;obtain⟨a,ys,rfl,g1,g2⟩:=h;exact den_lst.mpr ⟨a,ys,rfl,g1.sq,g2.den q2⟩
 | tup xs =>
  have e':(PV.tup xs).toD=some d:=e;rcases R.den h e' with⟨zs,rfl⟩|z
  ·rw[PV.toD] at e';simp at e'
  ·exact z
 | fn b=>have e':(PV.fn b).toD=some d:=e;rw[PV.toD] at e';cases e'
 | non=>have e':(PV.non).toD=some d:=e;rw[PV.toD] at e';cases e';exact den_non.mpr (R_non.mp h)
 | bl b=>have e':(PV.bl b).toD=some d:=e;rw[PV.toD] at e';cases e';exact den_bl.mpr (R_bl.mp h)
 | int b=>have e':(PV.int b).toD=some d:=e;rw[PV.toD] at e';cases e';exact den_int.mpr (R_int.mp h)
 | str b=>have e':(PV.str b).toD=some d:=e;rw[PV.toD] at e';cases e';exact den_str.mpr (R_str.mp h)
theorem R.nonB (h:R K m H p v):decide (v=.non)=fg p:=by
 cases p with
 | non=>rw[R_non] at h;subst h;rfl
 | bl b=>rw[R_bl] at h;subst h;rfl
 | int b=>rw[R_int] at h;subst h;rfl
 | str b=>rw[R_str] at h;subst h;rfl
 | ref n=>rw[jv] at h;obtain⟨a,_,rfl⟩:=h;rfl
 | tup n=>rw[R_tup] at h;obtain⟨a,_,rfl,_⟩:=h;rfl
 | rdl n=>rw[gC] at h;obtain⟨a,_,rfl,_⟩:=h;rfl
 | fn n=>rw[Bc] at h;subst h;rfl
theorem R.blB {k:Bool}(h:R K m H p v):decide (v=.bl k)=oW k p:=by
 cases p with
 | non=>rw[R_non] at h;subst h;rfl
 | bl b=>rw[R_bl] at h;subst h;cases b <;> cases k <;> rfl
 | int b=>rw[R_int] at h;subst h;rfl
 | str b=>rw[R_str] at h;subst h;rfl
 | ref n=>rw[jv] at h;obtain⟨a,_,rfl⟩:=h;rfl
 | tup n=>rw[R_tup] at h;obtain⟨a,_,rfl,_⟩:=h;rfl
 | rdl n=>rw[gC] at h;obtain⟨a,_,rfl,_⟩:=h;rfl
 | fn n=>rw[Bc] at h;subst h;rfl
theorem J' {i j:Int}:decide (V.int i=V.int j)=decide (i=j):=by simp
theorem Lz {i j:Bool}:decide (V.bl i=V.bl j)=decide (i=j):=by simp
theorem Lv:decide (V.str i=V.str j)=decide (i=j):=by simp
theorem tP:∀ {ns:List Int}{ys:List V},Rs K m H (ns.map PV.int) ys->ys=ns.map V.int
 | [],ys,h=>by rw[RL,Rs_nil] at h;exact h
 | n::ns,ys,h=>by
  cases ys with
  | nil=>have:=h.len;simp at this
  | cons y ys =>rw[O8,Rs_cons',R_int] at h;rw[h.1,tP h.2];rfl
theorem nM:∀ {ns:List Int},(ns.map V.int).all jj=true
 | []=>rfl
 | n::ns=>by rw[O8,QM,nM];rfl
theorem tW {i:Int}:∀ {ns:List Int},inV (.int i) (ns.map V.int)=ns.any fun j=>j == i
 | []=>rfl
 | n::ns=>by
  have:=tW (i:=i) (ns:=ns);unfold inV at this |-
  rw[O8,QE,QE,this];rfl
theorem jX:∀ {ns:List Str}{ys:List V},Rs K m H (ns.map PV.str) ys->ys=ns.map V.str
 | [],ys,h=>by rw[RL,Rs_nil] at h;exact h
 | n::ns,ys,h=>by
  cases ys with
  | nil=>have:=h.len;simp at this
  | cons y ys =>rw[O8,Rs_cons',R_str] at h;rw[h.1,jX h.2];rfl
theorem ip:∀ {ns:List Str},(ns.map V.str).all jj=true
 | []=>rfl
 | n::ns=>by rw[O8,QM,ip];rfl
theorem vQ:∀ {xs:List PV}{ys:List V},Rs K m H xs ys->xs.all Dg=true->ys.all jj=true/\inV .non ys=xs.any fg
 | [],ys,r,_=>by rw[Rs_nil] at r;subst r;exact⟨rfl,rfl⟩
 | x::xs,ys,r,h=>by
  obtain⟨y,ys,rfl,r1,r2⟩:=r;rw[QM,OU] at h;obtain⟨a,b⟩:=vQ r2 h.2;unfold inV at b |-
  cases x with
  | non=>rw[R_non] at r1;subst r1;exact⟨by rw[QM,a];rfl,by rw[QE,QE,b];rfl⟩
  | int i=>rw[R_int] at r1;subst r1;exact⟨by rw[QM,a];rfl,by rw[QE,QE,b];rfl⟩
  | _=>exact absurd h.1 OS
theorem kX:∀ {ns:List Str},inV (.str i) (ns.map V.str)=ns.any fun j=>j == i
 | []=>rfl
 | n::ns=>by
  have:=kX (i:=i) (ns:=ns);unfold inV at this |-
  rw[O8,QE,QE,this];rfl
section
variable {K:W.Frag}{m:List Addr}{H:Hp}
end
theorem xY:OpR X (compareOp .Gt) (fun x y H Q=>∃i j,x=.str i/\y=.str j/\Q (.bl (decide (j.cps.toList<i.cps.toList))) H):=by intro pins s σ H x y v u Q I rx ry h;obtain⟨i,j,rfl,rfl,q⟩:=h;obtain⟨t,rfl⟩:=rx;obtain⟨t',rfl⟩:=ry;exact PySem.P.gt_str (aI I q rfl)
theorem Bn (hu:X.A.units+64<cLine)(op:CmpOp):OpR X (compareOp op) (Ic X.K (dC op)):=by
 intro pins s σ H x' y' v u Q I rx ry h;obtain⟨m,st,x,y,rh,hx,hy,w⟩:=h;unfold dC at w;cases op with
 | Eq =>
  simp only at w;unfold eqW at w;split at w
  ·rw[R_int] at hx hy;subst hx hy;exact BV pins s σ H _ _ v u Q I rx ry ⟨rfl,by rw[J'];exact w.here rh (R_bl.mpr rfl)⟩
  ·rw[R_bl] at hx hy;subst hx hy;exact BV pins s σ H _ _ v u Q I rx ry ⟨rfl,by rw[Lz];exact w.here rh (R_bl.mpr rfl)⟩
  ·rw[R_str] at hx hy;subst hx hy;exact BV pins s σ H _ _ v u Q I rx ry ⟨rfl,by rw[Lv];exact w.here rh (R_bl.mpr rfl)⟩
  ·obtain⟨d,e,h1,h2,h3,h4,w⟩:=w;exact IL hu pins s σ H _ _ v u Q I rx ry ⟨d,e,lW rh hx h1,lW rh hy h2,h3,h4,w.here rh (R_bl.mpr rfl)⟩
 | NotEq =>
  simp only at w;unfold eqW at w;split at w
  ·rw[R_int] at hx hy;subst hx hy;exact D3 pins s σ H _ _ v u Q I rx ry ⟨rfl,by rw[J'];exact w.here rh (R_bl.mpr rfl)⟩
  ·rw[R_bl] at hx hy;subst hx hy;exact D3 pins s σ H _ _ v u Q I rx ry ⟨rfl,by rw[Lz];exact w.here rh (R_bl.mpr rfl)⟩
  ·rw[R_str] at hx hy;subst hx hy;exact D3 pins s σ H _ _ v u Q I rx ry ⟨rfl,by rw[Lv];exact w.here rh (R_bl.mpr rfl)⟩
  ·obtain⟨d,e,h1,h2,h3,h4,w⟩:=w;exact Jj hu pins s σ H _ _ v u Q I rx ry ⟨d,e,lW rh hx h1,lW rh hy h2,h3,h4,w.here rh (R_bl.mpr rfl)⟩
 | Is =>
  simp only at w;split at w
  ·rw[R_non] at hy;subst hy;exact JL pins s σ H _ _ v u Q I rx ry ⟨rfl,by rw[hx.nonB];exact w.here rh (R_bl.mpr rfl)⟩
  ·rw[R_bl] at hy;subst hy;exact HG pins s σ H _ _ v u Q I rx ry ⟨_,rfl,by rw[hx.blB];exact w.here rh (R_bl.mpr rfl)⟩
  ·exact w.elim
 | IsNot =>
  simp only at w;split at w
  ·rw[R_non] at hy;subst hy;exact EA pins s σ H _ _ v u Q I rx ry ⟨rfl,by rw[hx.nonB];exact w.here rh (R_bl.mpr rfl)⟩
  ·rw[R_bl] at hy;subst hy;exact Ag pins s σ H _ _ v u Q I rx ry ⟨_,rfl,by rw[hx.blB];exact w.here rh (R_bl.mpr rfl)⟩
  ·exact w.elim
 | Lt =>
  simp only at w;split at w
  ·rw[R_str] at hx hy;subst hx hy;exact AY pins s σ H _ _ v u Q I rx ry ⟨_,_,rfl,rfl,w.here rh (R_bl.mpr rfl)⟩
  ·rw[R_int] at hx hy;subst hx hy;exact KG pins s σ H _ _ v u Q I rx ry ⟨_,_,rfl,rfl,w.here rh (R_bl.mpr rfl)⟩
  ·exact w.elim
 | LtE =>
  simp only at w;split at w
  ·rw[R_int] at hx hy;subst hx hy;exact Mn pins s σ H _ _ v u Q I rx ry ⟨_,_,rfl,rfl,w.here rh (R_bl.mpr rfl)⟩
  ·exact w.elim
 | Gt =>
  simp only at w;split at w
  ·rw[R_str] at hx hy;subst hx hy;exact xY pins s σ H _ _ v u Q I rx ry ⟨_,_,rfl,rfl,w.here rh (R_bl.mpr rfl)⟩
  ·rw[R_int] at hx hy;subst hx hy;exact LO pins s σ H _ _ v u Q I rx ry ⟨_,_,rfl,rfl,w.here rh (R_bl.mpr rfl)⟩
  ·exact w.elim
 | GtE =>
  simp only at w;split at w
  ·rw[R_int] at hx hy;subst hx hy;exact K' pins s σ H _ _ v u Q I rx ry ⟨_,_,rfl,rfl,w.here rh (R_bl.mpr rfl)⟩
  ·exact w.elim
 | In =>
  simp only at w;split at w
  ·rw[R_str] at hx hy;subst hx hy;exact Ah pins s σ H _ _ v u Q I rx ry ⟨_,_,rfl,rfl,w.here rh (R_bl.mpr rfl)⟩
  ·rw[R_non] at hx;subst hx;obtain⟨hf,w⟩:=w;obtain⟨a,ys,rfl,g,r⟩:=R_tup.mp hy;obtain⟨f1,f2⟩:=vQ r hf;refine jU pins s σ H _ _ v u Q I rx ry ⟨a,_,rfl,.inr g,rfl,f1,?_⟩;rw[OY OS,f2];exact w.here rh (R_bl.mpr rfl)
  ·rw[R_int] at hx;subst hx;obtain⟨ns,rfl,w⟩:=w;obtain⟨a,ys,rfl,g,r⟩:=R_tup.mp hy;obtain rfl:=tP r;refine jU pins s σ H _ _ v u Q I rx ry ⟨a,_,rfl,.inr g,rfl,nM,?_⟩;rw[OY OS,tW];exact w.here rh (R_bl.mpr rfl)
  ·rw[R_str] at hx;subst hx;obtain⟨ns,rfl,w⟩:=w;obtain⟨a,ys,rfl,g,r⟩:=R_tup.mp hy;obtain rfl:=jX r;refine jU pins s σ H _ _ v u Q I rx ry ⟨a,_,rfl,.inr g,rfl,ip,?_⟩;rw[OY OS,kX];exact w.here rh (R_bl.mpr rfl)
  ·rw[R_str] at hx;subst hx;rcases w with⟨ns,e,w⟩|w
   ·obtain⟨a,ys,rfl,_,g,r⟩:=rh.lst e hy;obtain rfl:=jX r;refine jU pins s σ H _ _ v u Q I rx ry ⟨a,_,rfl,.inl (SqL.of g),rfl,ip,?_⟩;rw[OY OS,kX];exact w.here rh (R_bl.mpr rfl)
   ·exact w.elim
  ·exact w.elim
 | NotIn =>
  simp only at w;split at w
  ·rw[R_str] at hx hy;subst hx hy;exact u4 pins s σ H _ _ v u Q I rx ry ⟨_,_,rfl,rfl,w.here rh (R_bl.mpr rfl)⟩
  ·rw[R_int] at hx;subst hx;obtain⟨ns,rfl,w⟩:=w;obtain⟨a,ys,rfl,g,r⟩:=R_tup.mp hy;obtain rfl:=tP r;refine iU pins s σ H _ _ v u Q I rx ry ⟨a,_,rfl,.inr g,rfl,nM,?_⟩;rw[O0 rfl,tW];exact w.here rh (R_bl.mpr rfl)
  ·rw[R_str] at hx;subst hx;obtain⟨ns,rfl,w⟩:=w;obtain⟨a,ys,rfl,g,r⟩:=R_tup.mp hy;obtain rfl:=jX r;refine iU pins s σ H _ _ v u Q I rx ry ⟨a,_,rfl,.inr g,rfl,ip,?_⟩;rw[O0 rfl,kX];exact w.here rh (R_bl.mpr rfl)
  ·rw[R_str] at hx;subst hx;rcases w with⟨ns,e,w⟩|w
   ·obtain⟨a,ys,rfl,_,g,r⟩:=rh.lst e hy;obtain rfl:=jX r;refine iU pins s σ H _ _ v u Q I rx ry ⟨a,_,rfl,.inl (SqL.of g),rfl,ip,?_⟩;rw[O0 rfl,kX];exact w.here rh (R_bl.mpr rfl)
   ·exact w.elim
  ·exact w.elim
theorem Gk (hu:X.A.units+64<cLine):IxR X (Ic X.K ixW):=by
 intro value slice pins s σ H x' y' v u Q I rx ry h hs;obtain⟨m,st,x,y,rh,hx,hy,w⟩:=h;cases y with
 | int i =>
  rw[R_int] at hy;subst hy;rcases yG w with⟨z,c,rfl,h1,h2,w⟩|⟨xs,z,h1,h2,w⟩
  ·rw[R_str] at hx;subst hx;exact Ie value slice pins s σ H _ _ v u Q I rx ry ⟨_,_,c,rfl,rfl,eT h1,h2,w.here rh (R_str.mpr rfl)⟩ hs
  obtain⟨a,ys,rfl,g,r⟩:=lb rh hx h1;obtain⟨y,e,ry'⟩:=r.atI h2;rcases g with g|g
  ·exact F7 value slice pins s σ H _ _ v u Q I rx ry ⟨a,ys,_,y,rfl,rfl,g,e,w.here rh ry'⟩ hs
  ·exact Hy value slice pins s σ H _ _ v u Q I rx ry ⟨a,ys,_,y,rfl,rfl,g,e,w.here rh ry'⟩ hs
 | str z=>exact False.elim w
 | _=>exact w.elim
theorem j8 {E:Value->Shared->Prop}{s:Shared}{Q:Value->Shared->Prop}(ht:IsTup s.heap t items)(hs:s.heap.IsSliceOf sl vl vu .none)(pl:IsPart vl lo)(pu:IsPart vu hi)(hw:HT.sIx items.size 0 lo=0/\HT.sIx items.size items.size hi=items.size)(h:Q (.ref t) s):wpAny (model prog w) A (getItem (.ref t) (.ref sl)) Q E s:=by
 obtain⟨os,hos,hcs,hds⟩:=id hs;have hTs:s.TypeIs (.ref sl) "slice":=⟨os,hos,hcs⟩;unfold getItem
 try with_reducible refine R1 ?_
 first|refine OP (O2 ?_)|skip
 refine OP (wpAny_sequenceKey ht.typeIs (by decide) ?_);refine OP (wpAny_callSpecial?_slot (name:=Str.ofString "__getitem__") ht.typeIs QS
  (wpAny_call_entry QS ht.typeIs entry_tuple_getitem ?_ (args_tuple_getitem _ _)))
 show wpAny _ _ (Builtin.Tuple.tupleItemsOf (.ref t) >>= _) _ _ s;refine OP (tupleItemsOf_ ht ?_);refine OP (wpAny_typeOf hTs ?_);rw[O0 (by decide)];refine OP (HT.sliceApplied_gen hs pl pu ?_);have hyes:((((HT.sIx items.size 0 lo:Nat):Int) == 0 && (1:Int) == 1 && (HT.sIx items.size items.size hi-HT.sIx items.size 0 lo) == items.size)=true):=by rw[hw.1,hw.2];simp
 show wpAny _ _ (if (((HT.sIx items.size 0 lo:Nat):Int) == 0 && (1:Int) == 1 && (HT.sIx items.size items.size hi-HT.sIx items.size 0 lo) == items.size)=true then _ else _) _ _ s;rw[O0 hyes];unfold Builtin.Tuple.tupleIsExact;refine OP (OP (wpAny_typeOf ht.typeIs (O2 ?_)));rw[O0 (by simp)];exact OP (wpAny_rule (O2 ⟨_,rfl,O2 h⟩))
noncomputable def L5 (K:W.Frag):V->Option Int->Option Int->Hp->VK->Prop:=fun x' lo hi H Q=>∃m st x,RH K m H st/\R K m H x x'/\slW x lo hi st (post K m H Q)
theorem yj {ys:List V}(h:HT.sIx ys.length 0 lo=0/\HT.sIx ys.length ys.length hi=ys.length):rX ys lo hi=ys:=by unfold rX;rw[h.1,h.2,SG,Nat.sub_zero,RG]
theorem y9 (h:IsPart v p):∃q:Option (Int × Tok),v=partValue q/\q.map (·.1)=p:=by
 cases h with
 | none=>exact⟨none,rfl,rfl⟩
 | int i t=>exact⟨some (i,t),rfl,rfl⟩
theorem En {z:Str}{l u:Option (Int × Tok)}{lo:Option Int}{Q:Value->Shared->Prop}(e:(l.map (·.1),u.map (·.1))=(lo,hi))(h1:z.length<=100000)(h:∀tk t',Q (.str (je z lo hi) t') { s with toks:=tk }):(sliceMade z t l u none).post Q s:=by
 cases e;unfold sliceMade;have h:∀tk t',Q (.str (if ((slicePicked z l u none).length == z.length)=true then z else ⟨((slicePicked z l u none).filterMap (z.cps[·]?)).toArray⟩) t') { s with toks:=tk }:=h;cases q:((slicePicked z l u none).length == z.length) with
 | true =>rw[q] at h;exact h s.toks t
 | false =>rw[q] at h;refine⟨?_,h _ _⟩;show ((slicePicked z l u none).filterMap (z.cps[·]?)).toArray.size<=sizeLine;rw[PH];refine O7 (RC _ _) (O7 ?_ (eT h1));refine sliceRange_length_le _ _ _ _ (fun _=>?_) fun z=>absurd (show (1:Int) > 0 by decide) z;cases l <;> cases u <;> constructor <;> simp only[Option.map,Option.getD,show (1:Int) > 0 by decide,if_true] <;> first|omega|(split <;> omega)
theorem Km:SlR X (L5 X.K):=by
 intro pins s σ H x' v vl vu lo hi sl Q I rx hs pl pu h;obtain⟨m,st,x,rh,hx,w⟩:=h;unfold slW at w;split at w
 ·rename_i z;rw[R_str] at hx;subst hx;obtain⟨t,rfl⟩:=rx;obtain⟨h1,w⟩:=w;obtain⟨l,el,pl'⟩:=y9 pl;obtain⟨u,eu,pu'⟩:=y9 pu;subst el eu;refine ⟨"str",_,PyProof.Rows.slot_str_getitem.lookup,typeIs_str _ _ _,?_⟩;refine wpAny_getItem_str_slice (l:=l) (u:=u) (st:=none) hs rfl (En ?_ h1 fun tk t'=>⟨.str (je z lo hi),H,I.tok tk,⟨t',rfl⟩,w.here rh (R_str.mpr rfl)⟩);rw[pl',pu']
 ·rw[R_tup] at hx;obtain⟨a,ys,rfl,g,r⟩:=hx;by_cases hw:HT.sIx ys.length 0 lo=0/\HT.sIx ys.length ys.length hi=ys.length
  ·cases rx;obtain⟨its,r',ht,hz⟩:=I.tuple g;have hlen:its.toArray.size=ys.length:=by rw[PH];exact r'.length.symm
   refine ⟨"tuple",_,PyProof.Rows.slot_tuple_getitem.lookup,ht.typeIs,j8 ht hs pl pu (by rw [hlen];exact hw) ?_⟩;refine⟨.ref a,H,I,rfl,w.here rh (R_tup.mpr ⟨a,ys,rfl,g,?_⟩)⟩;have:=r.cut lo hi;rw[yj hw] at this;exact this
  ·exact HQ pins s σ H _ v vl vu lo hi sl Q I rx hs pl pu ⟨a,ys,rfl,g,hw,fun p hp=>w.newT rh (r.cut lo hi) hp⟩
 ·obtain⟨xs,h1,w⟩:=w;obtain⟨a,ys,rfl,g,r⟩:=fM rh hx h1;exact FP pins s σ H _ v vl vu lo hi sl Q I rx hs pl pu ⟨a,ys,rfl,g,fun p hp=>w.newL rh (r.cut lo hi) hp⟩
theorem Rs.one' {x:PV}(h:Rs K m H [x] ys):∃y,ys=[y]/\R K m H x y:=by rw[bh] at h;obtain⟨y,r,rfl,h1,h2⟩:=h;rw[Rs_nil] at h2;subst h2;exact⟨y,rfl,h1⟩
theorem Rs.two' {x:PV}(h:Rs K m H [x,z] ys):∃y u,ys=[y,u]/\R K m H x y/\R K m H z u:=by rw[bh] at h;obtain⟨y,r,rfl,h1,h2⟩:=h;obtain⟨u,rfl,h3⟩:=h2.one';exact⟨y,u,rfl,h1,h3⟩
theorem sH:∀ {xs:List PV}{bs:List Bool}{ys:List V}{us:List Value},mz xs=some bs->Rs K m H xs ys->Vals ys us->LSm.BoolsAre us bs
 | [],bs,ys,us,e,h,r=>by rw[Rs_nil] at h;subst h;cases r;cases e;exact .nil
 | x::xs,bs,ys,us,e,h,r=>by
  rw[bh] at h;obtain⟨y,q,rfl,h1,h2⟩:=h;cases x with
  | bl b =>
   cases r with
   | cons r1 r2 =>
    rw[R_bl] at h1;subst h1;cases r1;unfold mz at e;cases z:mz xs with
    | none=>rw[z] at e;cases e
    | some bs' =>rw[z] at e;cases e;exact .cons b (sH z h2 r2)
  | _=>cases e
theorem AL {vs:List Value}{A:Around}{E:Value->Shared->Prop}{s:Shared}{Q:Value->Shared->Prop}(hh:A.handled=none)(hl:s.heap.IsList l vs.toArray)(hb:LSm.BoolsAre vs bs)(h:∀h' tk,(∀b x,s.heap.get? b=some x->h'.get? b=some x)->Q (.bool (bs.all id)) { s with heap:=h',toks:=tk }):wpAny (model P w) A (call (.builtin "all") [.ref l]) Q E s:=by
 have hlt:l<s.heap.objs.size:=by obtain⟨_,e,_⟩:=hl;exact O3 e
 refine call_all_walk (wpAny_pyIter_list hl ?_);refine⟨s.heap.objs.size,[s.heap.objs.size,l],[s.heap.objs.size],vs.toArray.size,_,_,fun i=>(bs[i]?).getD true,rfl,Walks.list (A:=A.in1) hh _ l (PN hlt) vs.toArray,
  ⟨⟨_,O5 _ rfl,rfl,rfl⟩,hl.push _⟩,fun i v s' Q' E' hP hQ=>?_,fun h' tk hk=>?_⟩
 ·obtain⟨b,e,rfl⟩:=hb.get i v (by simpa using hP);simp only[e,Option.getD_some] at hQ;exact wpAny_truthy_bool hQ
 ·have e:((List.range vs.toArray.size).all fun i=>(bs[i]?).getD true)=bs.all id:=by rw[PH,hb.length];exact LSm.range_all bs
  rw[e];exact h h' tk (LSm.kept_iter hk)
noncomputable def Mv:B->Value
 | .len=>.builtin "len"
 | .max2=>.builtin "max"
 | .min2=>.builtin "min"
 | .divmod=>.builtin "divmod"
 | .int1=>.type "int"
 | .str1=>.type "str"
 | .tuple1=>.type "tuple"
 | .list1=>.type "list"
 | .all1=>.builtin "all"
 | .any1=>.builtin "any"
 | .abs1=>.builtin "abs"
 | .sorted1=>.builtin "sorted"
 | .repr1=>.builtin "repr"
 | .sortS=>.builtin "sorted"
 | .max1=>.builtin "max"
 | .sortD=>.builtin "sorted"
theorem CN:∀ {ns:List Str},Rs K m H (ns.map PV.str) (ns.map V.str)
 | []=>by rw[RL,RL,Rs_nil]
 | n::ns=>by rw[O8,O8,Rs_cons',R_str];exact⟨rfl,CN⟩
section
variable {prog:Program}{w:World}{A:Around}{E:Value->Shared->Prop}{s:Shared}{l:Addr}{xs:Array (Int × Tok)}
end
theorem Bd {α:Type}{o:Option α}{r:List (Option α)}{ds:List α}(h:bQ (o::r)=some ds):∃d es,o=some d/\bQ r=some es/\ds=d::es:=by
 cases o with
 | none=>cases h
 | some x =>
  cases q:bQ r with
  | none=>rw[bQ,q] at h;cases h
  | some es=>rw[bQ,q] at h;cases h;exact⟨x,es,rfl,rfl,rfl⟩
theorem uB:dG X (.type "int") (fun xs H Q=>∃z n,xs=[.str z]/\z.length<=640/\PySem.intText? z=some n/\Q (.int n) H):=by intro pins s σ H xs us Q I r h;obtain⟨z,n,rfl,h1,h2,q⟩:=h;obtain⟨u,rfl,t,rfl⟩:=fe r;exact W.KIN.call_text h2 h1 ⟨.int n,H,I.tok _,⟨_,rfl⟩,q⟩
theorem CL (hc:X.calm=true)(hgd:X.A.guards=some [])(hun:X.A.units+64<cLine)(b:B):dG X (Mv b) (K2 X.K (fJ b)):=by
 intro pins s σ H xs' us Q I r h;obtain⟨m,st,xs,rh,hx,w⟩:=h;cases b with
 | len =>
  obtain⟨x0,rfl,w⟩:=br w;obtain⟨y,rfl,hy⟩:=hx.one';rcases vN w with⟨z,rfl,h1,w⟩|⟨ys,h1,w⟩
  ·rw[R_str] at hy;subst hy;exact uE pins s σ H _ us Q I r ⟨_,rfl,eT h1,w.here rh (R_int.mpr rfl)⟩
  obtain⟨a,zs,rfl,g,rz⟩:=lb rh hy h1;refine tL pins s σ H _ us Q I r ⟨a,zs,rfl,g,?_⟩;have:=w.here rh (x:=V.int ys.length) (R_int.mpr rfl);rw[rz.len] at this;exact this
 | max2 =>obtain⟨x0,y0,rfl,w⟩:=eL w;obtain⟨i,j,rfl,rfl,w⟩:=cq w;obtain⟨y,u,rfl,hy,hu⟩:=hx.two';rw[R_int] at hy hu;subst hy hu;exact AS hc pins s σ H _ us Q I r ⟨_,_,rfl,w.here rh (R_int.mpr rfl)⟩
 | min2 =>obtain⟨x0,y0,rfl,w⟩:=eL w;obtain⟨i,j,rfl,rfl,w⟩:=cq w;obtain⟨y,u,rfl,hy,hu⟩:=hx.two';rw[R_int] at hy hu;subst hy hu;exact Aj hc pins s σ H _ us Q I r ⟨_,_,rfl,w.here rh (R_int.mpr rfl)⟩
 | divmod =>obtain⟨x0,y0,rfl,w⟩:=eL w;obtain⟨i,j,rfl,rfl,w⟩:=cq w;obtain⟨y,u,rfl,hy,hu⟩:=hx.two';rw[R_int] at hy hu;subst hy hu;refine tO pins s σ H _ us Q I r ⟨_,_,rfl,w.1,fun p hp=>w.2.newT rh ?_ hp⟩;rw[Rs_cons',Rs_cons',Rs_nil,R_int,R_int];exact⟨rfl,rfl,rfl⟩
 | int1 =>
  obtain⟨x0,rfl,w⟩:=br w;obtain⟨y,rfl,hy⟩:=hx.one';rcases sC w with⟨b0,rfl,w⟩|⟨z,n,rfl,h1,h2,w⟩
  case inr =>rw[R_str] at hy;subst hy;exact uB pins s σ H _ us Q I r ⟨_,_,rfl,h1,h2,w.here rh (R_int.mpr rfl)⟩
  rw[R_bl] at hy;subst hy;exact Ak pins s σ H _ us Q I r (.inr ⟨_,rfl,w.here rh (R_int.mpr rfl)⟩)
 | str1 =>obtain⟨x0,rfl,w⟩:=br w;obtain⟨i,rfl,w⟩:=gD w;obtain⟨y,rfl,hy⟩:=hx.one';rw[R_int] at hy;subst hy;exact tY pins s σ H _ us Q I r ⟨_,rfl,w.1,w.2.here rh (R_str.mpr rfl)⟩
 | tuple1 =>
  obtain⟨x0,rfl,w⟩:=br w;obtain⟨ys,h1,w⟩:=w;obtain⟨y,rfl,hy⟩:=hx.one';obtain⟨a,zs,rfl,g,rz⟩:=lb rh hy h1;refine rO pins s σ H _ us Q I r ⟨a,zs,rfl,?_⟩;rcases g with g|g
  ·exact .inl ⟨g,fun p hp=>w.newT rh rz hp⟩
  ·exact .inr ⟨g,w.here rh (R_tup.mpr ⟨a,zs,rfl,g,rz⟩)⟩
 | list1=>exact False.elim w
 | all1 =>obtain⟨x0,rfl,w⟩:=br w;obtain⟨ys,bs,h1,h2,w⟩:=w;obtain⟨y,rfl,hy⟩:=hx.one';obtain⟨a,zs,rfl,g,rz⟩:=fM rh hy h1;obtain⟨u,rfl,ru⟩:=fe r;cases ru;obtain⟨its,ri,pl,_⟩:=I.list g;exact AL (I.ok.hd hc) pl.isList (sH h2 rz ri) fun h' tk k=>⟨.bl _,H,I.kept k,rfl,w.here rh (R_bl.mpr rfl)⟩
 | any1=>exact False.elim w
 | abs1 =>
  obtain⟨x0,rfl,w⟩:=br w;obtain⟨i,rfl,w⟩:=gD w;obtain⟨y,rfl,hy⟩:=hx.one';rw[R_int] at hy;subst hy;refine DD pins s σ H _ us Q I r ⟨_,rfl,?_⟩;have:=w.here rh (R_int.mpr rfl);have e:(if i<0 then -i else i)=(i.natAbs:Int):=by split <;> omega
  rw[e];exact this
 | sorted1=>exact False.elim w
 | sortS=>exact False.elim w
 | sortD=>exact False.elim w
 | max1=>exact False.elim w
 | repr1=>exact False.elim w
theorem AB {n:String}(h:bT st x=some n):n∈["NoneType","bool","int","str","list","tuple","dict"]:=by
 cases x with
 | ref k =>unfold bT at h;simp only at h;split at h <;> cases h <;> decide
 | _=>cases h <;> decide
theorem F6 {pins:List (Addr × Obj)}{s:Shared}{σ:L2.St}{H:Hp}{A:Around}{E:Value->Shared->Prop}{K:W.Frag}{m:List Addr}{st:AH}{x:PV}{x':V}{u:Value}{n c:String}{Q:Value->Shared->Prop}(I:Inv X pins σ H s)(rh:RH X.K m H st)(hx:R X.K m H x x')
  (ru:RelV x' u) (hk:bT st x=some n) (hc:c∈["int","bool","str","tuple","list","dict"]) (h:∀tk,Q (.bool (bI c n)) { s with toks:=tk }) :
  wpAny (model X.prog X.w) A (call (.builtin "isinstance") [u,.type c]) Q E s:=by
 have e:=DA X.K c hc n (AB hk);cases x with
 | non=>cases hk;rw[R_non] at hx;subst hx;exact fO I ru .non e h
 | bl b=>cases hk;rw[R_bl] at hx;subst hx;exact fO I ru (.bl b) e h
 | fn b=>cases hk
 | int b=>cases hk;rw[R_int] at hx;subst hx;exact fO I ru (.int b) e h
 | str b=>cases hk;rw[R_str] at hx;subst hx;exact fO I ru (.str b) e h
 | tup xs =>cases hk;rw[R_tup] at hx;obtain⟨a,ys,rfl,g,r⟩:=hx;cases ru;obtain⟨its,_,⟨o,ho,hcl,_⟩,_⟩:=I.tuple g;exact Q0 W.kitx_tuple I.kIn ⟨o,ho,hcl⟩ e (fun z=>nomatch z) h
 | rdl xs =>cases hk;rw[gC] at hx;obtain⟨a,ys,rfl,g,r⟩:=hx;cases ru;obtain⟨its,_,pl,_⟩:=I.list g.sq;obtain⟨o,ho,hcl,_⟩:=pl.isList;exact Q0 T4 I.kIn ⟨o,ho,hcl⟩ e (fun z=>nomatch z) h
 | ref k =>
  unfold bT at hk;simp only at hk;split at hk
  ·cases hk;rename_i q;obtain⟨a,ys,rfl,_,h1,h2⟩:=rh.lst q hx;exact fO I ru (.lst h1) e h
  ·cases hk;rename_i kvs q;rw[jv] at hx;obtain⟨a,e1,rfl⟩:=hx;obtain⟨ys,h1,_⟩:=rh.at_ k _ a q e1;exact fO I ru (.dK h1) e h
  ·cases hk;rename_i kvs q;rw[jv] at hx;obtain⟨a,e1,rfl⟩:=hx;obtain⟨o,ys,h1,_⟩:=rh.at_ k _ a q e1;cases ru;obtain⟨ho,_,_,vs,_,o',_,_,ho',hcl,_⟩:=I.hok a _ h1;exact Q0 T5 I.kIn ⟨o',ho',hcl.1⟩ e (fun z=>nomatch z) h
  ·cases hk
noncomputable def yP:M->String
 | .append=>"list.append"
 | .pop0=>"list.pop"
 | .extend=>"list.extend"
 | .insert=>"list.insert"
 | .count=>"list.count"
 | .index=>"list.index"
 | .popI=>"list.pop"
noncomputable def Ec:V->List V->Hp->VK->Prop:=fun x vs H Q=>∃(l:Addr) (xs:List V) (i:Int) (y:V),x=.ref l/\vs=[.int i,y]/\H l=some (.lst xs)/\0<=i/\i<=xs.length/\xs.length<100000/\Q .non (upd H l (.lst (xs.take i.toNat++y::xs.drop i.toNat)))
theorem AN:MtR X "list.insert" Ec:=by
 intro pins s σ H x vs v us Q I rx rv h;obtain⟨l,xs,i,y,rfl,rfl,hH,hk0,hk,hz,q⟩:=h;cases rx;cases rv with
 | cons r1 rr =>
 obtain⟨u,rfl,ru⟩:=fe rr;obtain⟨t,rfl⟩:=r1;obtain⟨z,its,n,r,hl,e⟩:=I.lstM hH;have hlen:=r.length;have hzz:=pw hz;have fit:¬(!Builtin.List.listFitsIndex i)=true:=by simp[Builtin.List.listFitsIndex];omega
 have M:=PySem.AutoSeq1.list_insert_list_int_val_1 l its.toArray n i t u fit (by rw[PH];omega);refine call_meets PySem.F.slot_list_insert ⟨_,e,rfl⟩ PySem.F.entry_list_insert (PySem.F.args_list_insert_3 _ _ _) M ⟨e,?_⟩;refine⟨.non,_,I.lset (its':=its.take i.toNat++u::its.drop i.toNat) hH e ?_ ?_ ?_,rfl,q⟩
 ·have e0:¬(i<0):=by omega
  have e1:min i.toNat its.length=i.toNat:=by omega
  simp only[List.size_toArray,e0,if_false,e1];apply Array.ext';simp;exact RM (by simp)
 ·exact(r.take _).append (.cons ru (r.drop _))
 ·simp;omega
noncomputable def Mj (K:W.Frag)(w:PV->List PV->AH->EK->Prop):V->List V->Hp->VK->Prop:=fun x' xs' H Q=>∃m st x xs,RH K m H st/\R K m H x x'/\Rs K m H xs xs'/\w x xs st (post K m H Q)
theorem HD (c:M):MtR X (yP c) (Mj X.K (uR c)):=by
 intro pins s σ H x' vs' v us Q I rx rv h;obtain⟨m,st,x,vs,rh,hx,hv,w⟩:=h;cases c with
 | append =>obtain⟨n0,rfl,w⟩:=jS w;obtain⟨x0,rfl,w⟩:=br w;obtain⟨xs,h1,h2,w⟩:=w;obtain⟨a,ys,rfl,e,g,r⟩:=rh.lst h1 hx;obtain⟨y,rfl,hy⟩:=hv.one';exact nu pins s σ H _ _ v us Q I rx rv ⟨a,ys,y,rfl,rfl,g,by rw[<-r.len];exact pw h2,w.setL rh e (nfL g) (r.app (.one hy)) (R_non.mpr rfl)⟩
 | pop0=>exact False.elim w
 | popI =>obtain⟨n0,rfl,w⟩:=jS w;obtain⟨x0,rfl,w⟩:=br w;obtain⟨i,rfl,xs,z,h1,h2,h3,h4,w⟩:=gD w;obtain⟨a,ys,rfl,e,g,r⟩:=rh.lst h1 hx;obtain⟨y,rfl,hy⟩:=hv.one';rw[R_int] at hy;subst hy;obtain⟨y,e2,ry⟩:=r.get h4;have hl:i.toNat<ys.length:=(OT.mp e2).1;exact DH pins s σ H _ _ v us Q I rx rv ⟨a,ys,i,i.toNat,y,rfl,rfl,g,by omega,by omega,by unfold seqIndex?;simp;omega,e2,w.setL rh e (nfL g) (r.erase _) ry⟩
 | index=>exact False.elim w
 | count=>exact False.elim w
 | extend=>exact False.elim w
 | insert =>
  obtain⟨n0,rfl,w⟩:=jS w;obtain⟨i0,z,rfl,w⟩:=eL w;obtain⟨i,rfl,w⟩:=gD w;obtain⟨xs,h1,h2,i0,i1,w⟩:=w;obtain⟨a,ys,rfl,e,g,r⟩:=rh.lst h1 hx;obtain⟨y1,y2,rfl,hy1,hy2⟩:∃y1 y2,vs'=[y1,y2]/\R X.K m H (.int i) y1/\R X.K m H z y2:=by rw[bh] at hv;obtain⟨y1,t,rfl,q1,hv⟩:=hv;obtain⟨y2,rfl,h2⟩:=hv.one';exact⟨y1,y2,rfl,q1,h2⟩
  rw[R_int] at hy1;subst hy1;exact AN pins s σ H _ _ v us Q I rx rv ⟨a,ys,i,y2,rfl,rfl,g,i0,by rw[<-r.len];omega,by rw[<-r.len];omega,w.setL rh e (nfL g) ((r.take _).app (Rs_cons'.mpr ⟨hy2,r.drop _⟩)) (R_non.mpr rfl)⟩
noncomputable def Nn (K:W.Frag):V->V->V->Hp->(Hp->Prop)->Prop:=fun o' i' v' H Q=>∃m st o i v,RH K m H st/\R K m H o o'/\R K m H i i'/\R K m H v v'/\wF o i v st fun st'=>∀H',Ext K m H m H'->RH K m H' st'->Q H'
theorem GK (hu:X.A.units+64<cLine):I0 X (Nn X.K):=by
 intro pins s σ H o' i' v' ov iv u Q I ro ri rv h;obtain⟨m,st,o,i,v,rh,ho,hi,hv,w⟩:=h;unfold wF at w;split at w
 ·obtain⟨xs,h1,q,h2,w⟩:=w;obtain⟨a,ys,rfl,e,g,r⟩:=rh.lst h1 ho;rw[R_int] at hi;subst hi;exact By pins s σ H _ _ _ ov iv u Q I ro ri rv ⟨a,ys,_,q,rfl,rfl,g,by rw[<-r.len];exact h2,w _ (Ext.set (ys:=ys) rh e (nfL g)) (rh.setL e (nfL g) (r.set hv q))⟩
 ·exact w.elim
noncomputable def NH (K:W.Frag):V->Hp->(Bool->Hp->Prop)->Prop:=fun x' H Q=>∃m st x,RH K m H st/\R K m H x x'/\gU x st (postB K m H Q)
theorem vt:∀ {x':V}{H:Hp}{Q:Bool->Hp->Prop},NH X.K x' H Q->∃k,Jd X.K x' H k/\Q k H:=by
 intro x' H Q h;obtain⟨m,st,x,rh,hx,w⟩:=h;unfold gU at w;split at w
 ·rw[R_bl] at hx;subst hx;exact⟨_,rfl,w m H (Ext.refl _ _ _) rh⟩
 ·rw[R_non] at hx;subst hx;exact⟨_,rfl,w m H (Ext.refl _ _ _) rh⟩
 ·rw[R_int] at hx;subst hx;exact⟨_,rfl,w m H (Ext.refl _ _ _) rh⟩
 ·exact w.elim
 ·obtain⟨xs,h1,w⟩:=w;obtain⟨a,ys,rfl,g,r⟩:=lb rh hx h1;have e:(!xs.isEmpty)=!ys.isEmpty:=by have:=r.len;cases xs <;> cases ys <;> first|rfl|(simp at this)
  refine⟨_,?_,w m H (Ext.refl _ _ _) rh⟩;rw[e];rcases g with g|g
  ·exact .inl ⟨ys,g,rfl⟩
  ·exact .inr (.inl ⟨ys,g,rfl⟩)
end
end FW
namespace FW
open L2 HX
mutual
noncomputable def PV.same:PV->PV->Bool
 | .non,y=>match y with | .non=>true|_=>false
 | .bl a,y=>match y with | .bl b=>a == b|_=>false
 | .int a,y=>match y with | .int b=>a == b|_=>false
 | .str a,y=>match y with | .str b=>a == b|_=>false
 | .tup xs,y=>match y with | .tup ys=>PV.sames xs ys|_=>false
 | .ref a,y=>match y with | .ref b=>a == b|_=>false
 | .rdl xs,y=>match y with | .rdl ys=>PV.sames xs ys|_=>false
 | .fn a,y=>match y with | .fn b=>a == b|_=>false
noncomputable def PV.sames:List PV->List PV->Bool
 | [],y=>y.isEmpty
 | x::xs,y=>match y with|y::ys=>x.same y && PV.sames xs ys | []=>false
end
mutual
theorem PV.same_eq:∀ {x y:PV},x.same y=true->x=y
 | .non,y,h=>by cases y with|non=>rfl|_=>exact Bool.noConfusion (show false=true from h)
 | .bl a,y,h=>by cases y with|bl b=>rw[eq_of_beq (show (a == b)=true from h)] | _=>exact Bool.noConfusion (show false=true from h)
 | .int a,y,h=>by cases y with|int b=>rw[eq_of_beq (show (a == b)=true from h)] | _=>exact Bool.noConfusion (show false=true from h)
 | .str a,y,h=>by cases y with|str b=>rw[eq_of_beq (show (a == b)=true from h)] | _=>exact Bool.noConfusion (show false=true from h)
 | .ref a,y,h=>by cases y with|ref b=>rw[eq_of_beq (show (a == b)=true from h)] | _=>exact Bool.noConfusion (show false=true from h)
 | .tup xs,y,h=>by cases y with|tup ys=>rw[PV.sames_eq (show PV.sames xs ys=true from h)] | _=>exact Bool.noConfusion (show false=true from h)
 | .rdl xs,y,h=>by cases y with|rdl ys=>rw[PV.sames_eq (show PV.sames xs ys=true from h)] | _=>exact Bool.noConfusion (show false=true from h)
 | .fn a,y,h=>by cases y with|fn b=>rw[eq_of_beq (show (a == b)=true from h)] | _=>exact Bool.noConfusion (show false=true from h)
theorem PV.sames_eq:∀ {x y:List PV},PV.sames x y=true->x=y
 | [],y,h=>by cases y with|nil=>rfl|cons a b=>exact Bool.noConfusion (show false=true from h)
 | x::xs,y,h=>by
  cases y with
  | nil=>exact Bool.noConfusion (show false=true from h)
  | cons y ys =>have h:=(OU _ _).mp (show (x.same y && PV.sames xs ys)=true from h);rw[PV.same_eq h.1,PV.sames_eq h.2]
end
structure Cfg where
 N:List Str
 names:List (Str × NameKind)
 fns:List Str
 lim:Nat
 blts:List Str
 gl:List (Str × PV)
 pc:Bool:=false
 hm:Option Nat:=none
noncomputable def Cfg.vis (c:Cfg)(x:Str):Bool:=(c.names.lookup x == some .local || c.names.lookup x == some .cell || c.names.lookup x == some .free) && !(x == ("__debug__":Str)) && !(x == ("__classdict__":Str))
noncomputable def Cfg.loc (c:Cfg)(x:Str):Bool:=c.names.lookup x == some .local || c.names.lookup x == some .cell
noncomputable def Cfg.glb (c:Cfg)(x:Str):Bool:=c.names.lookup x == some .globalImplicit && !(x == ("__debug__":Str)) && !(x == ("__name__":Str))
noncomputable def Cfg.blt (c:Cfg)(x:Str):Bool:=c.glb x && c.blts.contains x
noncomputable def Cfg.fn (c:Cfg)(f:Nat)(x:Str):Bool:=c.fns[f]? == some x && decide (f<c.lim) && c.glb x
noncomputable def pJ:B->Str
 | .len=>"len"
 | .max2=>"max"
 | .min2=>"min"
 | .divmod=>"divmod"
 | .int1=>"int"
 | .str1=>"str"
 | .tuple1=>"tuple"
 | .list1=>"list"
 | .all1=>"all"
 | .any1=>"any"
 | .abs1=>"abs"
 | .sorted1=>"sorted"
 | .repr1=>"repr"
 | .sortS=>"sorted"
 | .max1=>"max"
 | .sortD=>"sorted"
noncomputable def tS:M->Str
 | .append=>"append"
 | .pop0=>"pop"
 | .extend=>"extend"
 | .insert=>"insert"
 | .count=>"count"
 | .index=>"index"
 | .popI=>"pop"
noncomputable def kinds:List String:=["int","bool","str","tuple","list","dict"]
noncomputable def nW:Expr->Bool
 | .ListComp ..=>false
 | .SetComp ..=>false
 | .DictComp ..=>false
 | _=>true
noncomputable def xr:Expr->Bool
 | .Name ..=>true
 | .Call ..=>true
 | .Subscript ..=>true
 | _=>false
mutual
noncomputable def Tg.low (n:Nat):Tg->Bool
 | .name i=>decide (i<n)
 | .tup ts=>Tgs.low n ts
 | .ltup ts=>Tgs.low n ts
 | .sub _ _=>false
noncomputable def Tgs.low (n:Nat):Tgs->Bool
 | .nil=>true
 | .cons t ts=>Tg.low n t && Tgs.low n ts
end
noncomputable def gh:Expr->Bool
 | .Set ..=>false
 | _=>true
noncomputable def Cfg.inner (c:Cfg)(nt:List Str)(caps:List Nat)(sc:Scope):Cfg:={ c with N:=nt++caps.filterMap (c.N[·]?),names:=sc.names,pc:=false,hm:=none }
noncomputable def AO (k:Option NameKind):Bool:=k == some .cell || k == some .free
noncomputable def Cfg.block (c:Cfg)(nt:List Str)(caps:List Nat)(sc:Scope):Bool :=
 sc.kind == .function && sc.names.all (fun y=>!(y.2 == .cell)) && sc.names.all (fun y=>!(y.2 == .local) || sc.names.lookup y.1 == some .local) && sc.names.all (fun y=>!(y.2 == .free) || AO (c.names.lookup y.1))
  && caps.all (fun i=>decide (i<c.N.length)) && (caps.filterMap (c.N[·]?)).all (fun x=>sc.names.lookup x == some .free && AO (c.names.lookup x)) && decide (nt++caps.filterMap (c.N[·]?)).Nodup
noncomputable def vd:It->Expr->Bool
 | .zip _ _,.Tuple ..=>true
 | .zip _ _,_=>false
 | .zip3 _ _ _,.Tuple ..=>true
 | .zip3 _ _ _,_=>false
 | .enum _,.Tuple ..=>true
 | .enum _,_=>false
 | .seq _,_ | .range1 _,_ | .range2 _ _,_ | .chars _,_ | .range3 _ _ _,_=>true
noncomputable def fc:Expr->Bool
 | .Name ..=>true
 | .List ..=>true
 | .Subscript ..=>true
 | .ListComp ..=>true
 | _=>false
noncomputable def xf:Expr->Bool
 | .Constant (.str _) ..=>true
 | _=>false
noncomputable def DB:SM->Str
 | .join=>"join"
 | .split=>"split"
noncomputable def av (x:Expr)(f:Str->Pos->Bool):Bool:=match x with | .Name y p=>f y p|_=>false
theorem ah (h:av x f=true):∃y p,x=.Name y p/\f y p=true:=by cases x with|Name y p=>exact⟨y,p,rfl,h⟩|_=>exact Bool.noConfusion h
noncomputable def zf (x:Expr)(f:Int->Bool):Bool:=match x with | .Constant (.int j) _ _=>f j|_=>false
theorem A8 (h:zf x f=true):∃j k p,x=.Constant (.int j) k p/\f j=true:=by
 cases x with
 | Constant v k p=>cases v with|int j=>exact⟨j,k,p,rfl,h⟩|_=>exact Bool.noConfusion h
 | _=>exact Bool.noConfusion h
noncomputable def Ja (x:Expr)(f:Bool->Bool):Bool:=match x with | .Constant (.bool j) _ _=>f j|_=>false
theorem wH (h:Ja x f=true):∃j k p,x=.Constant (.bool j) k p/\f j=true:=by
 cases x with
 | Constant v k p=>cases v with|bool j=>exact⟨j,k,p,rfl,h⟩|_=>exact Bool.noConfusion h
 | _=>exact Bool.noConfusion h
noncomputable def oz (x:Expr)(f:Str->Bool):Bool:=match x with | .Constant (.str j) _ _=>f j|_=>false
theorem iy (h:oz x f=true):∃j k p,x=.Constant (.str j) k p/\f j=true:=by
 cases x with
 | Constant v k p=>cases v with|str j=>exact⟨j,k,p,rfl,h⟩|_=>exact Bool.noConfusion h
 | _=>exact Bool.noConfusion h
noncomputable def Gz (x:Expr):Bool:=match x with | .Constant .none _ _=>true|_=>false
theorem Ar (h:Gz x=true):∃k p,x=.Constant .none k p:=by
 cases x with
 | Constant v k p=>cases v with|none=>exact⟨k,p,rfl⟩|_=>exact Bool.noConfusion h
 | _=>exact Bool.noConfusion h
noncomputable def dN (x:Expr)(f:List Expr->Bool):Bool:=match x with | .Tuple xs _ _=>f xs|_=>false
theorem a9 (h:dN x f=true):∃xs k p,x=.Tuple xs k p/\f xs=true:=by cases x with|Tuple xs k p=>exact⟨xs,k,p,rfl,h⟩|_=>exact Bool.noConfusion h
noncomputable def Bf (x:Expr)(f:List Expr->Bool):Bool:=match x with | .List xs _=>f xs|_=>false
theorem yu (h:Bf x f=true):∃xs p,x=.List xs p/\f xs=true:=by cases x with|List xs p=>exact⟨xs,p,rfl,h⟩|_=>exact Bool.noConfusion h
noncomputable def on1 {α:Type}(xs:List α)(f:α->Bool):Bool:=match xs with | [a]=>f a|_=>false
theorem b8 {α:Type}{xs:List α}{f:α->Bool}(h:on1 xs f=true):∃a,xs=[a]/\f a=true:=by
 cases xs with
 | nil=>exact Bool.noConfusion h
 | cons a t=>cases t with|nil=>exact⟨a,rfl,h⟩|cons _ _=>exact Bool.noConfusion h
noncomputable def on2 {α:Type}(xs:List α)(f:α->α->Bool):Bool:=match xs with | [a,b]=>f a b|_=>false
theorem fw {α:Type}{xs:List α}{f:α->α->Bool}(h:on2 xs f=true):∃a b,xs=[a,b]/\f a b=true:=by
 cases xs with
 | nil=>exact Bool.noConfusion h
 | cons a t=>cases t with
  | nil=>exact Bool.noConfusion h
  | cons b t=>cases t with|nil=>exact⟨a,b,rfl,h⟩|cons _ _=>exact Bool.noConfusion h
noncomputable def on3 {α:Type}(xs:List α)(f:α->α->α->Bool):Bool:=match xs with | [a,b,c]=>f a b c|_=>false
theorem FN {α:Type}{xs:List α}{f:α->α->α->Bool}(h:on3 xs f=true):∃a b c,xs=[a,b,c]/\f a b c=true:=by
 cases xs with
 | nil=>exact Bool.noConfusion h
 | cons a t=>cases t with
  | nil=>exact Bool.noConfusion h
  | cons b t=>cases t with
   | nil=>exact Bool.noConfusion h
   | cons c t=>cases t with|nil=>exact⟨a,b,c,rfl,h⟩|cons _ _=>exact Bool.noConfusion h
noncomputable def cR {α:Type}(xs:List α)(f:α->List α->Bool):Bool:=match xs with|a::t=>f a t | []=>false
theorem ar {α:Type}{xs:List α}{f:α->List α->Bool}(h:cR xs f=true):∃a t,xs=a::t/\f a t=true:=by
 cases xs with
 | nil=>exact Bool.noConfusion h
 | cons a t=>exact⟨a,t,rfl,h⟩
noncomputable def iP {α:Type}(x:Option α)(f:α->Bool):Bool:=match x with|some a=>f a|none=>false
theorem fT {α:Type}{x:Option α}{f:α->Bool}(h:iP x f=true):∃a,x=some a/\f a=true:=by
 cases x with
 | none=>exact Bool.noConfusion h
 | some a=>exact⟨a,rfl,h⟩
noncomputable def uD (x:Expr)(f:List (Option Expr)->List Expr->Bool):Bool:=match x with | .Dict ks vs _=>f ks vs|_=>false
theorem xU (h:uD x f=true):∃ks vs p,x=.Dict ks vs p/\f ks vs=true:=by cases x with|Dict ks vs p=>exact⟨ks,vs,p,rfl,h⟩|_=>exact Bool.noConfusion h
noncomputable def GF (x:Expr)(f:Expr->Operator->Expr->Bool):Bool:=match x with | .BinOp l o r _=>f l o r|_=>false
theorem Al (h:GF x f=true):∃l o r p,x=.BinOp l o r p/\f l o r=true:=by cases x with|BinOp l o r p=>exact⟨l,o,r,p,rfl,h⟩|_=>exact Bool.noConfusion h
noncomputable def BG (x:Expr)(f:Expr->Bool):Bool:=match x with | .UnaryOp .USub y _=>f y|_=>false
theorem A_ (h:BG x f=true):∃y p,x=.UnaryOp .USub y p/\f y=true:=by
 cases x with
 | UnaryOp o y p=>cases o with|USub=>exact⟨y,p,rfl,h⟩|_=>exact Bool.noConfusion h
 | _=>exact Bool.noConfusion h
noncomputable def yX (x:Expr)(f:Expr->Bool):Bool:=match x with | .UnaryOp .Not y _=>f y|_=>false
theorem nH (h:yX x f=true):∃y p,x=.UnaryOp .Not y p/\f y=true:=by
 cases x with
 | UnaryOp o y p=>cases o with|Not=>exact⟨y,p,rfl,h⟩|_=>exact Bool.noConfusion h
 | _=>exact Bool.noConfusion h
noncomputable def wO (x:Expr)(f:Expr->CmpOp->Expr->Bool):Bool:=match x with | .Compare l os rs _=>on1 os fun o=>on1 rs fun r=>f l o r|_=>false
theorem td (h:wO x f=true):∃l o r p,x=.Compare l [o] [r] p/\f l o r=true:=by
 cases x with
 | Compare l os rs p =>obtain⟨o,rfl,h⟩:=b8 h;obtain⟨r,rfl,h⟩:=b8 h;exact⟨l,o,r,p,rfl,h⟩
 | _=>exact Bool.noConfusion h
noncomputable def yW (x:Expr)(f:PySem.BoolOp->List Expr->Bool):Bool:=match x with | .BoolOp o xs _=>f o xs|_=>false
theorem iw (h:yW x f=true):∃o xs p,x=.BoolOp o xs p/\f o xs=true:=by cases x with|BoolOp o xs p=>exact⟨o,xs,p,rfl,h⟩|_=>exact Bool.noConfusion h
noncomputable def GA (x:Expr)(f:Expr->Expr->Expr->Bool):Bool:=match x with | .IfExp y l r _=>f y l r|_=>false
theorem AJ (h:GA x f=true):∃y l r p,x=.IfExp y l r p/\f y l r=true:=by cases x with|IfExp y l r p=>exact⟨y,l,r,p,rfl,h⟩|_=>exact Bool.noConfusion h
noncomputable def sT (x:Expr)(f:Expr->Expr->Bool):Bool:=match x with | .Subscript l r _=>f l r|_=>false
theorem ij (h:sT x f=true):∃l r p,x=.Subscript l r p/\f l r=true:=by cases x with|Subscript l r p=>exact⟨l,r,p,rfl,h⟩|_=>exact Bool.noConfusion h
noncomputable def zG (x:Expr)(f:Option Expr->Option Expr->Bool):Bool:=match x with | .Slice u v none _=>f u v|_=>false
theorem w5 (h:zG x f=true):∃u v p,x=.Slice u v none p/\f u v=true:=by
 cases x with
 | Slice u v w p=>cases w with|none=>exact⟨u,v,p,rfl,h⟩|some _=>exact Bool.noConfusion h
 | _=>exact Bool.noConfusion h
noncomputable def Il (x:Expr)(f:Expr->Bool):Bool:=match x with | .Slice none none (some z) _=>f z|_=>false
noncomputable def aO (x:Expr)(f:Expr->List Expr->Pos->Bool):Bool:=match x with | .Call g xs [] p=>f g xs p|_=>false
theorem aM (h:aO x f=true):∃g xs p,x=.Call g xs [] p/\f g xs p=true:=by
 cases x with
 | Call g xs ks p=>cases ks with|nil=>exact⟨g,xs,p,rfl,h⟩|cons _ _=>exact Bool.noConfusion h
 | _=>exact Bool.noConfusion h
noncomputable def iN (x:Expr)(f:Expr->Str->Pos->Bool):Bool:=match x with | .Attribute y n p=>f y n p|_=>false
theorem kH (h:iN x f=true):∃y n p,x=.Attribute y n p/\f y n p=true:=by cases x with|Attribute y n p=>exact⟨y,n,p,rfl,h⟩|_=>exact Bool.noConfusion h
noncomputable def Ay (x:Expr)(f:Expr->List Comprehension->Scope->Pos->Bool):Bool:=match x with | .ListComp e gs sc p=>f e gs sc p|_=>false
theorem ji (h:Ay x f=true):∃e gs sc p,x=.ListComp e gs sc p/\f e gs sc p=true:=by cases x with|ListComp e gs sc p=>exact⟨e,gs,sc,p,rfl,h⟩|_=>exact Bool.noConfusion h
noncomputable def Io (x:Expr)(f:Expr->Expr->List Comprehension->Scope->Pos->Bool):Bool:=match x with | .DictComp k v gs sc p=>f k v gs sc p|_=>false
theorem Ct (h:Io x f=true):∃k v gs sc p,x=.DictComp k v gs sc p/\f k v gs sc p=true:=by cases x with|DictComp k v gs sc p=>exact⟨k,v,gs,sc,p,rfl,h⟩|_=>exact Bool.noConfusion h
noncomputable def Hs (wk:DW)(x:Expr)(f:Expr->Bool):Bool:=match wk with
 | .keys=>gh x && f x
 | .items=>aO x fun g xs cp=>iN g fun y n ap=>n == ("items":Str) && ap.endLine == cp.line && xs.isEmpty && fc y && f y
 | .values=>aO x fun g xs cp=>iN g fun y n ap=>n == ("values":Str) && ap.endLine == cp.line && xs.isEmpty && fc y && f y
noncomputable def Hd:DW->Expr->Bool
 | .items,.Tuple ..=>true
 | .items,_=>false
 | .keys,_=>true
 | .values,_=>true
theorem I_ {α β:Type}{xs:List α}{ys:List β}(h:(xs.isEmpty && ys.isEmpty)=true):xs=[]/\ys=[]:=by
 cases xs with
 | nil=>cases ys with|nil=>exact⟨rfl,rfl⟩|cons _ _=>exact Bool.noConfusion h
 | cons _ _=>exact Bool.noConfusion h
theorem Am {α:Type}{x:Option α}(h:x.isNone=true):x=none:=by cases x with|none=>rfl|some _=>exact Bool.noConfusion h
noncomputable def Ke (x:Expr)(f:Arguments->Expr->Scope->Bool):Bool:=match x with | .Lambda a b sc _=>f a b sc|_=>false
noncomputable def MH (x:Arguments)(f:Str->Bool):Bool:=x.posonlyargs.isEmpty && x.vararg.isNone && x.kwonlyargs.isEmpty && x.kw_defaults.isEmpty && x.kwarg.isNone && x.defaults.isEmpty && on1 x.args fun a=>f a.arg
noncomputable def Cfg.lam (c:Cfg)(k:Nat)(y:Str)(caps:List Nat)(sc:Scope):Cfg:={ c with N:=y::caps.filterMap (c.N[·]?),names:=sc.names,lim:=k,pc:=false,hm:=none }
noncomputable def Cfg.lamOk (c:Cfg)(k:Nat)(y:Str)(caps:List Nat)(sc:Scope):Bool :=
 sc.kind == .function && !sc.isCoroutine && !sc.isGenerator && sc.names.all (fun y=>!(y.2 == .cell)) && sc.names.lookup y == some .local && sc.names.all (fun y=>!(y.2 == .local) || sc.names.lookup y.1 == some .local) && sc.names.all (fun y=>!(y.2 == .free) || AO (c.names.lookup y.1))
  && decide (k+1<c.lim) && caps.all (fun i=>decide (i<c.N.length)) && (caps.filterMap (c.N[·]?)).all (fun x=>sc.names.lookup x == some .free && AO (c.names.lookup x)) && decide (y::caps.filterMap (c.N[·]?)).Nodup
mutual
noncomputable def aD (c:Cfg):E->Expr->Bool
 | .var i,x=>av x fun y _=>c.N[i]? == some y && c.vis y
 | .int i,x=>zf x fun j=>i == j
 | .bl i,x=>Ja x fun j=>i == j
 | .non,x=>Gz x
 | .str i,x=>oz x fun j=>i == j
 | .gv y v,x=>av x fun z _=>z == y && c.glb y && iP (c.gl.lookup y) fun w=>w.same v
 | .tup es,x=>dN x fun xs=>eP c es xs
 | .lst es,x=>Bf x fun xs=>eP c es xs
 | .dct1 k i,x=>uD x fun ks vs=>on1 ks fun ok=>iP ok fun kx=>oz kx fun k'=>on1 vs fun vx=>zf vx fun i'=>k == k' && i == i'
 | .dct0,x=>uD x fun ks vs=>ks.isEmpty && vs.isEmpty
 | .bin op a b,x=>GF x fun l o r=>o == op && aD c a l && aD c b r
 | .neg a,x=>BG x fun y=>aD c a y
 | .not a,x=>yX x fun y=>aD c a y
 | .cmp op a b,x=>wO x fun l o r=>o == op && !behindInMarks o r && aD c a l && aD c b r
 | .bop k es,x=>yW x fun o xs=>(o == if k then .And else .Or) && eP c es xs && !xs.isEmpty
 | .ite t a b,x=>GA x fun y l r=>xE c t y && aD c a l && aD c b r
 | .ix a b,x=>sT x fun l r=>mD r && aD c a l && aD c b r
 | .sl a lo hi,x=>sT x fun l r=>zG r fun u v=>aD c a l && Im c lo u && Im c hi v
 | .call f es,x=>aO x fun g xs _=>av g fun y _=>c.fn f y && xs.all ak && eP c es xs
 | .blt b es,x=>aO x fun g xs _=>av g fun y _=>y == pJ b && c.blt y && xs.all ak && !xs.isEmpty && eP c es xs
 | .inst a t,x=>aO x fun g xs _=>av g fun y _=>on2 xs fun l r=>av r fun z _=>y == ("isinstance":Str) && c.blt y && ak l && z == (t:Str) && c.blt z && kinds.contains t && aD c a l
 | .met m o es,x=>aO x fun g xs cp=>iN g fun y n ap=>n == tS m && ap.endLine == cp.line && xs.all ak && decide (xs.length<=2) && fc y && aD c o y && eP c es xs
 | .comp elt tg it ifs nt caps,x=>Ay x fun ex gs sc _=>on1 gs fun g=>g.is_async == 0 && vd it g.target && gh g.iter && tg.low nt.length && c.block nt caps sc && vV c it g.iter && i3 (c.inner nt caps sc) tg g.target && n9 (c.inner nt caps sc) ifs g.ifs && aD (c.inner nt caps sc) elt ex
 | .tmp a,x=>aD c a x
 | .compK elt tg wk e ifs nt caps,x=>Ay x fun ex gs sc _=>on1 gs fun g=>g.is_async == 0 && Hd wk g.target && gh g.iter && tg.low nt.length && c.block nt caps sc && Hs wk g.iter (fun y=>aD c e y) && i3 (c.inner nt caps sc) tg g.target && n9 (c.inner nt caps sc) ifs g.ifs && aD (c.inner nt caps sc) elt ex
 | .compD kx vx tg wk e ifs nt caps,x=>Io x fun ek ev gs sc _=>on1 gs fun g=>g.is_async == 0 && Hd wk g.target && gh g.iter && tg.low nt.length && c.block nt caps sc && Hs wk g.iter (fun y=>aD c e y) && i3 (c.inner nt caps sc) tg g.target && n9 (c.inner nt caps sc) ifs g.ifs && aD (c.inner nt caps sc) kx ek && aD (c.inner nt caps sc) vx ev
 | .dct2 k v,x=>uD x fun ks vs=>on1 ks fun ok=>iP ok fun kx=>on1 vs fun vx=>aD c k kx && aD c v vx
 | .dcl a,x=>aO x fun g xs _=>av g fun y _=>on1 xs fun u=>y == ("dict":Str) && c.blt y && ak u && aD c a u
 | .eqd ne a b,x=>wO x fun l o r=>(o == if ne then .NotEq else .Eq) && !behindInMarks o r && aD c a l && aD c b r
 | .bad,_=>true
 | .dget a b,x=>aO x fun g xs cp=>iN g fun y n ap=>on1 xs fun u=>n == ("get":Str) && ap.endLine == cp.line && ak u && fc y && aD c a y && aD c b u
 | .dcp a,x=>aO x fun g xs _=>av g fun y _=>on1 xs fun u=>y == ("dict":Str) && c.blt y && ak u && aD c a u
 | .clr a,x=>aO x fun g xs cp=>iN g fun y n ap=>n == ("clear":Str) && ap.endLine == cp.line && xs.isEmpty && fc y && aD c a y
 | .sset a,x=>aO x fun g xs _=>av g fun y _=>on1 xs fun l=>aO l fun g2 ys _=>av g2 fun z _=>on1 ys fun u=>y == ("sorted":Str) && c.blt y && z == ("set":Str) && c.blt z && ak l && ak u && aD c a u
 | .jrev a,x=>aO x fun g xs cp=>iN g fun y n ap=>oz y fun j=>on1 xs fun l=>sT l fun u r=>Il r fun z=>BG z fun z1=>zf z1 fun i=>n == ("join":Str) && ap.endLine == cp.line && j == ("":Str) && i == 1 && aD c a u
 | .smx k a b,x=>aO x fun g xs cp=>iN g fun y n ap=>on1 xs fun l=>n == DB k && ap.endLine == cp.line && (fc y || xf y) && ak l && aD c a y && aD c b l
 | .part a s,x=>aO x fun g xs cp=>iN g fun y n ap=>on1 xs fun l=>oz l fun j=>n == ("partition":Str) && ap.endLine == cp.line && j == s && !(s.length == 0) && fc y && aD c a y
 | .pcall i e,x=>c.pc && aO x fun g xs _=>av g fun y _=>on1 xs fun l=>c.N[i]? == some y && c.vis y && ak l && aD c e l
 | .hm e be caps,x=>iP c.hm fun k=>aO x fun g xs _=>av g fun y _=>on2 xs fun l r=>Ke r fun as b sc=>MH as fun z=>y == ("how_many":Str) && c.glb y && ak l && c.lamOk k z caps sc && aD c e l && aD (c.lam k z caps sc) be b
termination_by structural e=>e
noncomputable def eP (c:Cfg):Es->List Expr->Bool
 | .nil,xs=>xs.isEmpty
 | .cons e es,xs=>cR xs fun y ys=>ak y && aD c e y && eP c es ys
termination_by structural e=>e
noncomputable def Im (c:Cfg):O->Option Expr->Bool
 | .no,x=>x.isNone
 | .yes e,x=>iP x fun y=>aD c e y
termination_by structural e=>e
noncomputable def xE (c:Cfg):E->Expr->Bool
 | .not a,x=>yX x fun y=>xE c a y
 | .bop k es,x=>yW x fun o xs=>(o == if k then .And else .Or) && !xs.isEmpty && n9 c es xs
 | .cmp op a b,x=>wO x fun l o r=>o == op && !behindInMarks o r && aD c a l && aD c b r
 | .var i,x=>av x fun y _=>c.N[i]? == some y && c.vis y
 | .call f es,x=>aO x fun g xs _=>av g fun y _=>c.fn f y && xs.all ak && eP c es xs
 | .blt b es,x=>aO x fun g xs _=>av g fun y _=>y == pJ b && c.blt y && xs.all ak && !xs.isEmpty && eP c es xs
 | .inst a t,x=>aO x fun g xs _=>av g fun y _=>on2 xs fun l r=>av r fun z _=>y == ("isinstance":Str) && c.blt y && ak l && z == (t:Str) && c.blt z && kinds.contains t && aD c a l
 | .tmp a,x=>xr x && aD c a x
 | .ix a b,x=>sT x fun l r=>mD r && aD c a l && aD c b r
 | .pcall i e,x=>c.pc && aO x fun g xs _=>av g fun y _=>on1 xs fun l=>c.N[i]? == some y && c.vis y && ak l && aD c e l
 | .eqd ne a b,x=>wO x fun l o r=>(o == if ne then .NotEq else .Eq) && !behindInMarks o r && aD c a l && aD c b r
 | .compK _ _ _ _ _ _ _,_ | .compD _ _ _ _ _ _ _ _,_ | .dcl _,_ | .dct2 _ _,_ | .hm _ _ _,_ | .bl _,_ | .int _,_ | .non,_ | .str _,_ | .gv _ _,_ | .tup _,_ | .lst _,_ | .dct0,_ | .dct1 _ _,_ | .bin _ _ _,_ | .neg _,_ | .ite _ _ _,_ | .sl _ _ _,_ | .met _ _ _,_ | .comp _ _ _ _ _ _,_ | .bad,_ | .jrev _,_ | .sset _,_ | .clr _,_ | .dcp _,_ | .dget _ _,_ | .part _ _,_ | .smx _ _ _,_=>true
termination_by structural e=>e
noncomputable def n9 (c:Cfg):Es->List Expr->Bool
 | .nil,xs=>xs.isEmpty
 | .cons e es,xs=>cR xs fun y ys=>xE c e y && n9 c es ys
termination_by structural e=>e
noncomputable def vV (c:Cfg):It->Expr->Bool
 | .seq e,x=>gh x && aD c e x
 | .range1 a,x=>aO x fun g xs _=>av g fun y _=>on1 xs fun l=>y == ("range":Str) && c.blt y && ak l && aD c a l
 | .range2 a b,x=>aO x fun g xs _=>av g fun y _=>on2 xs fun l r=>y == ("range":Str) && c.blt y && ak l && ak r && aD c a l && aD c b r
 | .zip a b,x=>aO x fun g xs _=>av g fun y _=>on2 xs fun l r=>y == ("zip":Str) && c.blt y && ak l && ak r && aD c a l && aD c b r
 | .zip3 a b d,x=>aO x fun g xs _=>av g fun y _=>on3 xs fun l r u=>y == ("zip":Str) && c.blt y && ak l && ak r && ak u && aD c a l && aD c b r && aD c d u
 | .enum a,x=>aO x fun g xs _=>av g fun y _=>on1 xs fun l=>y == ("enumerate":Str) && c.blt y && ak l && aD c a l
 | .chars e,x=>gh x && aD c e x
 | .range3 a b d,x=>aO x fun g xs _=>av g fun y _=>on3 xs fun l r u=>y == ("range":Str) && c.blt y && ak l && ak r && ak u && aD c a l && aD c b r && aD c d u
termination_by structural e=>e
noncomputable def i3 (c:Cfg):Tg->Expr->Bool
 | .name i,x=>av x fun y _=>c.N[i]? == some y && c.loc y
 | .tup ts,x=>dN x fun xs=>qA c ts xs
 | .ltup ts,x=>dN x fun xs=>qA c ts xs
 | .sub o i,x=>sT x fun l r=>mD r && aD c o l && aD c i r
termination_by structural e=>e
noncomputable def qA (c:Cfg):Tgs->List Expr->Bool
 | .nil,xs=>xs.isEmpty
 | .cons t ts,xs=>cR xs fun y ys=>ak y && i3 c t y && qA c ts ys
termination_by structural e=>e
end
end FW
namespace FW
open L2 HX
noncomputable def dP (K:W.Frag)(sp:FSp):Sp:=fun vs H Q _=>∃m st as,Rs K m H as vs/\RH K m H st/\sp as st (post K m H Q)
def HR (P:Program)(w:World)(K:W.Frag)(mg:Str->Option Value)(base:Heap)(k:Nat)(outer:List Env)(s:Shared)(H:Hp)(a:Addr)(L:FSp):Prop :=
 ∀(A':Around) (outer':List Env) (s':Shared) (H':Hp) (u:Value) (v:V) (Q':VK),Room k A'->A3 P w K mg base A' outer' s' H'->Un (frs outer) [] H H' s.heap s'.heap->RelV v u->dP K L [v] H' Q' E0 ->
  W.FnAt a s'.heap/\codeAny (model P w) A' (.call (.ref a) ⟨[u],[]⟩) (CR CX0 outer' P w H' s' Q' E0) s'
def Kx (L:FSp):Prop:=∀as st Q Q',(∀v st,Q v st->Q' v st)->L as st Q->L as st Q'
def NY (a:Nat)(L:FSp):FSp:=fun as st Q=>∃(xs:List PV) (g:PV->Bool),as=[.tup xs,.fn a]/\xs.length<=100000/\(∀y∈xs,∀Q':EK,Q' (.bl (g y)) st->L [y] st Q')/\Q (.int (bsr g xs)) st
structure Om (P:Program)(w:World)(K:W.Frag)(mg:Str->Option Value)(base:Heap)(k:Nat):Prop where
 ex:∃f fd,mg "how_many"=some (.ref f)/\W.keepIn K (.ref f)=true/\Binds K fd ["stair","holds"] [] /\
  ∀(a:Addr) (L:FSp),Kx L->∀(A:Around) (outer:List Env) (s:Shared) (H:Hp) (args:Args) (us:List Value) (vs:List V) (Q:VK),Room (k+1) A->A3 P w K mg base A outer s H->BindsTo s fd args ((["stair","holds"]:List Str).zip us)->Vals vs us ->
   HR P w K mg base k outer s H a L->dP K (NY a L) vs H Q E0->codeAny (model P w) A (.call (.ref f) args) (CR CX0 outer P w H s Q E0) s
structure HmX (X:Cx)(k:Nat):Prop where
 ok:Om X.prog X.w X.K X.mg X.base (k+1)
 cd:∃x c0 T,x∈bM/\W.tabIn X.K x=some (c0,T)/\X.env.code=.ref c0/\X.env.qual=x++".<locals>."/\W.CodeHd X.base c0 T
 bm:∃bm ob,X.mg "__builtins__"=some (.ref bm)/\bm≠builtinsNs/\X.base.get? bm=some ob/\ob.cls=.type "module"/\ob.dict=some builtinsNs/\ob.data=.plain
structure COk (X:Cx)(c:Cfg)(Γ:Nat->FSp):Prop where
 calm:X.calm=true
 pass:PassesOwn (model X.prog X.w) X.A X.env X.xe
 N:X.N=c.N
 nd:c.N.Nodup
 vis:∀x,c.names.lookup x=some .local\/c.names.lookup x=some .cell\/c.names.lookup x=some .free->Vis X.env.scope x
 loc:∀x,c.names.lookup x=some .local\/c.names.lookup x=some .cell->Loc X.env.scope x/\(X.fn x=true\/X.env.scope.names.lookup x=some .local)
 lcl:∀x,c.names.lookup x=some .local->X.env.scope.names.lookup x=some .local
 glb:∀x,c.names.lookup x=some .globalImplicit->Gl X x
 bk:X.env.blockKind=.function
 cel:∀x,c.names.lookup x=some .cell\/c.names.lookup x=some .free->X.env.kindOf x=some .cell\/X.env.kindOf x=some .free
 room:Room c.lim X.A
 fn:∀f x,f<c.lim->c.fns[f]?=some x->∃ps,Has X.prog X.w X.K X.mg X.base (f+1) x ps (dP X.K (Γ f))
 blt:∀x∈c.blts,X.mg x=none
 gl:∀x v,c.gl.lookup x=some v->∃u y,X.mg x=some u/\RelV y u/\∀m H,R X.K m H v y
 mono:aT Γ
 lam:c.pc=true->∀ {pins:List (Addr × Obj)}{σ:L2.St}{H:Hp}{s:Shared}{b:Addr}{u:Value}{v:V}{Q:VK},L2.Inv X pins σ H s->RelV v u->dP X.K (Γ 1000) [.ref b,v] H Q E0 ->
  W.FnAt b s.heap/\wpAny (model X.prog X.w) X.A (call (.ref b) [u]) (EP X pins σ Q) X.xe s
 hmo:∀k,c.hm=some k->HmX X k
section
variable {X:Cx}{c:Cfg}{Γ:Nat->FSp}
theorem COk.visx (C:COk X c Γ)(h:c.vis x=true):Vis X.env.scope x/\(x == ("__debug__":Str))=false/\(x == ("__classdict__":Str))=false:=by unfold Cfg.vis at h;simp only[Bool.and_eq_true,Bool.or_eq_true,beq_iff_eq,Bool.not_eq_true'] at h;exact⟨C.vis x (by rcases h.1.1 with (h|h)|h <;> simp[h]),h.1.2,h.2⟩
theorem COk.glbx (C:COk X c Γ)(h:c.glb x=true):Gl X x/\(x == ("__debug__":Str))=false/\x≠"__name__":=by unfold Cfg.glb at h;simp only[Bool.and_eq_true,beq_iff_eq,Bool.not_eq_true'] at h;exact⟨C.glb x h.1.1,h.1.2,fun z=>by rw[z] at h;exact absurd h.2 (by decide)⟩
theorem COk.bltx (C:COk X c Γ)(h:c.blt x=true):Gl X x/\(x == ("__debug__":Str))=false/\x≠"__name__"/\X.mg x=none:=by unfold Cfg.blt at h;rw[OU] at h;obtain⟨h1,h2,h3⟩:=C.glbx h.1;exact⟨h1,h2,h3,C.blt x (List.contains_iff_mem.mp h.2)⟩
theorem COk.fnx (C:COk X c Γ){f:Nat}(h:c.fn f x=true):Gl X x/\(x == ("__debug__":Str))=false/\Room (f+1) X.A/\∃ps,Has X.prog X.w X.K X.mg X.base (f+1) x ps (dP X.K (Γ f)):=by unfold Cfg.fn at h;simp only[Bool.and_eq_true,beq_iff_eq,decide_eq_true_eq] at h;obtain⟨h1,h2,h3⟩:=C.glbx h.2;exact⟨h1,h2,C.room.mono h.1.2,C.fn f x h.1.2 h.1.1⟩
theorem Gc:∀b:B,bootBuiltins (pJ b)=some (Mv b):=by intro b;cases b <;> decide +kernel
theorem yo:∀t∈kinds,bootBuiltins (t:Str)=some (.type t):=by decide +kernel
theorem gG:bootBuiltins ("isinstance":Str)=some (.builtin "isinstance"):=by decide +kernel
theorem xh (h:xr x=true)(env:Env):∀whole,isTrue x env whole=(do let v <-whole;standAt x.pos;holding [v] (truthy v)):=by cases x <;> first|(intro _;rfl)|cases h
theorem kE (h:Rs K m H as vs):Rs K m H as (vs++[]):=by rw[Q7];exact h
theorem vL (C:COk X c Γ){f:Nat}{xs:List Expr}(hf:c.fn f y=true)(hn:xs.all ak=true)(hc:eP c es xs=true)(ha:PA X xs (TAx X.K (cj Γ es))) :
  PE X (.Call (.Name y p) xs [] pos) (TEx X.K fun ρ st Q=>cj Γ es ρ st fun vs st1=>Γ f vs st1 Q):=by
 obtain⟨h1,h2,hr,ps,F⟩:=C.fnx hf;have key:∀ {σ:L2.St}{H:Hp}{Q:VK},TEx X.K (fun ρ st Q=>cj Γ es ρ st fun vs st1=>Γ f vs st1 Q) σ H Q->lj (dP X.K (Γ f)) [] E0 (TAx X.K (cj Γ es)) σ H Q:=by rintro σ H Q ⟨m,ρ,st,rf,rh,w⟩;exact⟨m,ρ,st,rf,rh,aC C.mono es (fun vs st1 k m1 H1 xs1 e1 r1 r2=>⟨m1,st1,vs,kE r2,r1,C.mono _ _ _ _ _ (fun _ _ q=>q.ext e1) k⟩) w⟩
 intro pins s σ H Q I h;cases xs with
 | nil =>
  refine FO F hr h1 h2 pins s σ H Q I ?_;obtain⟨m,ρ,st,rf,rh,w⟩:=h;cases es with
  | nil=>exact⟨m,st,[],Rs_nil.mpr rfl,rh,w⟩
  | cons e es=>exact Bool.noConfusion (show false=true from hc)
 | cons x xs =>rw[QM,OU] at hn;exact EL F hr ha h1 h2 hn.1 hn.2 pins s σ H Q I (key h)
theorem vF (C:COk X c Γ){y:Str}{xs:List Expr}(hy:y=pJ b)(hb:c.blt y=true)(hn:xs.all ak=true)(hne:xs.isEmpty=false)(ha:PA X xs (TAx X.K (cj Γ es))) :
  PE X (.Call (.Name y p) xs [] pos) (TEx X.K fun ρ st Q=>cj Γ es ρ st fun vs st1=>fJ b vs st1 Q):=by
 obtain⟨h1,h2,h3,h4⟩:=C.bltx hb;have hv:=Gc b;rw[<-hy] at hv;have key:∀ {σ:L2.St}{H:Hp}{Q:VK},TEx X.K (fun ρ st Q=>cj Γ es ρ st fun vs st1=>fJ b vs st1 Q) σ H Q->tCB (K2 X.K (fJ b)) (TAx X.K (cj Γ es)) σ H Q:=by rintro σ H Q ⟨m,ρ,st,rf,rh,w⟩;exact⟨m,ρ,st,rf,rh,aC C.mono es (fun vs st1 k m1 H1 xs1 e1 r1 r2=>⟨m1,st1,vs,r1,r2,jL (fun _ _ q=>q.ext e1) k⟩) w⟩
 have hc:=CL C.calm C.room.gd C.room.units b;cases xs with
 | nil=>cases hne
 | cons x xs =>
  rw[QM,OU] at hn;intro pins s σ H Q I h;cases b <;> first
   | exact iq hc h1 h4 hv ha h3 h2 hn.1 hn.2 pins s σ H Q I (key h)
   | exact qT hc h1 h4 hv ha h3 h2 hn.1 hn.2 pins s σ H Q I (key h)
theorem AX (m:M):PlainAttrs "list"/\Slot "list" (tS m) (yP m)/\typeOf (.builtin (yP m))=pure (.type "method_descriptor"):=by
 cases m
 ·exact⟨QC,PySem.F.slot_list_append,PySem.F.type_list_append⟩
 ·exact⟨QC,PySem.F.slot_list_pop,PySem.F.type_list_pop⟩
 ·exact⟨QC,PySem.F.slot_list_extend,PySem.F.type_list_extend⟩
 ·exact⟨QC,PySem.F.slot_list_insert,PySem.F.type_list_insert⟩
 ·exact⟨QC,PySem.F.slot_list_count,PySem.F.type_list_count⟩
 ·exact⟨QC,PySem.F.slot_list_index,PySem.F.type_list_index⟩
 ·exact⟨QC,PySem.F.slot_list_pop,PySem.F.type_list_pop⟩
theorem jT (h:fc y=true):attributeBase y n env w=w:=by cases y <;> first|rfl|cases h
theorem CG (C:COk X c Γ){n:Str}{ap cp:Pos}{xs:List Expr}(hn:n=tS m)(hl:(ap.endLine == cp.line)=true)(hs:xs.all ak=true)(h2:xs.length<=2)(hy:fc y=true)(ho:PE X y (TEx X.K (wpE Γ o)))(ha:PA X xs (TAx X.K (cj Γ es)))(hc:eP c es xs=true) :
  PE X (.Call (.Attribute y n ap) xs [] cp) (TEx X.K (wpE Γ (.met m o es))):=by
 obtain⟨pa,slot,ty⟩:=AX m;rw[<-hn] at slot;have hm:MtR X (yP m) (Mj X.K (uR m)):=HD m;intro pins s σ H Q I h;obtain⟨mm,ρ,st,rf,rh,w⟩:=h
 skip
 have tyv:∀ {m1:List Addr} {H1:Hp} {st1:AH} {v:PV} {x:V},RH X.K m1 H1 st1->R X.K m1 H1 v x->(∃xs,bH st1 v=some xs)->tyV X.K "list" x H1:=by rintro m1 H1 st1 v x r1 r2 ⟨xs,e⟩;obtain⟨a,ys,rfl,g,_⟩:=fM r1 r2 e;exact .inl ⟨rfl,ys,g⟩
 match xs,hs,h2,ha,hc with
 | [],hs,h2,ha,hc =>
  refine Jp pa slot ty hm ho (jT hy) hl pins s σ H Q I ?_;refine⟨mm,ρ,st,rf,rh,aa C.mono o (fun v st1 k m1 H1 x1 e1 r1 r2=>⟨tyv r1 r2 k.1,?_⟩) w⟩;cases es with
  | nil =>
   have k2:=k.2
   skip
   exact⟨m1,st1,v,[],r1,r2,Rs_nil.mpr rfl,jM (fun _ _ q=>q.ext e1) k2⟩
  | cons e es=>exact Bool.noConfusion (show false=true from hc)
 | [a],hs,h2,ha,hc =>simp only[List.all_cons,List.all_nil,Bool.and_true] at hs;have st1:starEach [a] X.env=[(false,eval a X.env)]:=aw hs;refine n6 pa slot ty hm ho ha (jT hy) (by rw[st1];rfl) hl st1 rfl pins s σ H Q I ?_;refine⟨mm,ρ,st,rf,rh,aa C.mono o (fun v st1 k m1 H1 x1 e1 r1 r2=>⟨tyv r1 r2 k.1,?_⟩) w⟩;exact⟨m1,ρ,st1,rf.mono e1,r1,aC C.mono es (fun vs st2 k m2 H2 xs2 e2 r3 r4=>⟨m2,st2,v,vs,r3,r2.mono e2,r4,jM (fun _ _ q=>q.ext (e1.trans e2)) k⟩) k.2⟩
 | [a,b],hs,h2,ha,hc =>simp only[List.all_cons,List.all_nil,Bool.and_true,Bool.and_eq_true] at hs;have stb:starEach [b] X.env=[(false,eval b X.env)]:=aw hs.2;have st1:starEach [a,b] X.env=(false,eval a X.env)::starEach [b] X.env:=aw hs.1;refine n6 pa slot ty hm ho ha (jT hy) (by rw[st1,stb];rfl) hl st1 (by rw[stb];rfl) pins s σ H Q I ?_;refine⟨mm,ρ,st,rf,rh,aa C.mono o (fun v st1 k m1 H1 x1 e1 r1 r2=>⟨tyv r1 r2 k.1,?_⟩) w⟩;exact⟨m1,ρ,st1,rf.mono e1,r1,aC C.mono es (fun vs st2 k m2 H2 xs2 e2 r3 r4=>⟨m2,st2,v,vs,r3,r2.mono e2,r4,jM (fun _ _ q=>q.ext (e1.trans e2)) k⟩) k.2⟩
 | _::_::_::_,hs,h2,ha,hc=>simp at h2
mutual
theorem PV.bel_le {i j:Nat}(h:i<=j):∀ {v:PV},v.bel i=true->v.bel j=true
 | .non,_=>by rw[PV.bel]
 | .bl _,_=>by rw[PV.bel]
 | .int _,_=>by rw[PV.bel]
 | .str _,_=>by rw[PV.bel]
 | .ref n,z=>by rw[PV.bel] at z |-;have:=P2 z;exact PJ (by omega)
 | .tup xs,z=>by rw[PV.bel] at z |-;exact PV.bels_le h z
 | .rdl xs,z=>by rw[PV.bel] at z |-;exact PV.bels_le h z
 | .fn _,z=>by rw[PV.bel] at z;cases z
theorem PV.bels_le {i j:Nat}(h:i<=j):∀ {vs:List PV},PV.bels i vs=true->PV.bels j vs=true
 | [],_=>by rw[PV.bels]
 | v::vs,z=>by rw[PV.bels,OU] at z |-;exact⟨PV.bel_le h z.1,PV.bels_le h z.2⟩
end
theorem zr (C:COk X c Γ){t:String}{y:Str}(h:(y == ("isinstance":Str) && c.blt y && ak l && z == (t:Str) && c.blt z && kinds.contains t)=true)(ha:PE X l (TEx X.K (wpE Γ a))) :
  PE X (.Call (.Name y p) [l,.Name z q] [] pos) (TEx X.K (wpE Γ (.inst a t))):=by
 simp only[Bool.and_eq_true,beq_iff_eq] at h;obtain⟨⟨⟨⟨⟨h1,h2⟩,h3⟩,h4⟩,h5⟩,h6⟩:=h;subst h1 h4;have ht:t∈kinds:=List.contains_iff_mem.mp h6;obtain⟨g1,g2,g3,g4⟩:=C.bltx h2;obtain⟨k1,k2,k3,k4⟩:=C.bltx h5;rintro pins s σ H Q I ⟨m,ρ,st,rf,rh,w⟩
 skip
 have pt:PE X (.Name (t:Str) q) (tC (.ty t)):=yO k1 k4 (yo t ht) rfl k3 k2;have hA:PA X [l,.Name (t:Str) q] (cy (TEx X.K (wpE Γ a)) (cy (tC (.ty t)) kb)):=pac ha (pac pt bX) h3;have hC:dG X (.builtin "isinstance") (fun xs H Q=>∃m st x y n,RH X.K m H st/\R X.K m H x y/\xs=[y,.ty t]/\bT st x=some n/\Q (.bl (bI t n)) H):=by rintro pins s σ H xs us Q I r ⟨m,st,x,y,n,r1,r2,rfl,e,q⟩;obtain⟨u,v,rfl,ru,rv⟩:=oa r;cases (show v=Value.type t from rv);exact F6 (K:=X.K) I r1 r2 ru e ht fun tk=>⟨.bl _,H,I.tok tk,rfl,q⟩
 refine iq hC g1 g4 gG hA g3 g2 h3 rfl pins s σ H Q I ?_;refine⟨m,ρ,st,rf,rh,aa C.mono a (fun v st1 k m1 H1 x1 e1 r1 r2=>?_) w⟩;obtain⟨n,e,k⟩:=k;exact⟨m1,st1,v,x1,n,r1,r2,rfl,e,(k.ext e1).here r1 (R_bl.mpr rfl)⟩
theorem D2 (C:COk X c Γ){i:Nat}(h:(c.N[i]? == some y && c.vis y)=true):PE X (.Name y p) (TEx X.K (wpE Γ (.var i))):=by simp only[Bool.and_eq_true,beq_iff_eq] at h;obtain⟨h1,h2,h3⟩:=C.visx h.2;rintro pins s σ H Q I ⟨m,ρ,st,rf,rh,w⟩;obtain⟨v,e,w⟩:=lD w;obtain⟨y,e2,r⟩:=rf.at_ i v e;exact n5 (by rw[C.N];exact h.1) h1 h2 h3 pins s σ H Q I ⟨y,e2,w.here rh r⟩
theorem pI (rh:RH K m H st)(e:Ext K m H m' H')(rh':RH K m' H' st')(r:R K m' H' v x)(q:Tmp st Q v st') :
  ∃st1,Q v st1/\Ext K m H m H'/\RH K m H' st1/\R K m H' v x:=by
 obtain⟨st1,g,rfl,hl,hs,hb,q⟩:=q;have hm:m'.take m.length=m:=by obtain⟨t,ht⟩:=e.pre;rw[<-ht,List.take_left]
 have hlen:m.length=st.length:=rh.len;refine⟨st1,q,⟨SN _,fun _ z=>.inl z,e.fr,e.tup,e.rdf,e.tbs,e.tb,e.frz⟩,⟨by rw[hl,hlen],rh.nd,fun n c a h1 h2=>?_,e.tb rh.tb⟩,?_⟩
 ·have hn:n<st1.length:=(OT.mp h1).1;have c1:CellR K m' H' c a:=rh'.at_ n c a (by rw[O_ hn];exact h1) (lz e.pre h2);have hc:c.bec m.length=true:=by
   rcases hs n (by omega) with z|⟨c',z,zb⟩
   ·rw[h1] at z;exact(rh.at_ n c a z.symm h2).bel
   ·rw[h1] at z;cases z;have zb':∀ {c:Cell},c.bel 0=true->c.bec m.length=true:=by
     have b0:∀(xs:List PV),PV.bels 0 xs=true->PV.becs m.length xs=true:=fun xs h=>PV.bels_becs (P9 _) h;intro c h;cases c with
     | lst xs=>exact b0 _ h
     | dk kvs=>exact b0 _ h
     | fz kvs=>cases h
    exact zb' zb
  have:=c1.cut hc;rw[hm] at this;exact this
 ·have:=r.cut (k:=m.length) (by rw[hlen];exact PV.bel_bec (OX _) hb);rw[hm] at this;exact this
noncomputable def postF (K:W.Frag)(m:List Addr)(H:Hp)(Q:L2.St->Hp->Prop):Fr->AH->Prop:=fun ρ' st'=>∀m' H' σ',Ext K m H m' H'->RH K m' H' st'->RF K m' H' ρ' σ'->Q σ' H'
theorem postF.ext (x:Ext K m H m1 H1)(q:postF K m H Q ρ st):postF K m1 H1 Q ρ st:=fun m' H' σ' e r s=>q m' H' σ' (x.trans e) r s
theorem postF.here (q:postF K m H Q ρ st)(h:RH K m H st)(r:RF K m H ρ σ):Q σ H:=q m H σ (Ext.refl _ _ _) h r
noncomputable def TGx (K:W.Frag)(w:PV->Fr->AH->(Fr->AH->Prop)->Prop):TG:=fun v' σ H Q=>∃m ρ st v,RF K m H ρ σ/\RH K m H st/\R K m H v v'/\w v ρ st (postF K m H Q)
noncomputable def N5 (K:W.Frag)(w:List PV->Fr->AH->(Fr->AH->Prop)->Prop):TGs:=fun v' σ H Q=>∃m ρ st v,RF K m H ρ σ/\RH K m H st/\Rs K m H v v'/\w v ρ st (postF K m H Q)
theorem COk.locx (C:COk X c Γ)(h:c.loc x=true):Loc X.env.scope x/\(X.fn x=true\/X.env.scope.names.lookup x=some .local):=by unfold Cfg.loc at h;simp only[Bool.or_eq_true,beq_iff_eq] at h;exact C.loc x h
theorem COk.ndX (C:COk X c Γ):X.N.Nodup:=by rw[C.N];exact C.nd
theorem ki {es:List Expr}(h:ak e=true):assignEach (e::es) env=(false,assign e env)::assignEach es env:=by cases e <;> first|rfl|cases h
theorem pX:∀ {ts:Tgs}{xs:List Expr}{env:Env},qA c ts xs=true->(assignEach xs env).length=ts.size/\(assignEach xs env).findIdx? (·.1)=none
 | .nil,xs,env,h=>by
  have h:xs.isEmpty=true:=h;cases xs with
  | nil=>exact⟨rfl,rfl⟩
  | cons _ _=>cases h
 | .cons t ts,xs,env,h=>by
  replace h:=ar h;obtain⟨y,ys,rfl,h⟩:=h
  ·simp only[Bool.and_eq_true] at h;obtain⟨⟨h1,h2⟩,h3⟩:=h;obtain⟨g1,g2⟩:=pX (env:=env) h3;rw[ki h1];exact⟨by simp[g1,Tgs.size],by simp[List.findIdx?_cons,g2]⟩
structure q9 (K:W.Frag)(J:L2.It)(xs:List PV)(chk:AH->Prop)(m0:List Addr)(H0:Hp):Prop where
 stop:∀m H st,Ext K m0 H0 m H->RH K m H st->chk st->J.stop xs.length H
 item:∀(i:Nat) v m H st,Ext K m0 H0 m H->RH K m H st->chk st->xs[i]?=some v->J.go i H/\∀x H',J.yld i H x H'->Ext K m H m H'/\RH K m H' st/\R K m H' v x
noncomputable def TIx (K:W.Frag)(w:Fr->AH->(List PV->(AH->Prop)->AH->Prop)->Prop):TI:=fun σ H Rr=>∃m ρ st,RF K m H ρ σ/\RH K m H st /\
 w ρ st fun xs chk st1=>∀m1 H1 J,Ext K m H m1 H1->RH K m1 H1 st1->q9 K J xs chk m1 H1->Rr J H1
theorem md (h:gh x=true):∀v,foldedSetIterable x env v=pure v:=by cases x <;> first|(intro _;rfl)|cases h
theorem GN {tl:TE}(hl:PE X l tl):PI X tg l (fun σ H Rr=>tl σ H fun x H1=>∃a,x=.ref a/\((∃xs,SqL X.K H1 a xs)/\Rr (Itl X.K a) H1\/(∃xs,SqT X.K H1 a xs)/\Rr (Itt X.K a) H1)):=by
 intro pins s σ H Rr I h;refine thn (hl pins s σ H _ I h) fun v s1 ⟨x,H1,I1,r1,q1⟩=>?_;obtain⟨a,e,q1⟩:=q1;subst e;cases r1;rcases q1 with⟨⟨xs,hq⟩,q⟩|⟨⟨xs,hq⟩,q⟩
 ·obtain⟨its,rv,p,hz⟩:=I1.list hq;refine wpAny_pyIter_list p.isList ?_;refine⟨s1.heap.objs.size,[s1.heap.objs.size],_,_,H1,rfl,I1.kept (t':=s1.toks) fun b o e=>OR _ e,AG a _,⟨_,O5 _ rfl,rfl,rfl⟩,fun b hb=>?_,q⟩;have e:b=s1.heap.objs.size:=by simpa using hb
  subst e;exact I1.fpOk (OX _) (I1.hok.fresh (OX _))
 ·obtain⟨its,rv,p,hz⟩:=I1.tuple hq;refine wpAny_pyIter_tuple (show s1.heap.IsTuple a its.toArray from p) ?_;refine⟨s1.heap.objs.size,[s1.heap.objs.size],_,_,H1,rfl,I1.kept (t':=s1.toks) fun b o e=>OR _ e,xM a _,⟨_,O5 _ rfl,rfl,rfl⟩,fun b hb=>?_,q⟩;have e:b=s1.heap.objs.size:=by simpa using hb
  subst e;exact I1.fpOk (OX _) (I1.hok.fresh (OX _))
theorem AA {n:Nat}(rh:RH K m0 H0 st0)(e:st0[n]?=some (.lst xs))(ea:m0[n]?=some a):q9 K (Itl K a) xs (fun st'=>st'[n]?=st0[n]?) m0 H0:=by
 have get:∀m H st,Ext K m0 H0 m H->RH K m H st->st[n]?=st0[n]?->∃ys,H a=some (.lst ys)/\Rs K m H xs ys:=fun m H st x r q=>by rw[e] at q;exact r.at_ n _ a q (lz x.pre ea)
 refine⟨fun m H st x r q=>?_,fun i v m H st x r q ev=>?_⟩
 ·obtain⟨ys,h1,h2⟩:=get m H st x r q;exact⟨ys,SqL.of h1,by rw[h2.len];exact OX _⟩
 ·obtain⟨ys,h1,h2⟩:=get m H st x r q;obtain⟨y,e1,r1⟩:=h2.get ev;refine⟨⟨ys,y,SqL.of h1,e1⟩,fun z H' ⟨e2,e3⟩=>?_⟩;subst e2;have:=e3 ys (SqL.of h1);rw[e1] at this;cases this;exact⟨Ext.refl _ _ _,r,r1⟩
theorem B6 (h:RdF K H0 a ys)(r0:Rs K m0 H0 xs ys):q9 K (Itl K a) xs (fun _=>True) m0 H0:=by refine⟨fun m H st x r q=>⟨ys,(x.rdf _ _ h).sq,by rw[r0.len];exact OX _⟩,fun i v m H st x r q ev=>?_⟩;obtain⟨y,e1,r1⟩:=(r0.mono x).get ev;refine⟨⟨ys,y,(x.rdf _ _ h).sq,e1⟩,fun z H' ⟨e2,e3⟩=>?_⟩;subst e2;have:=e3 ys (x.rdf _ _ h).sq;rw[e1] at this;cases this;exact⟨Ext.refl _ _ _,r,r1⟩
theorem BA (h:SqT K H0 a ys)(r0:Rs K m0 H0 xs ys):q9 K (Itt K a) xs (fun _=>True) m0 H0:=by refine⟨fun m H st x r q=>⟨ys,x.tup _ _ h,by rw[r0.len];exact OX _⟩,fun i v m H st x r q ev=>?_⟩;obtain⟨y,e1,r1⟩:=(r0.mono x).get ev;refine⟨⟨ys,y,x.tup _ _ h,e1⟩,fun z H' ⟨e2,e3⟩=>?_⟩;subst e2;have:=e3 ys (x.tup _ _ h);rw[e1] at this;cases this;exact⟨Ext.refl _ _ _,r,r1⟩
theorem qI {lo:Int}{n:Nat}:q9 K (Itr lo n) (bY lo n) (fun _=>True) m0 H0:=by
 refine⟨fun m H st x r q=>by show n<=_;simp[bY],fun i v m H st x r q ev=>?_⟩;unfold bY at ev;rw[PC] at ev;have hi:i<n:=by
  by_cases hi:i<n
  ·exact hi
  ·rw[QU (by simp;omega)] at ev;cases ev
 rw[RD hi] at ev;cases ev;refine⟨hi,fun z H' ⟨e2,e3⟩=>?_⟩;subst e2 e3;exact⟨Ext.refl _ _ _,r,R_int.mpr rfl⟩
end
end FW
namespace FW
open L2 HX
section
variable {X:Cx}{c:Cfg}{Γ:Nat->FSp}
noncomputable def ON (prog:Program)(w:World)(a:Addr)(ns:List Int):HO:=.ext fun h=>NB prog w (!(byT w)) h a ns
end
end FW
namespace FW
open L2 HX
section
variable {X:Cx}{pins:List (Addr × Obj)}{σ:L2.St}{H:Hp}{s:Shared}{h':Heap}
theorem zD {t':Nat}{wr:List Addr}(I:L2.Inv X pins σ H s)(k:∀b o,b ∉ wr->s.heap.get? b=some o->h'.get? b=some o)(hf:∀b∈wr,jo X pins H b):L2.Inv X pins σ H { s with heap:=h',toks:=t' }:=by
 have nit:∀b u,H b=some u->b ∉ wr:=fun b u e z=>by rw[(hf b z).1] at e;cases e
 refine I.step (g':=s.gens) (d':=s.drawn) (ch:=wr) (fun b hb=>⟨(hf b hb).2.2.2.1,(hf b hb).2.1,(hf b hb).2.2.2.2.1,(hf b hb).2.2.2.2.2⟩) (fun b o _ _ hc e _=>k b o hc e) (fun b o _ _ hc e _=>⟨o.slots,k b o hc e⟩) (fun _ _ _ _ n=>n)
  (fun b o hc e=>⟨o,k b o hc e⟩) (fun _ _ e=>e) (fun _ _ _ e=>e) (fun b ps e=>⟨#[],by rw[e];simp⟩) (fun m hm=>?_) (fun b u e=>?_) I.bare
 ·obtain⟨o,es,ep,ho,r⟩:=hm;exact⟨o,es,ep,k _ o (fun z=>(hf _ z).2.1 rfl) ho,r⟩
 ·refine(I.hok b u e).stay (fun c v hc q=>k c v ?_ q) (fun _ q=>q) fun _ _ q=>q;rcases hc with z|z
  ·rw[z];exact nit b u e
  ·exact nit c _ z
theorem y7 {t':Nat}{wr:List Addr}{T:Addr}{xs:List V}{its:List Value}(I:L2.Inv X pins σ H s)(k:∀b o,b ∉ wr->s.heap.get? b=some o->h'.get? b=some o)(hf:∀b∈wr,jo X pins H b)
  (hT:s.heap.objs.size<=T) (hx:Vals xs its) (hz:xs.length<=sizeLine) (ht:h'.IsTuple T its.toArray):L2.Inv X pins σ (upd H T (.tup xs)) { s with heap:=h',toks:=t' }:=by
 have nit:∀b u,H b=some u->b ∉ wr:=fun b u e z=>by rw[(hf b z).1] at e;cases e
 have hn:H T=none:=I.hok.fresh hT;have up:∀b u,H b=some u->upd H T (.tup xs) b=some u:=fun b u e=>by rw[ao (aH e hn)];exact e
 refine I.step (g':=s.gens) (d':=s.drawn) (ch:=wr) (fun b hb=>⟨(hf b hb).2.2.2.1,(hf b hb).2.1,(hf b hb).2.2.2.2.1,(hf b hb).2.2.2.2.2⟩) (fun b o _ _ hc e _=>k b o hc e) (fun b o _ _ hc e _=>⟨o.slots,k b o hc e⟩)
  (fun b o _ e n=>by rw[ao (PN (OW (O3 e) hT))];exact n)
  (fun b o hc e=>⟨o,k b o hc e⟩) (fun b _ e=>up b _ e) (fun b _ _ e=>up b _ e) (fun b ps e=>⟨#[],by rw[up b _ e];simp⟩) (fun m hm=>?_) (fun b u e=>?_) I.bare
 ·obtain⟨o,es,ep,ho,r⟩:=hm;exact⟨o,es,ep,k _ o (fun z=>(hf _ z).2.1 rfl) ho,r⟩
 ·by_cases hb:b=T
  ·subst hb;rw[bq] at e;cases e;exact⟨hz,its,hx,ht⟩
  ·rw[ao hb] at e;refine(I.hok b u e).stay (fun c v hc q=>k c v ?_ q) (fun c q=>up c _ q) fun c _ q=>up c _ q;rcases hc with z|z
   ·rw[z];exact nit b u e
   ·exact nit c _ z
end
theorem lG:∀ {xs ys:List PV},(gO xs ys).length=min xs.length ys.length
 | [],ys=>by simp[gO]
 | x::xs,[]=>by simp[gO]
 | x::xs,y::ys=>by simp only[gO,List.length_cons,lG (xs:=xs) (ys:=ys)];omega
theorem qF:∀ {xs ys:List PV}{i:Nat}{v:PV},(gO xs ys)[i]?=some v->∃x y,xs[i]?=some x/\ys[i]?=some y/\v=.tup [x,y]
 | [],ys,i,v,h=>by simp[gO] at h
 | x::xs,[],i,v,h=>by simp[gO] at h
 | x::xs,y::ys,0,v,h=>by simp[gO] at h;exact⟨x,y,rfl,rfl,h.symm⟩
 | x::xs,y::ys,i+1,v,h=>by
  simp only[gO,List.getElem?_cons_succ] at h |-
  exact qF h
end FW
namespace FW
open L2 HX
theorem Ek {h:Heap}{i:Nat}{k:Nat}(e:h.get? it=some o)(hc:o.cls=.type "tuple_iterator")(hd:o.data=.fields #[.ref t,.int (i:Int) 0]) :
  (h.update it (Obj.mapFields fun z=>z.setIfInBounds k x)).get? it=some (Obj.mapFields (fun z=>z.setIfInBounds k x) o):=by
 refine Q5 _ e ?_;obtain⟨c,d,da,sl⟩:=o;simp only at hc hd;subst hc hd;rfl
theorem w_ (it t:Addr)(i:Nat)(items:Array Value)(x:Value):Meets (Builtin.«tuple_iterator.__next__» { pos:=[.ref it] }) fun _ R s =>
  s.heap.IsTupleIter it t i/\s.heap.IsTuple t items/\items[i]?=some x/\∀h',h'.IsTupleIter it t (i+1)->Heap.SameBut it s.heap h'->R (.ok (.ret x)) { s with heap:=h' }:=by
 intro prog w A R s ⟨⟨o,e,hc,hd⟩,⟨o2,e2,hc2,n,hd2⟩,hx,h⟩;refine OP (O2 ?_);refine OP (wpAny_field (i:=0) e hd rfl ?_);refine OP (wpAny_field (i:=1) e hd rfl ?_);refine OP (wpAny_seqItems e2 hd2 ?_);show wpAny _ _ (match items[((i:Nat):Int).toNat]? with|some x=>_|none=>_) _ _ _;rw[Q9,hx];refine OP (wpAny_setField e hd (SO 1) ?_);refine O2 ?_;refine h _ ⟨_,Ek e hc hd,?_,?_⟩ (Heap.SameBut.update _ _ _)
 ·obtain⟨c,d,da,sl⟩:=o;simp only at hc hd;subst hc hd;rfl
 ·obtain⟨c,d,da,sl⟩:=o;simp only at hc hd;subst hc hd;show Data.fields #[.ref t,rawInt ((i:Int)+1)]=Data.fields #[.ref t,.int ((i+1:Nat):Int) 0];rw[SW];rfl
theorem Fv {α:Type}{M:Model}{A:Around}{E:Value->Shared->Prop}{s:Shared}{Q:α->Shared->Prop}(hh:A.handled=none)(h:∀h' e,(∀b o,s.heap.get? b=some o->h'.get? b=some o)->(∃o,h'.get? e=some o/\o.cls=.type "StopIteration")->E (.ref e) { s with heap:=h' }) :
  wpAny M A (Builtin.SmallTypes.stopIteration:Sem α) Q E s:=by
 refine OP ?_;refine OP (wpAny_newTuple ?_);refine OP (O2 ?_);refine wpAny_newObj_type (wpAny_raiseNew_none hh ?_);refine h _ _ (fun b o e=>OR _ (OR _ e)) ⟨_,O5 _ rfl,rfl⟩
theorem yk (it t:Addr)(i:Nat)(items:Array Value):Meets (Builtin.«tuple_iterator.__next__» { pos:=[.ref it] }) fun A R s =>
  A.handled=none/\s.heap.IsTupleIter it t i/\s.heap.IsTuple t items/\items[i]?=none/\∀h' e,Heap.ExtBut it s.heap h'->(∃o,h'.get? e=some o/\o.cls=.type "StopIteration")->R (.error (.ref e)) { s with heap:=h' }:=by
 intro prog w A R s ⟨hh,⟨o,e,hc,hd⟩,⟨o2,e2,hc2,n,hd2⟩,hx,h⟩;refine OP (O2 ?_);refine OP (wpAny_field (i:=0) e hd rfl ?_);refine OP (wpAny_field (i:=1) e hd rfl ?_);refine OP (wpAny_seqItems e2 hd2 ?_);show wpAny _ _ (match items[((i:Nat):Int).toNat]? with|some x=>_|none=>_) _ _ _;rw[Q9,hx];refine OP (wpAny_rule ?_);refine OP (wpAny_setField e hd (RZ 1) ?_);refine Fv hh fun h' x k1 k2=>h h' x (fun b o' hb eb=>k1 b o' ?_) k2;show (s.heap.update it _).get? b=some o';rw[Heap.get?_update_ne _ _ _ _ hb];exact eb
section
variable {prog:Program}{w:World}{A:Around}{E:Value->Shared->Prop}{s:Shared}{it t:Addr}{i:Nat}{items:Array Value}
theorem k7 {Q:Value->Shared->Prop}(hi:s.heap.IsTupleIter it t i)(ht:s.heap.IsTuple t items)(hx:items[i]?=some x)(h:∀h',h'.IsTupleIter it t (i+1)->Heap.SameBut it s.heap h'->Q x { s with heap:=h' }) :
  wpAny (model prog w) A (Builtin.SmallTypes.nextOf (.ref it)) Q E s:=by
 refine OP (wpAny_callSpecial?_slot hi.typeIs Q3 ?_);refine call_meets Q3 hi.typeIs F.entry_tuple_iterator_next (F.args_tuple_iterator_next_1 _) (w_ it t i items x) ⟨hi,ht,hx,fun h' k1 k2=>O2 (h h' k1 k2)⟩
theorem oA (hh:A.handled=none)(hi:s.heap.IsTupleIter it t i)(ht:s.heap.IsTuple t items)(hx:items[i]?=none)(h:∀h' e,Heap.ExtBut it s.heap h'->(∃o,h'.get? e=some o/\o.cls=.type "StopIteration")->E (.ref e) { s with heap:=h' }) :
  wpAny (model prog w) A (Builtin.SmallTypes.nextOf (.ref it)) Q E s:=by
 refine OP (wpAny_callSpecial?_slot hi.typeIs Q3 ?_);exact call_meets Q3 hi.typeIs F.entry_tuple_iterator_next (F.args_tuple_iterator_next_1 _) (yk it t i items) ⟨hh,hi,ht,hx,h⟩
end
theorem rn {h h':Heap}{i:Nat}(k:∀o,h.get? it=some o->h'.get? it=some o)(z:h.IsTupleIter it t i):h'.IsTupleIter it t i:=by obtain⟨o,e,r⟩:=z;exact⟨o,k o e,r⟩
theorem rp {h h':Heap}(k:∀o,h.get? t=some o->h'.get? t=some o)(z:h.IsTuple t items):h'.IsTuple t items:=by obtain⟨o,e,r⟩:=z;exact⟨o,k o e,r⟩
theorem oq {prog:Program}{w:World}{A:Around}(hh:A.handled=none)(it t:Addr)(hne:t≠it)(items:Array Value) :
  Draws prog w A it [it,t] items.size (fun i v=>items[i]?=some v) fun i h=>h.IsTupleIter it t i/\h.IsTuple t items where
 live:=fun i h z=>let ⟨o,e,_⟩:=z.1;⟨o,e⟩
 frame:=fun i h h' z k=>⟨rn (fun o e=>k it (by simp) o e) z.1,rp (fun o e=>k t (by simp) o e) z.2⟩
 item:=fun i s Q E hi z h=>k7 z.1 z.2 (Array.getElem?_eq_getElem hi) fun h' k1 k2=>h _ h' s.toks (Array.getElem?_eq_getElem hi) ⟨k1,rp (fun o e=>by rw[k2.2 t hne];exact e) z.2⟩ k2
 done:=fun s Q E z h=>oA hh z.1 z.2 (Array.getElem?_eq_none (OX _)) h
theorem vI (t:Addr)(items:Array Value):Meets (Builtin.«enumerate.__new__» { pos:=[.type "enumerate",.ref t] }) fun _ R s =>
  s.heap.IsTuple t items/\∀h',IsEnum h' (s.heap.objs.size+1) s.heap.objs.size 0 .none->h'.IsTupleIter s.heap.objs.size t 0->(∀b o,s.heap.get? b=some o->h'.get? b=some o)->R (.ok (.ret (.ref (s.heap.objs.size+1)))) { s with heap:=h' }:=by
 intro prog w A R s ⟨ht,h⟩;refine OP ?_;refine OP (O2 ?_);rw[sub_enumerate];refine OP (O2 ?_);refine O2 ?_;refine OP (OP (wpAny_stack fun st _ _ _=>O2 ?_));have fin:wpAny (model prog w) A.in1 (do
   let i <-pyIter (.ref t);let r <-Builtin.SmallTypes.newRecord (.type "enumerate") (Builtin.SmallTypes.ownedTupleFields++[i,rawInt 0,.none,.none])
   ret r) (fun fin s'=>match fin with
   | Fin.done f=>R (Except.ok f) s'
   | Fin.again c'=>c'.quiet=true/\codeAny (model prog w) A c' R s') (fun e s'=>R (Except.error e) s') s:=by
  refine OP (wpAny_pyIter_tuple ht ?_);refine OP (wpAny_newObj_type (T:="enumerate") (data:=.fields #[.none,.bool false,.ref s.heap.objs.size,rawInt 0,.none,.none]) ?_);refine O2 ?_;have hl:(s.heap.push { cls:=.type "tuple_iterator",data:=.fields #[.ref t,.int 0 0] }).objs.size=s.heap.objs.size+1:=RI ..;have:=h ((s.heap.push { cls:=.type "tuple_iterator",data:=.fields #[.ref t,.int 0 0] }).push { cls:=.type "enumerate",data:=.fields #[.none,.bool false,.ref s.heap.objs.size,rawInt 0,.none,.none] }) (by have e:=O5 (s.heap.push { cls:=.type "tuple_iterator",data:=.fields #[.ref t,.int 0 0] }) (o:={ cls:=.type "enumerate",data:=.fields #[.none,.bool false,.ref s.heap.objs.size,rawInt 0,.none,.none] }) rfl;rw[hl] at e;exact e) ⟨_,OR _ (O5 _ rfl),rfl,rfl⟩ (fun b o e=>OR _ (OR _ e))
  rw[<-hl] at this;exact this
 split
 ·rename_i c _ _ _ _ _;generalize (c == Value.type "enumerate")=b;cases b with
  | true=>exact OP (m:=pure (Value.ref t,none)) (O2 fin)
  | false=>exact OP (m:=pure (Value.ref t,none)) (O2 fin)
 ·exact OP (m:=pure (Value.ref t,none)) (O2 fin)
theorem xi {E:Value->Shared->Prop}{s:Shared}{Q:Value->Shared->Prop}(ht:s.heap.IsTuple t items)(h:∀h',IsEnum h' (s.heap.objs.size+1) s.heap.objs.size 0 .none->h'.IsTupleIter s.heap.objs.size t 0->(∀b o,s.heap.get? b=some o->h'.get? b=some o)->Q (.ref (s.heap.objs.size+1)) { s with heap:=h' }) :
  wpAny (model prog w) A (call (.type "enumerate") [.ref t]) Q E s:=by
 refine callType_new F.called_enumerate rfl (F.typeCall_enumerate_1 _) (F.newCall_enumerate_1 _) (fun obj=>?_) F.entry_enumerate_new (vI t items) ⟨ht,fun h' k1 k2 k3=>⟨⟨_,k1,rfl⟩,h h' k1 k2 k3⟩⟩;exact F.args_object_init_2 _ _
noncomputable def Ite (K:W.Frag)(a:Addr):L2.It :=
 ⟨fun i H=>∃xs x,SqT K H a xs/\xs[i]?=some x,
  fun i H v H'=>∃T,v=.ref T/\H T=none/\∀xs x,SqT K H a xs->xs[i]?=some x->H'=upd H T (.tup [.int i,x]),
  fun i H=>∃xs,SqT K H a xs/\i=xs.length⟩
def JQ (a e it:Addr)(i:Nat)(h:Heap):Prop:=(∃old,IsEnum h e it (i:Int) old)/\h.IsTupleIter it a i
theorem AM {P:Program}{w:World}{K:W.Frag}{elts:List Expr}{kt:Nat}{pt:Pos}{a e it:Addr}(h1:e≠it)(h2:a≠e)(h3:a≠it) :
  vo P w K (.Tuple elts kt pt) (Ite K a) [e,it] e (JQ a e it) where
 mem:=by simp
 obj:=fun i h st c hc=>by
  obtain⟨⟨old,q1⟩,⟨o4,e4,c4,d4⟩⟩:=st;simp only[List.mem_cons,List.not_mem_nil,or_false] at hc;rcases hc with rfl|rfl
  ·exact⟨_,q1,fun v z=>nomatch z⟩
  ·exact⟨o4,e4,fun v z=>by rw[d4] at z;cases z⟩
 keep:=fun i h h' st k=>by obtain⟨⟨old,q1⟩,q2⟩:=st;exact⟨⟨old,k e (by simp) _ q1⟩,rn (fun o z=>k it (by simp) o z) q2⟩
 item:=by
  intro X hP hw hK hc i pins s σ H E I hf st hg;subst hP hw hK;obtain⟨xs,x,hq1,hx⟩:=hg;obtain⟨its1,rv1,p1,hz1⟩:=I.tuple hq1;obtain⟨u1,hu1,ru1⟩:=rv1.get hx;have W:=WalksT.enumerateD (A:=X.A) (oq (prog:=X.prog) (w:=X.w) (A:=X.A.in1) (I.ok.hd hc) it a h3 its1.toArray) e h1 (by simp[h1,Ne.symm h2]) (by simp);obtain⟨q1,q2⟩:=st;have l1:=(OT.mp hu1).1;have tp:s.heap.IsTuple a its1.toArray:=p1;refine W.item i s _ _ (by rw[PH];exact l1) ⟨q1,q2,tp⟩ fun T vals h' tk hv hT isT mid kk=>?_;obtain⟨tt,v1,e1,rfl⟩:=hv;have z1:v1=u1:=by
   (have:its1[i]?=some v1:=by simpa using e1);rw[hu1] at this;cases this;rfl
  subst z1;refine⟨_,rfl,W.go elts kt pt i T { s with heap:=h',toks:=tk } _ _ mid fun h'' st'' kk2=>?_⟩;have ap:=W.apart i T h' mid;obtain⟨o,eo,c,d⟩:=isT;have I2:L2.Inv X pins σ (upd H T (.tup [.int i,x])) { s with heap:=h'',toks:=tk }:=y7 (its:=[.int i tt,v1]) I (fun b o hb z=>kk2 b o hb (kk b o hb z)) (fun b hb=>hf b (by simpa using hb)) hT (.cons ⟨tt,rfl⟩ (.cons ru1 .nil)) (by simp[sizeLine]) ⟨o,kk2 T o ap eo,c,d⟩;refine⟨.ref T,_,I2,rfl,⟨T,rfl,I.hok.fresh hT,fun xs' x' k1 k2=>?_⟩,⟨st''.1,st''.2.1⟩,fun b hb=>?_⟩
  ·rw[I.tuple_inj k1 hq1,hx] at k2;cases k2;rfl
  ·have hlt:b<s.heap.objs.size:=by
    simp only[List.mem_cons,List.not_mem_nil,or_false] at hb;obtain⟨old,q1⟩:=q1;obtain⟨o5,e5,_⟩:=q2;rcases hb with rfl|rfl
    ·exact O3 q1
    ·exact O3 e5
   rw[ao (PN (OW hlt hT))];exact(hf b hb).1
 done:=by intro X hP hw hK hc i pins s σ H E I hf st hg;subst hP hw hK;obtain⟨xs,hq1,rfl⟩:=hg;obtain⟨its1,rv1,p1,hz1⟩:=I.tuple hq1;have W:=WalksT.enumerateD (A:=X.A) (oq (prog:=X.prog) (w:=X.w) (A:=X.A.in1) (I.ok.hd hc) it a h3 its1.toArray) e h1 (by simp[h1,Ne.symm h2]) (by simp);obtain⟨q1,q2⟩:=st;rw[rv1.length] at q1 q2;exact W.done s _ _ ⟨by simpa using q1,by simpa using q2,p1⟩ fun h' tk kk=>⟨rfl,zD I kk fun b hb=>hf b (by simpa using hb)⟩
 self:=fun _ _ _ _ _ st h=>by obtain⟨⟨old,q1⟩,_⟩:=st;exact wpAny_pyIter_enum q1 h
section
variable {X:Cx}
noncomputable def MC (K:W.Frag)(ta:TA):TI:=fun σ H R=>ta σ H fun vs H1=>∃a,vs=[.ref a]/\(∃xs,SqT K H1 a xs)/\R (Ite K a) H1
theorem D8 {kt:Nat}{a:Expr}(hg:Gl X "enumerate")(hm:X.mg "enumerate"=none)(ha:PA X [a] ta)(hs:starEach [a] X.env=[(false,eval a X.env)]) :
  PI X (.Tuple elts kt pt) (.Call (.Name "enumerate" p) [a] [] pos) (MC X.K ta):=by
 intro pins s σ H R I h;refine Call_ (jy I hg hm boot_enumerate (P_ (thn (ha pos pins s σ H _ I h) fun us s1 ⟨vs,H1,I1,r1,q1⟩=>?_) (by rw[hs];rfl) rfl));obtain⟨l1,e,⟨xs,hq1⟩,q⟩:=q1;subst e;cases r1 with
 | cons r rr =>
  cases rr;cases r;obtain⟨its1,rv1,p1,hz1⟩:=I1.tuple hq1;have tp:s1.heap.IsTuple l1 its1.toArray:=p1;have lt1:l1<s1.heap.objs.size:=by obtain⟨_,e,_⟩:=tp;exact O3 e
  refine xi tp fun h' k1 k2 kk=>?_;refine wpAny_pyIter_enum k1 ?_;refine⟨_,_,_,_,H1,rfl,I1.kept (t':=s1.toks) kk,AM (Nat.succ_ne_self _) (PN (Nat.lt_succ_of_lt lt1)) (PN lt1),⟨⟨_,k1⟩,k2⟩,fun b hb=>?_,q⟩;have hb':s1.heap.objs.size<=b:=by simp only[List.mem_cons,List.not_mem_nil,or_false] at hb;rcases hb with rfl|rfl <;> first|exact OX _|exact Q1 _ _
  exact I1.fpOk hb' (I1.hok.fresh hb')
end
theorem nj:∀ {xs:List PV}{i:Int},(i7 i xs).length=xs.length
 | [],i=>by simp[i7]
 | x::xs,i=>by simp only[i7,List.length_cons,nj (xs:=xs)]
theorem mX:∀ {xs:List PV}{k:Int}{i:Nat}{v:PV},(i7 k xs)[i]?=some v->∃x,xs[i]?=some x/\v=.tup [.int (k+i),x]
 | [],k,i,v,h=>by simp[i7] at h
 | x::xs,k,0,v,h=>by simp[i7] at h;exact⟨x,rfl,by rw[<-h];simp⟩
 | x::xs,k,i+1,v,h=>by
  simp only[i7,List.getElem?_cons_succ] at h |-
  obtain⟨y,e,rfl⟩:=mX h;refine⟨y,e,?_⟩;rw[show k+1+(i:Int)=k+((i+1:Nat):Int) by omega]
theorem A6 (h:SqT K H0 a ys)(r0:Rs K m0 H0 xs ys):q9 K (Ite K a) (i7 0 xs) (fun _=>True) m0 H0:=by refine⟨fun m H st x r q=>⟨ys,x.tup _ _ h,by rw[nj,r0.len]⟩,fun i v m H st x r q ev=>?_⟩;obtain⟨u,e1,rfl⟩:=mX ev;obtain⟨y1,f1,q1⟩:=r0.get e1;refine⟨⟨ys,y1,x.tup _ _ h,f1⟩,?_⟩;rintro z H' ⟨T,rfl,hT,hh⟩;have:=hh ys y1 (x.tup _ _ h) f1;subst this;refine⟨Ext.newT r hT,r.newT hT,R_tup.mpr ⟨T,[.int i,y1],rfl,SqT.of bq,?_⟩⟩;rw[Rs_cons',Rs_cons',Rs_nil,R_int];exact⟨by simp,(q1.mono x).mono (Ext.newT r hT),rfl⟩
end FW
namespace FW
open L2 HX
structure Zs where
 it:Addr
 c:Bool × Addr
 xs:Array Value
noncomputable abbrev Zs.a (q:Zs):Addr:=q.c.2
def ItB (h:Heap)(it:Addr)(c:Bool × Addr)(i:Nat):Prop:=if c.1=true then h.IsListIter it c.2 i else h.IsTupleIter it c.2 i
def SeqB (h:Heap)(c:Bool × Addr)(xs:Array Value):Prop:=if c.1=true then h.IsList c.2 xs else h.IsTuple c.2 xs
theorem ItB.keep {h':Heap}{i:Nat}(z:ItB h it c i)(k:∀o,h.get? it=some o->h'.get? it=some o):ItB h' it c i:=by
 obtain⟨b,a⟩:=c;cases b with
 | true=>exact(show h.IsListIter it a i from z).at k
 | false=>exact rn k (show h.IsTupleIter it a i from z)
theorem ItB.obj {i:Nat}(z:ItB h it c i):∃o vs,h.get? it=some o/\o.data=.fields vs:=by
 obtain⟨b,a⟩:=c;cases b with
 | true=>obtain⟨o,e,_,d⟩:=(show h.IsListIter it a i from z);exact⟨o,_,e,d⟩
 | false=>obtain⟨o,e,_,d⟩:=(show h.IsTupleIter it a i from z);exact⟨o,_,e,d⟩
theorem SeqB.keep {h':Heap}(z:SeqB h c xs)(k:∀o,h.get? c.2=some o->h'.get? c.2=some o):SeqB h' c xs:=by
 obtain⟨b,a⟩:=c;cases b with
 | true=>exact(show h.IsList a xs from z).at k
 | false=>exact rp k (show h.IsTuple a xs from z)
def SrcAt (h:Heap)(q:Zs)(i:Nat):Prop:=ItB h q.it q.c i/\SeqB h q.c q.xs
theorem SrcAt.keep {h':Heap}{i:Nat}(z:SrcAt h q i)(k1:∀o,h.get? q.it=some o->h'.get? q.it=some o)(k2:∀o,h.get? q.a=some o->h'.get? q.a=some o):SrcAt h' q i:=⟨z.1.keep k1,z.2.keep k2⟩
theorem SrcAt.obj {i:Nat}(z:SrcAt h q i):∃o vs,h.get? q.it=some o/\o.data=.fields vs:=z.1.obj
section
variable {prog:Program}{w:World}{A:Around}{E:Value->Shared->Prop}{s:Shared}{q:Zs}{i:Nat}
theorem vq {Q:Value->Shared->Prop}(hne:q.a≠q.it)(h:SrcAt s.heap q i)(hx:q.xs[i]?=some x)(hQ:∀h',SrcAt h' q (i+1)->Heap.SameBut q.it s.heap h'->Q x { s with heap:=h' }):wpAny (model prog w) A (Builtin.SmallTypes.nextOf (.ref q.it)) Q E s:=by
 obtain⟨it,⟨b,a⟩,xs⟩:=q;obtain⟨z1,z2⟩:=h;cases b with
 | true=>exact wpAny_nextOf_list_item (show s.heap.IsListIter it a i from z1) (show s.heap.IsList a xs from z2) hx fun h' k1 k2=>hQ h' ⟨k1,z2.keep fun o e=>by rw[k2.2 _ hne];exact e⟩ k2
 | false=>exact k7 (show s.heap.IsTupleIter it a i from z1) (show s.heap.IsTuple a xs from z2) hx fun h' k1 k2=>hQ h' ⟨k1,z2.keep fun o e=>by rw[k2.2 _ hne];exact e⟩ k2
theorem E3 (hh:A.handled=none)(h:SrcAt s.heap q i)(hx:q.xs[i]?=none)(hE:∀h' e,Heap.ExtBut q.it s.heap h'->(∃o,h'.get? e=some o/\o.cls=.type "StopIteration")->E (.ref e) { s with heap:=h' }):wpAny (model prog w) A (Builtin.SmallTypes.nextOf (.ref q.it)) Q E s:=by
 obtain⟨it,⟨b,a⟩,xs⟩:=q;obtain⟨z1,z2⟩:=h;cases b with
 | true=>exact wpAny_nextOf_list_end hh (show s.heap.IsListIter it a i from z1) (show s.heap.IsList a xs from z2) hx hE
 | false=>exact oA hh (show s.heap.IsTupleIter it a i from z1) (show s.heap.IsTuple a xs from z2) hx hE
theorem Ee {Q:Value->Shared->Prop}(h:SeqB s.heap c xs)(hQ:∀o,ItB (s.heap.push o) s.heap.objs.size c 0->Q (.ref s.heap.objs.size) { s with heap:=s.heap.push o }):wpAny (model prog w) A (pyIter (.ref c.2)) Q E s:=by
 obtain⟨b,a⟩:=c;cases b with
 | true=>exact wpAny_pyIter_list (show s.heap.IsList a xs from h) (hQ _ ⟨_,O5 _ rfl,rfl,rfl⟩)
 | false=>exact wpAny_pyIter_tuple (show s.heap.IsTuple a xs from h) (hQ _ ⟨_,O5 _ rfl,rfl,rfl⟩)
end
noncomputable abbrev dY (xs:List Value):Obj:={ cls:=.type "tuple",data:=.seq xs.toArray }
structure ZA (z TI TO:Addr)(ss:List Zs):Prop where
 nd:(z::TI::TO::ss.map Zs.it).Nodup
 ap:∀q∈ss,q.a ∉ z::TI::TO::ss.map Zs.it
section
variable {prog:Program}{w:World}{A:Around}{E:Value->Shared->Prop}{z TI TO:Addr}{i:Nat}
def Bt (prog:Program)(w:World)(A:Around)(z TI TO:Addr)(f:Value × Nat->Option Fin × Unit->Sem (ForInStep (Option Fin × Unit))):Prop :=
 ∀(it:Addr) (k:Nat) (s:Shared) (R:ForInStep (Option Fin × Unit)->Shared->Prop) (E:Value->Shared->Prop),
  wpAny (model prog w) A (Builtin.SmallTypes.nextOf (.ref it)) (fun x s1=>∃arr,s1.heap.get? TO=some (dY arr)/\arr.length<=sizeLine/\∀h',h'.get? TO=some (dY (arr.set k x))->Heap.SameBut TO s1.heap h'->R (.yield (none,())) { s1 with heap:=h' })
   (fun e s1=>IsZip s1.heap z TI TO .ellipsis/\∀h',IsZip h' z TI TO .none->Heap.SameBut z s1.heap h'->E e { s1 with heap:=h' }) s ->
  wpAny (model prog w) A (f (.ref it,k) (none,())) R E s
theorem pD {f:Value × Nat->Option Fin × Unit->Sem (ForInStep (Option Fin × Unit))}(hf:Bt prog w A z TI TO f):∀ {ss dn:List Zs}{dx xs arr:List Value}{s:Shared}{R:Option Fin × Unit->Shared->Prop},ZA z TI TO (dn++ss)->(dn++ss).length<=sizeLine ->
  Paired (fun (q:Zs) (x:Value)=>q.xs[i]?=some x) ss xs->dx.length=dn.length->arr.length=ss.length->IsZip s.heap z TI TO .ellipsis->s.heap.get? TO=some (dY (dx++arr))->(∀q∈dn,SrcAt s.heap q (i+1))->(∀q∈ss,SrcAt s.heap q i) ->
  (∀h',IsZip h' z TI TO .ellipsis->h'.get? TO=some (dY (dx++xs))->(∀q∈dn++ss,SrcAt h' q (i+1))->h'.objs.size=s.heap.objs.size->(∀c o,c ∉ TO::(dn++ss).map Zs.it->s.heap.get? c=some o->h'.get? c=some o)->R (none,()) { s with heap:=h' }) ->
  wpAny (model prog w) A (forIn ((ss.map fun q=>Value.ref q.it).zipIdx dn.length) (none,()) f) R E s:=by
 intro ss
 induction ss with
 | nil =>intro dn dx xs arr s R ap hsz hp hl ha hz hTO h1 h2 hR;cases hp;have:arr=[]:=QX.mp ha;subst this;exact O2 (hR s.heap hz hTO (by simpa using h1) rfl fun c o _ e=>e)
 | cons q ss ih =>
  intro dn dx xs arr s R ap hsz hp hl ha hz hTO h1 h2 hR;cases hp with
  | @cons _ x _ xs hx hp =>
  cases arr with
  | nil=>simp at ha
  | cons b arr =>
  rw[O8,List.zipIdx_cons,RO];have nd:=ap.nd;have qm:q∈dn++q::ss:=by simp
  have im:q.it∈(dn++q::ss).map Zs.it:=O9.mpr ⟨q,qm,rfl⟩;have zi:z≠q.it:=fun e=>by have:=(O4.mp nd).1;exact this (by simp[e])
  have ti:TO≠q.it:=fun e=>by have:=(O4.mp (O4.mp (O4.mp nd).2).2).1;exact this (by rw[e];exact im)
  have zt:z≠TO:=fun e=>by have:=(O4.mp nd).1;exact this (by simp[e])
  have ni:=(O4.mp (O4.mp (O4.mp nd).2).2).2;have oth:∀p,p∈dn\/p∈ss->p.it≠q.it:=fun p hp e=>by
   rw[Q8,O8] at ni;rcases hp with hp|hp
   ·have:=(RS.mp ni).2.2 p.it (O9.mpr ⟨p,hp,rfl⟩) q.it (by simp);exact this e
   ·have:=(O4.mp (RS.mp ni).2.1).1;exact this (by rw[<-e];exact O9.mpr ⟨p,hp,rfl⟩)
  have apa:∀p∈dn++q::ss,p.a≠q.it/\p.a≠TO:=fun p hp=>⟨fun e=>ap.ap p hp (by rw[e];simp),fun e=>ap.ap p hp (by rw[e];simp)⟩;have tot:∀p∈dn++q::ss,p.it≠TO:=fun p hp e=>by have:=(O4.mp (O4.mp (O4.mp nd).2).2).1;exact this (by rw[<-e];exact O9.mpr ⟨p,hp,rfl⟩)
  refine OP (hf q.it dn.length s _ _ ?_);refine vq (apa q qm).1 (h2 q (by simp)) hx fun h' k1 k2=>⟨dx++b::arr,by show h'.get? TO=_;rw[k2.2 TO ti];exact hTO,by rw[PL,hl,ha,<-PL];exact hsz,fun h'' k3 k4=>?_⟩;have both:∀c o,c≠q.it->c≠TO->s.heap.get? c=some o->h''.get? c=some o:=fun c o c1 c2 e=>by rw[k4.2 c c2];show h'.get? c=some o;rw[k2.2 c c1];exact e
  have e3:(dx++b::arr).set dn.length x=(dx++[x])++arr:=by rw[<-hl,SL _ _ (OX _),TZ];simp
  rw[e3] at k3;have ea:dn++q::ss=(dn++[q])++ss:=by simp
  have el:dn.length+1=(dn++[q]).length:=by simp
  show wpAny _ _ (forIn ((ss.map fun q=>Value.ref q.it).zipIdx (dn.length+1)) (none,()) f) R E _;rw[el];refine ih (dn:=dn++[q]) (dx:=dx++[x]) (xs:=xs) (arr:=arr) (by rw[<-ea];exact ap) (by rw[<-ea];exact hsz) hp (by simp[hl]) (by simpa using ha) (both z _ zi zt hz) k3 (fun p hp=>?_) (fun p hp=>?_) fun h3 j1 j2 j3 j4 j5=>?_
  ·rcases P7.mp hp with hp|hp
   ·exact(h1 p hp).keep (fun o e=>both _ o (oth p (.inl hp)) (tot p (by simp[hp])) e) fun o e=>both _ o (apa p (by simp[hp])).1 (apa p (by simp[hp])).2 e
   ·rw[PM] at hp;subst hp;exact k1.keep (fun o e=>by rw[k4.2 _ (Ne.symm ti)];exact e) fun o e=>by rw[k4.2 _ (apa p qm).2];exact e
  ·exact(h2 p (by simp[hp])).keep (fun o e=>both _ o (oth p (.inr hp)) (tot p (by simp[hp])) e) fun o e=>both _ o (apa p (by simp[hp])).1 (apa p (by simp[hp])).2 e
  ·refine hR h3 j1 (by rw[j2];simp) (by rw[ea];exact j3) (by rw[j4,k4.1];exact k2.1) fun c o hc e=>?_;rw[ea] at hc;refine j5 c o hc (both c o (fun z=>hc ?_) (fun z=>hc ?_) e)
   ·rw[z];simp
   ·rw[z];simp
theorem Br {f:Value × Nat->Option Fin × Unit->Sem (ForInStep (Option Fin × Unit))}(hf:Bt prog w A z TI TO f)(hh:A.handled=none):∀ {ss dn:List Zs}{dx arr:List Value}{s:Shared}{R:Option Fin × Unit->Shared->Prop},ZA z TI TO (dn++ss)->(dn++ss).length<=sizeLine ->
  (∃q∈ss,q.xs[i]?=none)->dx.length=dn.length->arr.length=ss.length->IsZip s.heap z TI TO .ellipsis->s.heap.get? TO=some (dY (dx++arr))->(∀q∈ss,SrcAt s.heap q i) ->
  (∀h' e,(∀c o,c ∉ z::TO::(dn++ss).map Zs.it->s.heap.get? c=some o->h'.get? c=some o)->(∃o,h'.get? e=some o/\o.cls=.type "StopIteration")->E (.ref e) { s with heap:=h' }) ->
  wpAny (model prog w) A (forIn ((ss.map fun q=>Value.ref q.it).zipIdx dn.length) (none,()) f) R E s:=by
 intro ss
 induction ss with
 | nil =>intro dn dx arr s R ap hsz hq;obtain⟨q,hq,_⟩:=hq;cases hq
 | cons q ss ih =>
  intro dn dx arr s R ap hsz hq hl ha hz hTO h2 hE;cases arr with
  | nil=>simp at ha
  | cons b arr =>
  rw[O8,List.zipIdx_cons,RO];have nd:=ap.nd;have qm:q∈dn++q::ss:=by simp
  have im:q.it∈(dn++q::ss).map Zs.it:=O9.mpr ⟨q,qm,rfl⟩;have zi:z≠q.it:=fun e=>(O4.mp nd).1 (by simp[e]);have ti:TO≠q.it:=fun e=>(O4.mp (O4.mp (O4.mp nd).2).2).1 (by rw[e];exact im);have zt:z≠TO:=fun e=>(O4.mp nd).1 (by simp[e]);have ni:=(O4.mp (O4.mp (O4.mp nd).2).2).2;have oth:∀p,p∈ss->p.it≠q.it:=fun p hp e=>by rw[Q8,O8] at ni;exact(O4.mp (RS.mp ni).2.1).1 (by rw[<-e];exact O9.mpr ⟨p,hp,rfl⟩)
  have apa:∀p∈dn++q::ss,p.a≠q.it/\p.a≠TO:=fun p hp=>⟨fun e=>ap.ap p hp (by rw[e];simp),fun e=>ap.ap p hp (by rw[e];simp)⟩;have tot:∀p∈dn++q::ss,p.it≠TO:=fun p hp e=>(O4.mp (O4.mp (O4.mp nd).2).2).1 (by rw[<-e];exact O9.mpr ⟨p,hp,rfl⟩);refine OP (hf q.it dn.length s _ _ ?_);cases hx:q.xs[i]? with
  | none =>
   refine E3 hh (h2 q (by simp)) hx fun h' e k1 k2=>?_;have hz2:IsZip h' z TI TO .ellipsis:=k1 _ _ zi hz;obtain⟨oe,he,hc⟩:=k2;have ez:e≠z:=fun z=>by subst z;rw[hz2] at he;cases he;simp at hc
   refine⟨hz2,fun h'' _ k4=>hE h'' e (fun c o hc e=>?_) ⟨oe,by rw[k4.2 e ez];exact he,hc⟩⟩;rw[k4.2 c (fun z=>hc (by rw[z];simp))];exact k1 c o (fun z=>hc (by rw[z];simp)) e
  | some x =>
   refine vq (apa q qm).1 (h2 q (by simp)) hx fun h' k1 k2=>⟨dx++b::arr,by show h'.get? TO=_;rw[k2.2 TO ti];exact hTO,by rw[PL,hl,ha,<-PL];exact hsz,fun h'' k3 k4=>?_⟩;have both:∀c o,c≠q.it->c≠TO->s.heap.get? c=some o->h''.get? c=some o:=fun c o c1 c2 e=>by rw[k4.2 c c2];show h'.get? c=some o;rw[k2.2 c c1];exact e
   have e3:(dx++b::arr).set dn.length x=(dx++[x])++arr:=by rw[<-hl,SL _ _ (OX _),TZ];simp
   rw[e3] at k3;have ea:dn++q::ss=(dn++[q])++ss:=by simp
   have el:dn.length+1=(dn++[q]).length:=by simp
   show wpAny _ _ (forIn ((ss.map fun q=>Value.ref q.it).zipIdx (dn.length+1)) (none,()) f) R E _;rw[el];obtain⟨p,hp,hn⟩:=hq;have hp':p∈ss:=by
    rcases PQ.mp hp with rfl|h
    ·rw[hx] at hn;cases hn
    ·exact h
   refine ih (dn:=dn++[q]) (dx:=dx++[x]) (arr:=arr) (by rw[<-ea];exact ap) (by rw[<-ea];exact hsz) ⟨p,hp',hn⟩ (by simp[hl]) (by simpa using ha) (both z _ zi zt hz) k3 (fun p hp=>?_) fun h3 e j1 j2=>hE h3 e (fun c o hc e=>?_) j2
   ·exact(h2 p (by simp[hp])).keep (fun o e=>both _ o (oth p hp) (tot p (by simp[hp])) e) fun o e=>both _ o (apa p (by simp[hp])).1 (apa p (by simp[hp])).2 e
   ·rw[ea] at hc;refine j1 c o hc (both c o (fun z=>hc ?_) (fun z=>hc ?_) e)
    ·rw[z];simp
    ·rw[z];simp
theorem Jr {s:Shared}{k:Nat}{Q:Unit->Shared->Prop}(hT:s.heap.get? TO=some (dY xs))(hs:xs.length<=sizeLine)(h:∀h',h'.get? TO=some (dY (xs.set k x))->Heap.SameBut TO s.heap h'->Q () { s with heap:=h' }) :
  wpAny (model prog w) A (updateSeq TO fun v=>v.setIfInBounds k x) Q E s:=by
 refine wpAny_updateSeq hT rfl (h _ ?_ (Heap.SameBut.update _ _ _)) (by simpa using hs) (by simp;omega);rw[Q5 _ hT rfl];simp[Obj.mapSeq]
theorem Di {s:Shared}{T:Addr}{Q:Unit->Shared->Prop}(hz:IsZip s.heap z TI TO .ellipsis)(h:∀h',IsZip h' z TI TO (rawInt T)->Heap.SameBut z s.heap h'->Q () { s with heap:=h' }):wpAny (model prog w) A (Builtin.SmallTypes.ownedTupleHandOut (.ref z) (.ref T)) Q E s:=by refine OP (wpAny_setField_rec hz (RZ _) fun h1 k1 k2=>?_);have k1:IsZip h1 z TI TO (rawInt T):=k1;refine wpAny_setField_rec k1 (Nat.succ_lt_succ (RZ _)) fun h2 k3 k4=>?_;exact h h2 k3 ⟨k4.1.trans k2.1,fun c hc=>(k4.2 c hc).trans (k2.2 c hc)⟩
theorem vW {s:Shared}{ss:List Zs}{Q:Fin->Shared->Prop}(hz:IsZip s.heap z TI TO .none)(hTI:s.heap.get? TI=some (dY (ss.map fun q=>Value.ref q.it)))(hTO:s.heap.get? TO=some (dY arr))(hne:ss≠[])(h:∀f h',Bt prog w A z TI TO f->IsZip h' z TI TO .ellipsis->Heap.SameBut z s.heap h'->wpAny (model prog w) A (forIn ((ss.map fun q=>Value.ref q.it).zipIdx 0) (none,()) f) (fun r s1=>r.1=none/\IsZip s1.heap z TI TO .ellipsis/\∃xs,s1.heap.get? TO=some (dY xs)/\xs.length<=sizeLine /\
   ∀h2,IsZip h2 z TI TO (rawInt s1.heap.objs.size)->h2.get? s1.heap.objs.size=some (dY xs)->h2.objs.size=s1.heap.objs.size+1->(∀c o,c≠z->s1.heap.get? c=some o->h2.get? c=some o)->Q (.done (.ret (.ref s1.heap.objs.size))) { s1 with heap:=h2 }) E { s with heap:=h' }) :
  wpAny (model prog w) A (Builtin.«zip.__next__» ⟨[.ref z],[]⟩) Q E s:=by
 have hemp:(ss.map fun q=>Value.ref q.it).toArray.isEmpty=false:=by
  cases ss with
  | nil=>exact absurd rfl hne
  | cons a b=>rfl
 refine OP (O2 ?_);refine OP (wpAny_field (i:=2) hz rfl rfl ?_);refine OP (wpAny_field (i:=3) hz rfl rfl ?_);refine OP (wpAny_seqItems hTI rfl ?_);dsimp only;rw[hemp];simp only[Bool.false_eq_true,if_false];refine OP (OP (wpAny_field (i:=0) hz rfl rfl (O2 ?_)));rw[O0 rfl];refine OP (wpAny_rule ?_);refine OP (wpAny_field (i:=4) hz rfl rfl ?_);refine OP (wpAny_setField_rec hz (RZ _) fun h1 k1 k2=>?_);refine OP (wpAny_mono (h _ h1 ?_ k1 k2) (fun r s1 hr=>?_) fun _ _ e=>e)
 ·intro it k s2 R E2 hw;refine OP (wpAny_onRaise ?_);refine OP (m:=Builtin.SmallTypes.nextOf (.ref it)) (wpAny_mono hw (fun x s3 hx=>?_) fun e s3 he=>?_)
  ·obtain⟨arr,e1,e0,e2⟩:=hx;refine O2 ?_;refine OP (wpAny_seqItems e1 rfl ?_);refine OP (Jr e1 e0 fun h' q1 q2=>?_);exact OP (wpAny_letGo (O2 (e2 h' q1 q2)))
  ·exact wpAny_setField_rec he.1 (RZ _) fun h' q1 q2=>he.2 h' q1 q2
 ·obtain⟨hn,z1,xs,t1,lx,q⟩:=hr;rw[hn];refine OP (wpAny_seqItems t1 rfl ?_);refine OP (wpAny_newTuple ?_ lx);have z2:IsZip (s1.heap.push (dY xs)) z TI TO .ellipsis:=OR _ z1;refine OP (Di (s:={ s1 with heap:=s1.heap.push (dY xs) }) z2 fun h' q1 q2=>O2 ?_);have nz:s1.heap.objs.size≠z:=fun e=>absurd (O3 z1) (by rw[<-e];exact QV _);refine q h' q1 (by rw[q2.2 _ nz];exact O5 _ rfl) (q2.1.trans (RI _ _)) fun c o hc e=>?_;rw[q2.2 c hc];exact OR _ e
def ZSt (z TI TO:Addr)(its:List Addr)(h:Heap):Prop:=IsZip h z TI TO .none/\h.get? TI=some (dY (its.map Value.ref))/\∃arr,arr.length=its.length/\h.get? TO=some (dY arr)
theorem DN {ss:List Zs}:(ss.map fun q=>Value.ref q.it)=(ss.map Zs.it).map Value.ref:=by rw[RA];rfl
theorem Cv {s:Shared}{Q:Option Value->Shared->Prop}(ap:ZA z TI TO ss)(hne:ss≠[])(hs:ss.length<=sizeLine)(hz:ZSt z TI TO (ss.map Zs.it) s.heap)(h1:∀q∈ss,SrcAt s.heap q i)(hp:Paired (fun (q:Zs) (x:Value)=>q.xs[i]?=some x) ss xs)(hQ:∀h' T,s.heap.objs.size<=T->IsZip h' z TI TO (rawInt T)->h'.get? TI=some (dY ((ss.map Zs.it).map Value.ref))->h'.get? TO=some (dY xs)->(∀q∈ss,SrcAt h' q (i+1))->h'.get? T=some (dY xs)->T ∉ z::TI::TO::ss.map Zs.it->(∀c o,c ∉ z::TI::TO::ss.map Zs.it->s.heap.get? c=some o->h'.get? c=some o)->Q (some (.ref T)) { s with heap:=h' }) :
  wpAny (model prog w) A (pyNext (.ref z)) Q E s:=by
 obtain⟨z1,t1,arr,la,t2⟩:=hz;have hT:s.TypeIs (.ref z) "zip":=⟨_,z1,rfl⟩;have nd:=ap.nd;have TIz:TI≠z:=fun e=>(O4.mp nd).1 (by simp[e]);have TOz:TO≠z:=fun e=>(O4.mp nd).1 (by simp[e]);have itz:∀q∈ss,q.it≠z:=fun q hq e=>(O4.mp nd).1 (by rw[<-e];simp;exact .inr (.inr ⟨q,hq,rfl⟩));have az:∀q∈ss,q.a≠z:=fun q hq e=>ap.ap q hq (by rw[e];simp);have TIn:=(O4.mp (O4.mp nd).2).1;refine OP (wpAny_attempt (wpAny_callSpecial?_slot hT SX (wpAny_call_entry SX hT F.entry_zip_next ?_ (F.args_zip_next_1 _))));refine vW (arr:=arr) z1 (by rw[DN];exact t1) t2 hne fun f h1' hf k1 k2=>?_;have src:∀q∈ss,SrcAt h1' q i:=fun q hq=>(h1 q hq).keep (fun o e=>by rw[k2.2 _ (itz q hq)];exact e) fun o e=>by rw[k2.2 _ (az q hq)];exact e
 have lp:=hp.length;refine pD (dn:=[]) (dx:=[]) (s:={ s with heap:=h1' }) hf ap hs hp rfl (by rw[la,O1]) k1 (by rw[k2.2 _ TOz];exact t2) (fun q hq=>nomatch hq) src fun h2 j1 j2 j3 j4 j5=>?_;refine⟨rfl,j1,xs,j2,by rw[<-lp];exact hs,fun h3 m1 m2 m3 m4=>⟨_,rfl,O2 ?_⟩⟩;have big:∀c o,s.heap.get? c=some o->c≠h2.objs.size:=fun c o e z=>by have:=O3 e;rw[z,j4,k2.1] at this;exact absurd this (QV _)
 have all:∀c o,c ∉ z::TI::TO::ss.map Zs.it->s.heap.get? c=some o->h3.get? c=some o:=fun c o hc e=>by
  refine m4 c o (fun z=>hc (by rw[z];simp)) (j5 c o (fun z=>hc ?_) ?_)
  ·rcases PQ.mp z with z|z
   ·rw[z];simp
   ·exact OV _ (OV _ (OV _ z))
  ·show h1'.get? c=some o;rw[k2.2 c (fun z=>hc (by rw[z];simp))];exact e
 refine hQ h3 _ (by rw[j4,k2.1];exact OX _) m1 ?_ (m4 _ _ TOz j2) (fun q hq=>(j3 q hq).keep (fun o e=>m4 _ o (itz q hq) e) fun o e=>m4 _ o (az q hq) e) m2 (fun hm=>?_) all
 ·refine m4 _ _ TIz (j5 _ _ (fun z=>TIn ?_) ?_)
  ·exact z
  ·show h1'.get? TI=_;rw[k2.2 _ TIz];exact t1
 ·simp only[List.mem_cons] at hm;rcases hm with e|e|e|e
  ·exact big z _ z1 e.symm
  ·exact big TI _ t1 e.symm
  ·exact big TO _ t2 e.symm
  ·obtain⟨q,hq,e⟩:=O9.mp e;obtain⟨o,_,eo,_⟩:=(h1 q hq).obj;exact big _ _ eo e
theorem DJ {s:Shared}{Q:Option Value->Shared->Prop}(hh:A.handled=none)(ap:ZA z TI TO ss)(hs:ss.length<=sizeLine)(hz:ZSt z TI TO (ss.map Zs.it) s.heap)(h1:∀q∈ss,SrcAt s.heap q i)(hn:∃q∈ss,q.xs[i]?=none)(hQ:∀h',(∀c o,c ∉ z::TI::TO::ss.map Zs.it->s.heap.get? c=some o->h'.get? c=some o)->Q none { s with heap:=h' }):wpAny (model prog w) A (pyNext (.ref z)) Q E s:=by
 obtain⟨z1,t1,arr,la,t2⟩:=hz;have hT:s.TypeIs (.ref z) "zip":=⟨_,z1,rfl⟩;have nd:=ap.nd;have TOz:TO≠z:=fun e=>(O4.mp nd).1 (by simp[e]);have itz:∀q∈ss,q.it≠z:=fun q hq e=>(O4.mp nd).1 (by rw[<-e];simp;exact .inr (.inr ⟨q,hq,rfl⟩));have az:∀q∈ss,q.a≠z:=fun q hq e=>ap.ap q hq (by rw[e];simp);have hne:ss≠[]:=fun e=>by obtain⟨q,hq,_⟩:=hn;rw[e] at hq;cases hq
 refine OP (wpAny_attempt (wpAny_callSpecial?_slot hT SX (wpAny_call_entry SX hT F.entry_zip_next ?_ (F.args_zip_next_1 _))));refine vW (arr:=arr) z1 (by rw[DN];exact t1) t2 hne fun f h1' hf k1 k2=>?_;have src:∀q∈ss,SrcAt h1' q i:=fun q hq=>(h1 q hq).keep (fun o e=>by rw[k2.2 _ (itz q hq)];exact e) fun o e=>by rw[k2.2 _ (az q hq)];exact e
 refine Br (A:=A.in1) (dn:=[]) (dx:=[]) (s:={ s with heap:=h1' }) hf hh ap hs hn rfl (by rw[la,O1]) k1 (by rw[k2.2 _ TOz];exact t2) src fun h2 e j1 j2=>?_;refine OP (wpAny_isInstance (T:="StopIteration") (b:=true) j2 isSubtype_stop (O2 (hQ h2 fun c o hc e=>?_)));refine j1 c o (fun z=>hc ?_) ?_
 ·rcases PQ.mp z with z|z
  ·rw[z];simp
  ·rcases PQ.mp z with z|z
   ·rw[z];simp
   ·exact OV _ (OV _ (OV _ z))
 ·show h1'.get? c=some o;rw[k2.2 c (fun z=>hc (by rw[z];simp))];exact e
end
def SqB (K:W.Frag)(H:Hp)(c:Bool × Addr)(xs:List V):Prop:=if c.1=true then SqL K H c.2 xs else SqT K H c.2 xs
noncomputable def Itn (K:W.Frag)(cs:List (Bool × Addr)):L2.It :=
 ⟨fun i H=>∃xss ys,Paired (SqB K H) cs xss/\Paired (fun (xs:List V) (y:V)=>xs[i]?=some y) xss ys,
  fun i H v H'=>∃T,v=.ref T/\H T=none/\∀xss ys,Paired (SqB K H) cs xss->Paired (fun (xs:List V) (y:V)=>xs[i]?=some y) xss ys->H'=upd H T (.tup ys),
  fun i H=>∃xss,Paired (SqB K H) cs xss/\∃xs∈xss,xs.length=i⟩
theorem t4 {α β:Type}{F:α->β->Prop}:∀ {l:List α}{r:List β}{a:α},Paired F l r->a∈l->∃b∈r,F a b
 | _,_,_,.nil,h=>nomatch h
 | _,_,_,.cons f t,h=>by
  rcases PQ.mp h with rfl|h
  ·exact⟨_,by simp,f⟩
  ·obtain⟨b,h1,h2⟩:=t4 t h;exact⟨b,by simp[h1],h2⟩
theorem xS {X:Cx}{pins:List (Addr × Obj)}{σ:L2.St}{H:Hp}{s:Shared}{i:Nat}(I:L2.Inv X pins σ H s):∀ {its:List Addr}{cs:List (Bool × Addr)}{xss:List (List V)},Paired (fun it c=>ItB s.heap it c i) its cs->Paired (SqB X.K H) cs xss ->
  ∃ss:List Zs,ss.map Zs.it=its/\ss.map Zs.c=cs/\(∀q∈ss,SrcAt s.heap q i)/\Paired (fun (q:Zs) (xs:List V)=>Vals xs q.xs.toList) ss xss
 | _,_,_,.nil,.nil=>⟨[],rfl,rfl,fun q hq=>(nomatch hq),.nil⟩
 | _,_,_,.cons (a:=it) (b:=c) h1 t1,.cons (b:=xs) h2 t2=>by
  obtain⟨ss,e1,e2,e3,e4⟩:=xS I t1 t2;obtain⟨b,a⟩:=c;cases b with
  | true =>
   obtain⟨its1,rv1,p1,hz1⟩:=I.list (show SqL X.K H a xs from h2);refine⟨⟨it,(true,a),its1.toArray⟩::ss,by rw[O8,e1],by rw[O8,e2],fun q hq=>?_,.cons (by simpa using rv1) e4⟩;rcases PQ.mp hq with rfl|hq
   ·exact⟨h1,p1.isList⟩
   ·exact e3 q hq
  | false =>
   obtain⟨its1,rv1,p1,hz1⟩:=I.tuple (show SqT X.K H a xs from h2);refine⟨⟨it,(false,a),its1.toArray⟩::ss,by rw[O8,e1],by rw[O8,e2],fun q hq=>?_,.cons (by simpa using rv1) e4⟩;rcases PQ.mp hq with rfl|hq
   ·exact⟨h1,p1⟩
   ·exact e3 q hq
theorem v8 {i:Nat}:∀ {ss:List Zs}{xss:List (List V)}{ys:List V},Paired (fun (q:Zs) (xs:List V)=>Vals xs q.xs.toList) ss xss->Paired (fun (xs:List V) (y:V)=>xs[i]?=some y) xss ys->∃us,Paired (fun (q:Zs) (x:Value)=>q.xs[i]?=some x) ss us/\Vals ys us
 | _,_,_,.nil,.nil=>⟨[],.nil,.nil⟩
 | _,_,_,.cons h1 t1,.cons h2 t2=>by obtain⟨us,e1,e2⟩:=v8 t1 t2;obtain⟨u,e3,e4⟩:=h1.get h2;exact⟨u::us,.cons (by simpa using e3) e1,.cons e4 e2⟩
theorem SqB.inj {X:Cx}{pins:List (Addr × Obj)}{σ:L2.St}{H:Hp}{s:Shared}(I:L2.Inv X pins σ H s):∀ {cs:List (Bool × Addr)}{xss yss:List (List V)},Paired (SqB X.K H) cs xss->Paired (SqB X.K H) cs yss->xss=yss
 | _,_,_,.nil,.nil=>rfl
 | _,_,_,.cons (a:=c) h1 t1,.cons h2 t2=>by
  rw[SqB.inj I t1 t2];obtain⟨b,a⟩:=c;cases b with
  | true=>rw[I.list_inj (show SqL X.K H a _ from h1) h2]
  | false=>rw[I.tuple_inj (show SqT X.K H a _ from h1) h2]
theorem BH {i:Nat}:∀ {xss:List (List V)}{ys zs:List V},Paired (fun (xs:List V) (y:V)=>xs[i]?=some y) xss ys->Paired (fun (xs:List V) (y:V)=>xs[i]?=some y) xss zs->ys=zs
 | _,_,_,.nil,.nil=>rfl
 | _,_,_,.cons h1 t1,.cons h2 t2=>by rw[BH t1 t2];rw[h1] at h2;cases h2;rfl
theorem z_ {P:Program}{w:World}{K:W.Frag}{elts:List Expr}{kt:Nat}{pt:Pos}{z TI TO:Addr}{its:List Addr}{cs:List (Bool × Addr)}(nd:(z::TI::TO::its).Nodup)(ap:∀c∈cs,c.2 ∉ z::TI::TO::its)(hne:its≠[])(hs:its.length<=100) :
  vo P w K (.Tuple elts kt pt) (Itn K cs) (z::TI::TO::its) z (fun i h=>ZSt z TI TO its h/\Paired (fun it c=>ItB h it c i) its cs) where
 mem:=by simp
 obj:=fun i h st c hc=>by
  obtain⟨⟨h1,h2,arr,la,h3⟩,h4⟩:=st;simp only[List.mem_cons] at hc;rcases hc with rfl|rfl|rfl|hc
  ·exact⟨_,h1,fun v z=>nomatch z⟩
  ·exact⟨_,h2,fun v z=>nomatch z⟩
  ·exact⟨_,h3,fun v z=>nomatch z⟩
  ·obtain⟨d,_,e⟩:=t4 h4 hc;obtain⟨o,vs,e1,e2⟩:=e.obj;exact⟨o,e1,fun v z=>by rw[e2] at z;cases z⟩
 keep:=fun i h h' st k=>by
  obtain⟨⟨h1,h2,arr,la,h3⟩,h4⟩:=st;refine⟨⟨k z (by simp) _ h1,k TI (by simp) _ h2,arr,la,k TO (by simp) _ h3⟩,?_⟩;have:∀ {l:List Addr}{r:List (Bool × Addr)},(∀x∈l,x∈its)->Paired (fun it c=>ItB h it c i) l r->Paired (fun it c=>ItB h' it c i) l r:=by
   intro l r hl hp
   induction hp with
   | nil=>exact .nil
   | cons f t ih=>exact .cons (f.keep fun o e=>k _ (by simp[hl _ List.mem_cons_self]) o e) (ih fun x hx=>hl x (OV _ hx))
  exact this (fun x hx=>hx) h4
 item:=by
  intro X hP hw hK hc i pins s σ H E I hf st hg;subst hP hw hK;obtain⟨xss,ys,g1,g2⟩:=hg;obtain⟨hz,h4⟩:=st;obtain⟨ss,e1,e2,e3,e4⟩:=xS I h4 g1;obtain⟨us,f1,f2⟩:=v8 e4 g2;have za:ZA z TI TO ss:=⟨by rw[e1];exact nd,fun q hq=>by rw[e1];exact ap q.c (by rw[<-e2];exact O9.mpr ⟨q,hq,rfl⟩)⟩
  have ssl:ss.length=its.length:=by rw[<-e1,O1]
  have line:(100:Nat)<=sizeLine:=by decide
  refine Cv (i:=i) (ss:=ss) (xs:=us) za (fun e=>hne (by rw[<-e1,e];rfl)) (by rw[ssl];exact O7 hs line) (by rw[e1];exact hz) e3 f1 fun h' T lT z1 t1 t2 s1 tT nT kk=>?_;rw[e1] at t1 nT kk;refine⟨_,rfl,wpAny_letOwnedTupleGo_zip (s:={ s with heap:=h' }) z1 fun h'' z2 sb=>?_⟩;have nz:∀ {c:Addr},c∈TI::TO::its->c≠z:=fun hc e=>(O4.mp nd).1 (by rw[<-e];exact hc);have Tz:T≠z:=fun e=>nT (by rw[e];simp);have yl:ys.length<=100:=by rw[<-g2.length,<-g1.length,<-h4.length];exact hs
  have I2:L2.Inv X pins σ (upd H T (.tup ys)) { s with heap:=h'' }:=y7 (t':=s.toks) (its:=us) (wr:=z::TI::TO::its) I (fun b o hb e=>by rw[sb.2 b (fun q=>hb (by rw[q];simp))];exact kk b o hb e) (fun b hb=>hf b hb) lT f2 (O7 yl line) ⟨_,by rw[sb.2 T Tz];exact tT,rfl,0,rfl⟩
  refine⟨.ref T,_,I2,rfl,⟨T,rfl,I.hok.fresh lT,fun xss' ys' k1 k2=>?_⟩,⟨⟨z2,by rw[sb.2 TI (nz (by simp))];exact t1,us,?_,by rw[sb.2 TO (nz (by simp))];exact t2⟩,?_⟩,fun b hb=>?_⟩
  ·have:=SqB.inj I k1 g1;subst this;rw[BH k2 g2]
  ·rw[<-f1.length];exact ssl
  ·have go:∀ {l:List Zs},(∀q∈l,SrcAt h' q (i+1))->(∀q∈l,q.it≠z)->Paired (fun it c=>ItB h'' it c (i+1)) (l.map Zs.it) (l.map Zs.c):=by
    intro l
    induction l with
    | nil=>intro _ _;exact .nil
    | cons q l ih =>intro k1 k2;exact .cons ((k1 q PD).1.keep fun o e=>by rw[sb.2 _ (k2 q PD)];exact e) (ih (fun p hp=>k1 p (OV _ hp)) fun p hp=>k2 p (OV _ hp))
   have:=go s1 fun q hq=>nz (OV _ (OV _ (by rw[<-e1];exact O9.mpr ⟨q,hq,rfl⟩)));rw[e1,e2] at this;exact this
  ·have hlt:b<s.heap.objs.size:=by
    obtain⟨h1,h2,arr,la,h3⟩:=hz;simp only[List.mem_cons] at hb;rcases hb with rfl|rfl|rfl|hb
    ·exact O3 h1
    ·exact O3 h2
    ·exact O3 h3
    ·obtain⟨d,_,e⟩:=t4 h4 hb;obtain⟨o,_,e,_⟩:=e.obj;exact O3 e
   rw[ao (PN (OW hlt lT))];exact(hf b hb).1
 done:=by
  intro X hP hw hK hc i pins s σ H E I hf st hg;subst hP hw hK;obtain⟨xss,g1,xs,gx,gl⟩:=hg;obtain⟨hz,h4⟩:=st;obtain⟨ss,e1,e2,e3,e4⟩:=xS I h4 g1;have za:ZA z TI TO ss:=⟨by rw[e1];exact nd,fun q hq=>by rw[e1];exact ap q.c (by rw[<-e2];exact O9.mpr ⟨q,hq,rfl⟩)⟩
  have ssl:ss.length=its.length:=by rw[<-e1,O1]
  have line:(100:Nat)<=sizeLine:=by decide
  have hn:∃q∈ss,q.xs[i]?=none:=by
   have:∀ {l:List Zs}{r:List (List V)},Paired (fun (q:Zs) (xs:List V)=>Vals xs q.xs.toList) l r->xs∈r->∃q∈l,q.xs[i]?=none:=by
    intro l r hp hx
    induction hp with
    | nil=>cases hx
    | @cons q ys l r f t ih =>
     rcases PQ.mp hx with rfl|hx
     ·refine⟨q,PD,?_⟩;have:=f.length;exact Array.getElem?_eq_none (by rw[<-gl,this];simp)
     ·obtain⟨p,h1,h2⟩:=ih hx;exact⟨p,OV _ h1,h2⟩
   exact this e4 gx
  refine DJ (i:=i) (ss:=ss) (I.ok.hd hc) za (by rw[ssl];exact O7 hs line) (by rw[e1];exact hz) e3 hn fun h' kk=>?_;rw[e1] at kk;exact⟨rfl,zD (t':=s.toks) I kk fun b hb=>hf b hb⟩
 self:=fun _ _ _ _ _ st h=>wpAny_pyIter_zip st.1.1 h
section
variable {prog:Program}{w:World}{A:Around}{E:Value->Shared->Prop}
theorem K8 {R:Array Value->Shared->Prop}:∀ {cs:List (Bool × Addr)}{acc:Array Value}{s:Shared},(∀c∈cs,∃xs,SeqB s.heap c xs) ->
  (∀h',h'.objs.size=s.heap.objs.size+cs.length->(∀b o,s.heap.get? b=some o->h'.get? b=some o)->Paired (fun it c=>ItB h' it c 0) (List.range' s.heap.objs.size cs.length) cs->R (acc++((List.range' s.heap.objs.size cs.length).map Value.ref).toArray) { s with heap:=h' }) ->
  wpAny (model prog w) A (forIn (cs.map fun c=>Value.ref c.2) acc fun x r=>do
   let v <-holding r.toList (pyIter x)
   pure (ForInStep.yield (r.push v))) R E s:=by
 intro cs
 induction cs with
 | nil =>intro acc s _ hR;exact O2 (by simpa using hR s.heap rfl (fun _ _ e=>e) .nil)
 | cons c cs ih =>
  intro acc s hs hR;rw[O8,RO];obtain⟨xs,hx⟩:=hs c PD;refine OP (OP (R1 (Ee hx fun o ho=>O2 ?_)));refine ih (acc:=acc.push (.ref s.heap.objs.size)) (s:={ s with heap:=s.heap.push o }) (fun d hd=>?_) fun h' k1 k2 k3=>?_
  ·obtain⟨ys,hy⟩:=hs d (OV _ hd);exact⟨ys,hy.keep fun o e=>OR _ e⟩
  ·have sz:(s.heap.push o).objs.size=s.heap.objs.size+1:=RI _ _;have k1:h'.objs.size=(s.heap.push o).objs.size+cs.length:=k1;have k3:Paired (fun it c=>ItB h' it c 0) (List.range' (s.heap.push o).objs.size cs.length) cs:=k3;rw[sz] at k1 k3;have:=hR h' (by rw[k1,QK];omega) (fun b u e=>k2 b u (OR _ e)) (by rw[QK,List.range'_succ];exact .cons (ho.keep fun u e=>k2 _ u e) k3)
   rw[QK,List.range'_succ] at this;show R (acc.push (Value.ref s.heap.objs.size)++((List.range' (s.heap.push o).objs.size cs.length).map Value.ref).toArray) _;rw[sz];simpa using this
theorem xw (cs:List (Bool × Addr))(hl:cs.length<=100):Meets (Builtin.«zip.__new__» ⟨.type "zip"::cs.map (fun c=>Value.ref c.2),[]⟩) fun _ R s=>(∀c∈cs,∃xs,SeqB s.heap c xs) /\
  ∀h',ZSt (s.heap.objs.size+cs.length+2) (s.heap.objs.size+cs.length) (s.heap.objs.size+cs.length+1) (List.range' s.heap.objs.size cs.length) h'->Paired (fun it c=>ItB h' it c 0) (List.range' s.heap.objs.size cs.length) cs->(∀b o,s.heap.get? b=some o->h'.get? b=some o)->R (.ok (.ret (.ref (s.heap.objs.size+cs.length+2)))) { s with heap:=h' }:=by
 intro prog w A R s ⟨h1,h⟩;have line:(100:Nat)<=sizeLine:=by decide
 refine OP ?_;refine OP (O2 ?_);rw[sub_zip];refine OP (O2 ?_);refine O2 ?_;refine OP (m:=Builtin.SmallTypes.iterAll (cs.map fun c=>Value.ref c.2)) ?_;refine OP (K8 h1 fun h' k1 k2 k3=>O2 ?_);have e0:(#[]++((List.range' s.heap.objs.size cs.length).map Value.ref).toArray:Array Value).toList=(List.range' s.heap.objs.size cs.length).map Value.ref:=by simp
 rw[e0];have ln:((List.range' s.heap.objs.size cs.length).map Value.ref).length=cs.length:=by simp
 refine OP (wpAny_newTuple ?_ (by rw[ln];exact O7 hl line));refine OP (wpAny_newTuple ?_ (by rw[O1,ln];exact O7 hl line));refine OP (wpAny_newObj_type (T:="zip") (data:=.fields #[.none,.bool false,.bool false,.ref h'.objs.size,.ref (h'.push (dY ((List.range' s.heap.objs.size cs.length).map Value.ref))).objs.size]) ?_);have s1:(h'.push (dY ((List.range' s.heap.objs.size cs.length).map Value.ref))).objs.size=s.heap.objs.size+cs.length+1:=(RI _ _).trans (by rw[k1]);have s2:((h'.push (dY ((List.range' s.heap.objs.size cs.length).map Value.ref))).push (dY (((List.range' s.heap.objs.size cs.length).map Value.ref).map fun _=>Value.none))).objs.size=s.heap.objs.size+cs.length+2:=(RI _ _).trans (by rw[s1]);refine O2 ?_;show R (.ok (.ret (.ref ((h'.push (dY ((List.range' s.heap.objs.size cs.length).map Value.ref))).push (dY (((List.range' s.heap.objs.size cs.length).map Value.ref).map fun _=>Value.none))).objs.size))) _;rw[s2];refine h _ ⟨?_,?_,((List.range' s.heap.objs.size cs.length).map Value.ref).map fun _=>Value.none,by simp,?_⟩ ?_ fun b o e=>OR _ (OR _ (OR _ (k2 b o e)))
 ·rw[<-s2];have g:=O5 ((h'.push (dY ((List.range' s.heap.objs.size cs.length).map Value.ref))).push (dY (((List.range' s.heap.objs.size cs.length).map Value.ref).map fun _=>Value.none))) (o:={ cls:=.type "zip",data:=.fields #[.none,.bool false,.bool false,.ref h'.objs.size,.ref (h'.push (dY ((List.range' s.heap.objs.size cs.length).map Value.ref))).objs.size] }) rfl;rw[k1,s1] at g;rw[k1,s1];exact g
 ·rw[<-k1];exact OR _ (OR _ (O5 _ rfl))
 ·rw[<-s1];exact OR _ (O5 _ rfl)
 ·have:∀ {l:List Addr}{r:List (Bool × Addr)},Paired (fun it c=>ItB h' it c 0) l r->∀ {g:Heap},(∀b o,h'.get? b=some o->g.get? b=some o)->Paired (fun it c=>ItB g it c 0) l r:=by
   intro l r hp g hg
   induction hp with
   | nil=>exact .nil
   | cons f t ih=>exact .cons (f.keep fun o e=>hg _ o e) ih
  exact this k3 fun b o e=>OR _ (OR _ (OR _ e))
end
section
variable {prog:Program}{w:World}{A:Around}{E:Value->Shared->Prop}{s:Shared}
def Lm (cs:List (Bool × Addr))(Q:Value->Shared->Prop)(s:Shared):Prop:=∀h',ZSt (s.heap.objs.size+cs.length+2) (s.heap.objs.size+cs.length) (s.heap.objs.size+cs.length+1) (List.range' s.heap.objs.size cs.length) h'->Paired (fun it c=>ItB h' it c 0) (List.range' s.heap.objs.size cs.length) cs->(∀b o,s.heap.get? b=some o->h'.get? b=some o) ->
 Q (.ref (s.heap.objs.size+cs.length+2)) { s with heap:=h' }
theorem AQ {c1:Bool × Addr}(h1:∀c∈[c1,c2],∃xs,SeqB s.heap c xs)(h:Lm [c1,c2] Q s):wpAny (model prog w) A (call (.type "zip") [.ref c1.2,.ref c2.2]) Q E s:=by refine callType_new F.called_zip rfl (F.typeCall_zip_2 _ _) (F.newCall_zip_2 _ _) (fun obj=>?_) F.entry_zip_new (xw [c1,c2] (Nat.le_of_ble_eq_true rfl)) ⟨h1,fun h' k1 k2 k3=>⟨⟨_,k1.1,rfl⟩,h h' k1 k2 k3⟩⟩;exact F.args_object_init_3 _ _ _
end
section
variable {X:Cx}{pins:List (Addr × Obj)}{σ:L2.St}{H:Hp}{s:Shared}
theorem SqB.seq (I:L2.Inv X pins σ H s)(h:SqB X.K H c xs):∃ys,SeqB s.heap c ys:=by
 obtain⟨b,a⟩:=c;cases b with
 | true=>obtain⟨its,_,p,_⟩:=I.list (show SqL X.K H a xs from h);exact⟨_,p.isList⟩
 | false=>obtain⟨its,_,p,_⟩:=I.tuple (show SqT X.K H a xs from h);exact⟨_,p⟩
theorem SeqB.lt (z:SeqB h c ys):c.2<h.objs.size:=by
 obtain⟨b,a⟩:=c;cases b with
 | true=>obtain⟨_,e,_⟩:=(show h.IsList a ys from z);exact O3 e
 | false=>obtain⟨_,e,_⟩:=(show h.IsTuple a ys from z);exact O3 e
theorem Fi {N n b:Nat}(h:b∈(N+n+2)::(N+n)::(N+n+1)::List.range' N n):N<=b:=by simp only[List.mem_cons,List.mem_range'_1] at h;omega
theorem Jy (N n:Nat):((N+n+2)::(N+n)::(N+n+1)::List.range' N n).Nodup:=by refine O4.mpr ⟨fun h=>?_,O4.mpr ⟨fun h=>?_,O4.mpr ⟨fun h=>?_,List.nodup_range'⟩⟩⟩ <;> (simp only[List.mem_cons,List.mem_range'_1] at h;omega)
theorem EG {kt:Nat}{cs:List (Bool × Addr)}{R:L2.It->Hp->Prop}(I:L2.Inv X pins σ H s)(hs:∀c∈cs,∃xs,SqB X.K H c xs)(hn:cs≠[])(hl:cs.length<=100)(q:R (Itn X.K cs) H) :
  Lm cs (fun v s1=>wpAny (model X.prog X.w) X.A (pyIter v) (PIE X pins σ (.Tuple elts kt pt) R) X.xe s1) s:=by
 intro h' k1 k2 kk;refine wpAny_pyIter_zip k1.1 ?_;have nd:=Jy s.heap.objs.size cs.length;have big:∀b,b∈(s.heap.objs.size+cs.length+2)::(s.heap.objs.size+cs.length)::(s.heap.objs.size+cs.length+1)::List.range' s.heap.objs.size cs.length->s.heap.objs.size<=b:=fun b hb=>Fi hb;refine⟨_,_,_,_,H,rfl,I.kept (t':=s.toks) kk,z_ nd (fun c hc hm=>?_) (fun e=>hn ?_) (by simpa using hl),⟨k1,k2⟩,fun b hb=>I.fpOk (big b hb) (I.hok.fresh (big b hb)),q⟩
 ·obtain⟨xs,hx⟩:=hs c hc;obtain⟨ys,hy⟩:=hx.seq I;exact absurd (OW hy.lt (big _ hm)) (QV _)
 ·have:=PU List.length e;simp at this;exact this
end
section
variable {X:Cx}
noncomputable def KR (K:W.Frag)(ta:TA):TI:=fun σ H R=>ta σ H fun vs H1=>∃c d,vs=[.ref c.2,.ref d.2]/\(∀e∈[c,d],∃xs,SqB K H1 e xs)/\R (Itn K [c,d]) H1
theorem GZ {kt:Nat}{a:Expr}(hg:Gl X "zip")(hm:X.mg "zip"=none)(ha:PA X [a,b] ta)(hs:starEach [a,b] X.env=[(false,eval a X.env),(false,eval b X.env)])(hs2:starEach [b] X.env=[(false,eval b X.env)]) :
  PI X (.Tuple elts kt pt) (.Call (.Name "zip" p) [a,b] [] pos) (KR X.K ta):=by
 intro pins s σ H R I h;refine Call_ (jy I hg hm boot_zip (P_ (thn (ha pos pins s σ H _ I h) fun us s1 ⟨vs,H1,I1,r1,q1⟩=>?_) (by rw[hs,hs2]) (by rw[hs2];rfl)));obtain⟨c,d,e,hq,q⟩:=q1;subst e;obtain⟨u,v,rfl,ru,rv⟩:=oa r1;cases ru;cases rv;exact AQ (fun f hf=>let ⟨xs,hx⟩:=hq f hf;hx.seq I1) (EG I1 hq (by simp) (by simp) q)
end
def LB (K:W.Frag)(c:Bool × Addr)(xs:List PV)(chk:AH->Prop)(m0:List Addr)(H0:Hp):Prop:=∀m H st,Ext K m0 H0 m H->RH K m H st->chk st->∃ys,SqB K H c ys/\Rs K m H xs ys
theorem Gs (rh:RH K m H st)(r:R K m H v x)(e:bP st v=some xs):∃c:Bool × Addr,x=.ref c.2/\LB K c xs (gW st v) m H/\∃ys,SqB K H c ys:=by
 cases v with
 | tup ys =>cases e;rw[R_tup] at r;obtain⟨a,zs,rfl,g,r3⟩:=r;exact⟨(false,a),rfl,fun m' H' st' x r q=>⟨zs,x.tup _ _ g,r3.mono x⟩,zs,g⟩
 | rdl ys =>cases e;rw[gC] at r;obtain⟨a,zs,rfl,g,r3⟩:=r;exact⟨(true,a),rfl,fun m' H' st' x r q=>⟨zs,(x.rdf _ _ g).sq,r3.mono x⟩,zs,g.sq⟩
 | ref n =>
  unfold bP bH at e;simp only at e;split at e
  ·cases e;rename_i q;obtain⟨a,zs,rfl,ea,g,r3⟩:=rh.lst q r;refine⟨(true,a),rfl,fun m' H' st' x r' q'=>?_,zs,SqL.of g⟩;have q':st'[n]?=st[n]?:=q';rw[q] at q';obtain⟨ys,h1,h2⟩:=r'.at_ n _ a q' (lz x.pre ea);exact⟨ys,SqL.of h1,h2⟩
  ·cases e
 | _=>cases e
theorem DX (h1:LB K a xs c1 m0 H0)(h2:LB K b ys c2 m0 H0):q9 K (Itn K [a,b]) (gO xs ys) (fun st=>c1 st/\c2 st) m0 H0:=by
 refine⟨fun m H st x r q=>?_,fun i v m H st x r q ev=>?_⟩
 ·obtain⟨as,g1,r1⟩:=h1 m H st x r q.1;obtain⟨bs,g2,r2⟩:=h2 m H st x r q.2;refine⟨[as,bs],.cons g1 (.cons g2 .nil),?_⟩;rw[lG,r1.len,r2.len];rcases Nat.le_total as.length bs.length with h|h
  ·exact⟨as,by simp,(Nat.min_eq_left h).symm⟩
  ·exact⟨bs,by simp,(Nat.min_eq_right h).symm⟩
 ·obtain⟨as,g1,r1⟩:=h1 m H st x r q.1;obtain⟨bs,g2,r2⟩:=h2 m H st x r q.2;obtain⟨u,v',e1,e2,rfl⟩:=qF ev;obtain⟨y1,f1,q1⟩:=r1.get e1;obtain⟨y2,f2,q2⟩:=r2.get e2;refine⟨⟨[as,bs],[y1,y2],.cons g1 (.cons g2 .nil),.cons f1 (.cons f2 .nil)⟩,?_⟩;rintro z H' ⟨T,rfl,hT,hh⟩;have:=hh _ _ (.cons g1 (.cons g2 .nil)) (.cons f1 (.cons f2 .nil));subst this;refine⟨Ext.newT r hT,r.newT hT,R_tup.mpr ⟨T,[y1,y2],rfl,SqT.of bq,?_⟩⟩;rw[Rs_cons',Rs_cons',Rs_nil];exact⟨q1.mono (Ext.newT r hT),q2.mono (Ext.newT r hT),rfl⟩
end FW
namespace FW
open L2 HX
noncomputable def Itc (z:Str):L2.It:=⟨fun i _=>i<z.cps.size,fun i H x H'=>H'=H/\∃c,z.cps[i]?=some c/\x=.str ⟨#[c]⟩,fun i _=>i=z.cps.size⟩
theorem pL {P:Program}{w:World}{K:W.Frag}{tg:Expr}{it:Addr}{z:Str}{t:Tok}{nm:String}(hW:∀A:Around,A.handled=none->Walks P w A it [it] [it] z.cps.size (SignAt z) (fun i h=>h.IsStrIter it nm z t i))
  (hn:["enumerate","zip","dict_itemiterator","dict_reverseitemiterator","odict_iterator","itertools.zip_longest","itertools.pairwise"].contains nm=false) (hS:∀(A:Around) (i:Nat) (s:Shared) (Q:Value->Shared->Prop) (E:Value->Shared->Prop),s.heap.IsStrIter it nm z t i->Q (.ref it) s->wpAny (model P w) A (pyIter (.ref it)) Q E s):vo P w K tg (Itc z) [it] it (fun i h=>h.IsStrIter it nm z t i) where
 mem:=by simp
 obj:=fun i h st b hb=>by
  have e:b=it:=by simpa using hb
  subst e;obtain⟨o,e,c,d⟩:=st;exact⟨o,e,fun v z=>by rw[d] at z;cases z⟩
 keep:=fun i h h' st k=>by obtain⟨o,e,r⟩:=st;exact⟨o,k it (by simp) o e,r⟩
 item:=by intro X hP hw hK hc i pins s σ H E I hf st hg;subst hP hw hK;obtain⟨f0,f1,f2,f3,f4,f5⟩:=hf it (by simp);refine(hW X.A (I.ok.hd hc)).item i s _ _ hg st fun v h' tk hv st' kk=>?_;obtain⟨c,u,ec,rfl⟩:=hv;have I1:L2.Inv X pins σ H { s with heap:=h',toks:=tk }:=I.turned (fun b o hb e=>kk b o (by simpa using hb) e) f0 f1 f3 f4 f5;obtain⟨o,e,cc,d⟩:=id st';exact⟨_,rfl,vC (s:={ s with heap:=h',toks:=tk }) e cc d hn ⟨.str ⟨#[c]⟩,H,I1,⟨u,rfl⟩,⟨rfl,c,ec,rfl⟩,st',fun b hb=>(hf b hb).1⟩⟩
 done:=by intro X hP hw hK hc i pins s σ H E I hf st hg;subst hP hw hK;have hg:i=z.cps.size:=hg;subst hg;obtain⟨f0,f1,f2,f3,f4,f5⟩:=hf it (by simp);exact(hW X.A (I.ok.hd hc)).done s _ _ st fun h' tk kk=>⟨rfl,I.turned (fun b o hb e=>kk b o (by simpa using hb) e) f0 f1 f3 f4 f5⟩
 self:=hS
theorem xj:q9 K (Itc z) (dU z) (fun _=>True) m0 H0:=by
 refine⟨fun m H st x r q=>by show (dU z).length=z.cps.size;simp[dU],fun i v m H st x r q ev=>?_⟩;unfold dU at ev;rw[PC] at ev;cases e:z.cps.toList[i]? with
 | none=>rw[e] at ev;cases ev
 | some c =>
  rw[e] at ev;cases ev;have e':z.cps[i]?=some c:=by simpa using e
  refine⟨(QP.mp e').1,?_⟩;rintro y H' ⟨rfl,c',e2,rfl⟩;rw[e'] at e2;cases e2;exact⟨Ext.refl _ _ _,r,R_str.mpr rfl⟩
section
variable {X:Cx}{tg:Expr}
noncomputable def Iy (te:TE):TI:=fun σ H R=>te σ H fun x H1=>∃z,x=.str z/\R (Itc z) H1
theorem CO (he:PE X e te):PI X tg e (Iy te):=by
 intro pins s σ H R I h;refine thn (he pins s σ H _ I h) fun v s1 ⟨x,H1,I1,r1,q1⟩=>?_;obtain⟨z,e,q⟩:=q1;subst e;obtain⟨t,rfl⟩:=r1;have fin:∀b,b∈[s1.heap.objs.size]->jo X pins H1 b:=fun b hb=>by
  have e:b=s1.heap.objs.size:=by simpa using hb
  subst e;exact I1.fpOk (OX _) (I1.hok.fresh (OX _))
 cases ha:z.cps.all (·< 128)
 ·exact wpAny_pyIter_wide ha ⟨_,_,_,_,H1,rfl,I1.kept (t':=s1.toks) fun b o e=>OR _ e,pL (nm:="str_iterator") (fun A hA=>Walks.strWide hA _ z t) (by decide) (fun _ _ _ _ _ st h=>wpAny_pyIter_striter_wide st h),⟨_,O5 _ rfl,rfl,rfl⟩,fin,q⟩
 ·exact wpAny_pyIter_ascii ha ⟨_,_,_,_,H1,rfl,I1.kept (t':=s1.toks) fun b o e=>OR _ e,pL (nm:="str_ascii_iterator") (fun A hA=>Walks.strAscii hA _ z t) (by decide) (fun _ _ _ _ _ st h=>wpAny_pyIter_striter_ascii st h),⟨_,O5 _ rfl,rfl,rfl⟩,fin,q⟩
noncomputable def GO (lo k:Int)(n:Nat):L2.It:=⟨fun i _=>i<n,fun i H x H'=>H'=H/\x=.int (lo+i*k),fun i _=>n<=i⟩
theorem Fk {P:Program}{w:World}{K:W.Frag}{it:Addr}{lo k:Int}{n:Nat}:vo P w K tg (GO lo k n) [it] it (fun i h=>IsRangeIter h it (lo+(i:Nat)*k) ((n:Int)-(i:Nat)) k) where
 mem:=by simp
 obj:=fun i h st b hb=>by
  have e:b=it:=by simpa using hb
  subst e;exact⟨_,st,fun v z=>by have z':Data.fields _=Data.cell v:=z;cases z'⟩
 keep:=fun i h h' st k=>k it (by simp) _ st
 item:=by intro X hP hw hK hc i pins s σ H E I hf st hg;subst hP hw hK;obtain⟨f0,f1,f2,f3,f4,f5⟩:=hf it (by simp);have W:=Walks.range (prog:=X.prog) (w:=X.w) (I.ok.hd hc) it lo k n;refine W.item i s _ _ hg st fun v h' tk hv st' kk=>?_;obtain⟨t,rfl⟩:=hv;have I1:L2.Inv X pins σ H { s with heap:=h',toks:=tk }:=I.turned (fun b o hb e=>kk b o (by simpa using hb) e) f0 f1 f3 f4 f5;exact ⟨_,rfl,vC (s:={ s with heap:=h',toks:=tk }) (n:="range_iterator") st' rfl rfl (by decide) ⟨.int (lo+i*k),H,I1,⟨t,rfl⟩,⟨rfl,rfl⟩,st',fun b hb=>(hf b hb).1⟩⟩
 done:=by intro X hP hw hK hc i pins s σ H E I hf st hg;subst hP hw hK;obtain⟨f0,f1,f2,f3,f4,f5⟩:=hf it (by simp);exact wpAny_pyNext_range_end (I.ok.hd hc) st (by have:n<=i:=hg;omega) fun h' eb=>⟨rfl,I.turned (t':=s.toks) (fun b o hb e=>eb b o hb e) f0 f1 f3 f4 f5⟩
 self:=fun _ _ _ _ _ st h=>wpAny_pyIter_rangeiter st h
theorem FU {lo k:Int}{n:Nat}:q9 K (GO lo k n) (iX lo k n) (fun _=>True) m0 H0:=by
 refine⟨fun m H st x r q=>by show n<=_;simp[iX],fun i v m H st x r q ev=>?_⟩;unfold iX at ev;rw[PC] at ev;have hi:i<n:=by
  by_cases hi:i<n
  ·exact hi
  ·rw[QU (by simp;omega)] at ev;cases ev
 rw[RD hi] at ev;cases ev;refine⟨hi,fun z H' ⟨e2,e3⟩=>?_⟩;subst e2 e3;exact⟨Ext.refl _ _ _,r,R_int.mpr rfl⟩
noncomputable def Kk (ta:TA):TI:=fun σ H R=>ta σ H fun vs H1=>∃i j k:Int,vs=[.int i,.int j,.int k]/\(-(2 ^ 62)<=i/\i<2 ^ 62/\-(2 ^ 62)<=j/\j<2 ^ 62/\0<k/\k<2 ^ 62)/\R (GO i k (rSz i j k)) H1
theorem Cd {i j k:Int}(h:-(2 ^ 62)<=i/\i<2 ^ 62/\-(2 ^ 62)<=j/\j<2 ^ 62/\0<k/\k<2 ^ 62):Builtin.Range.rangeSize i j k=(rSz i j k:Nat)/\Builtin.Range.small i j k=true:=by
 have e:Builtin.Range.rangeSize i j k=(rSz i j k:Nat):=by
  unfold Builtin.Range.rangeSize rSz;rw[O0 h.2.2.2.2.1];split
  ·have:0<=(j-i-1)/k:=TR (by omega) (by omega);omega
  ·rfl
 have b:(rSz i j k:Int)<2 ^ 63:=by
  unfold rSz;split
  ·have h0:0<=(j-i-1)/k:=TR (by omega) (by omega);have h1:(j-i-1)/k<=j-i-1:=Int.ediv_le_self _ (by omega);omega
  ·decide
 refine⟨e,?_⟩;unfold Builtin.Range.small;rw[e];simp[Builtin.Range.rangeFitsLong];rw[O0 h.2.2.2.2.1];omega
theorem log2_lt {d:Nat}(h:d<2 ^ 63):d.log2<63:=by
 by_cases h0:d=0
 ·subst h0;decide
 ·exact(S8 h0).mpr h
theorem AI {a:Expr}(hg:Gl X "range")(hm:X.mg "range"=none)(ha:PA X [a,b,c] ta)(hs:starEach [a,b,c] X.env=[(false,eval a X.env),(false,eval b X.env),(false,eval c X.env)])(hs2:starEach [b,c] X.env=[(false,eval b X.env),(false,eval c X.env)]) :
  PI X tg (.Call (.Name "range" p) [a,b,c] [] pos) (Kk ta):=by
 intro pins s σ H R I h;refine Call_ (jy I hg hm boot_range (P_ (thn (ha pos pins s σ H _ I h) fun us s1 ⟨vs,H1,I1,r1,q1⟩=>?_) (by rw[hs,hs2]) (by rw[hs2];rfl)));obtain⟨i,j,k,e,h1,q⟩:=q1;subst e;cases r1 with
 | cons r rr =>
  cases rr with
  | cons r' rr =>
   cases rr with
   | cons r'' rr =>
   cases rr;obtain⟨t,rfl⟩:=r;obtain⟨t',rfl⟩:=r';obtain⟨t'',rfl⟩:=r'';obtain⟨e0,e1⟩:=Cd h1;refine call_range_3 (by omega) ?_ (.inl (R4 (RX (log2_lt (d:=k.natAbs) (by omega)) (by decide))));refine wpAny_pyIter_range (IsRange.new ..) e1 ?_;have I2:L2.Inv X pins σ H1 { s1 with heap:=s1.heap.push { cls:=.type "range",data:=.fields #[.int i t,.int j t',.int k t''] } }:=I1.kept (t':=s1.toks) fun b o e=>OR _ e;refine⟨_,[_],_,_,H1,rfl,I2.kept (t':=s1.toks) fun b o e=>OR _ e,Fk (lo:=i) (k:=k) (n:=rSz i j k),?_,fun b hb=>?_,q⟩
   ·have:=O5 (s1.heap.push { cls:=.type "range",data:=.fields #[.int i t,.int j t',.int k t''] }) (o:={ cls:=.type "range_iterator",data:=.fields #[rawInt i,rawInt (Builtin.Range.rangeSize i j k),rawInt k] }) rfl;show IsRangeIter _ _ (i+((0:Nat):Int)*k) ((rSz i j k:Int)-((0:Nat):Int)) k;rw[show i+((0:Nat):Int)*k=i by simp,show (rSz i j k:Int)-((0:Nat):Int)=Builtin.Range.rangeSize i j k by rw[e0];simp];exact this
   ·rw[PM] at hb;subst hb;exact I2.fpOk (OX _) (I2.hok.fresh (OX _))
end
section
variable {X:Cx}
noncomputable def zF (z y:Str):List V :=
 match Builtin.Str.occurrences z y 0 z.length 1 with
 | i::_=>[.str (Builtin.Str.strSub z 0 i),.str y,.str (Builtin.Str.strSub z (i+y.length) z.length)]
 | []=>[.str z,.str Str.empty,.str Str.empty]
theorem IK:Rs K m H (oG z y) (zF z y):=by
 unfold oG zF;cases Builtin.Str.occurrences z y 0 z.length 1 with
 | nil=>show Rs K m H [_,_,_] [_,_,_];simp only[Rs_cons',Rs_nil,R_str,and_self]
 | cons i r=>show Rs K m H [_,_,_] [_,_,_];simp only[Rs_cons',Rs_nil,R_str,and_self]
theorem Fd:MtR X "str.partition" (fun x vs H Q=>∃z y,x=.str z/\vs=[.str y]/\(y.length == 0)=false/\z.length<=100000/\∀p,H p=none->Q (.ref p) (upd H p (.tup (zF z y)))):=by
 intro pins s σ H x vs v us Q I rx rv h;obtain⟨z,y,rfl,rfl,h1,h2,q⟩:=h;obtain⟨t,rfl⟩:=rx;obtain⟨u,rfl,t',rfl⟩:=fe rv;refine call_meets F.slot_str_partition (typeIs_str _ _ _) F.entry_str_partition (F.args_str_partition_2 _ _) (meets_str_partition z y t t' h1 (eT h2)) ?_;have hf:H s.heap.objs.size=none:=I.hok.fresh (OX _);have q:=q _ hf;unfold zF at q;revert q;cases Builtin.Str.occurrences z y 0 z.length 1 with
 | nil=>exact fun q=>⟨.ref s.heap.objs.size,_,I.laid (t':=s.toks+1) (o:=.tup [.str z,.str Str.empty,.str Str.empty]) (fun b u e=>OR _ e) (OX _) ⟨by show 3<=sizeLine;decide,[_,_,_],.cons ⟨_,rfl⟩ (.cons ⟨_,rfl⟩ (.cons ⟨_,rfl⟩ .nil)),⟨_,O5 _ rfl,rfl,_,rfl⟩⟩,rfl,q⟩
 | cons i r=>exact fun q=>⟨.ref s.heap.objs.size,_,I.laid (t':=s.toks+1+1) (o:=.tup [.str (Builtin.Str.strSub z 0 i),.str y,.str (Builtin.Str.strSub z (i+y.length) z.length)]) (fun b u e=>OR _ e) (OX _) ⟨by show 3<=sizeLine;decide,[_,_,_],.cons ⟨_,rfl⟩ (.cons ⟨_,rfl⟩ (.cons ⟨_,rfl⟩ .nil)),⟨_,O5 _ rfl,rfl,_,rfl⟩⟩,rfl,q⟩
theorem sR:∀ {ss:List Str}{us:List Value},Vals (ss.map V.str) us->∃l:List (Str × Tok),us=strValues l/\l.map (·.1)=ss
 | [],us,r=>by cases r;exact⟨[],rfl,rfl⟩
 | z::ss,us,r=>by
  cases r with
  | cons a b =>obtain⟨t,rfl⟩:=a;obtain⟨l,rfl,e⟩:=sR b;exact⟨(z,t)::l,rfl,by rw[O8,e]⟩
theorem FG:MtR X "str.join" (fun x vs H Q=>∃y l ss,x=.str y/\vs=[.ref l]/\SqL X.K H l (ss.map V.str)/\JoinOk y ss=true/\Q (.str (Txt.join y ss)) H):=by intro pins s σ H x vs v us Q I rx rv h;obtain⟨y,l,ss,rfl,rfl,h1,h2,q⟩:=h;obtain⟨t,rfl⟩:=rx;obtain⟨u,rfl,ru⟩:=fe rv;cases ru;obtain⟨its,ri,pl,_⟩:=I.list h1;obtain⟨ts,rfl,e⟩:=sR ri;exact SC.join pl.isList e h2 fun t' k=>⟨.str _,H,I.tok k,⟨t',rfl⟩,q⟩
theorem sW:∀(l:List (Str × Tok)),Vals ((l.map (·.1)).map V.str) (strValues l)
 | []=>.nil
 | (z,t)::l=>.cons ⟨t,rfl⟩ (sW l)
theorem BL:MtR X "str.split" (fun x vs H Q=>∃z y,x=.str z/\vs=[.str y]/\(y.length == 0)=false/\z.length<=sizeLine/\(Txt.split z y).length<=sizeLine/\∀p,H p=none->Q (.ref p) (upd H p (.lst ((Txt.split z y).map V.str)))):=by
 intro pins s σ H x vs v us Q I rx rv h;obtain⟨z,y,rfl,rfl,hy,h1,h2,q⟩:=h;obtain⟨t,rfl⟩:=rx;obtain⟨u,rfl,t',rfl⟩:=fe rv;have hf:H s.heap.objs.size=none:=I.hok.fresh (OX _);have q:=q _ hf;unfold Txt.split at q h2;cases e1:(decide (z.length<y.length) || decide (Builtin.Str.strKind z<Builtin.Str.strKind y))
 ·rw[e1,OY OS] at q h2;cases e2:(Builtin.Str.occurrences z y 0 z.length (z.length+1)).isEmpty
  ·rw[e2,OY OS] at q h2;refine call_meets TF (typeIs_str _ _ _) S9 (S3 _ _) (meets_str_split_sep z y t t' e1 hy e2 h1 h2) ?_;rw[strsFrom_eq];have r:=sW (numbered s.toks (Builtin.Str.partsBetween z (Builtin.Str.occurrences z y 0 z.length (z.length+1)) y.length));rw[numbered_texts] at r;exact⟨.ref s.heap.objs.size,_,I.laid (o:=.lst ((Builtin.Str.partsBetween z (Builtin.Str.occurrences z y 0 z.length (z.length+1)) y.length).map V.str)) (fun b u e=>OR _ e) (OX _) ⟨by rw[O1];exact h2,_,_,r,O5 _ rfl⟩,rfl,q⟩
  ·rw[e2,O0 rfl] at q;refine call_meets TF (typeIs_str _ _ _) S9 (S3 _ _) (meets_str_split_not_found z y t t' e1 hy e2) ?_;exact⟨.ref s.heap.objs.size,_,I.laid (t':=s.toks) (o:=.lst [V.str z]) (fun b u e=>OR _ e) (OX _) ⟨by show 1<=sizeLine;decide,[_],_,.cons ⟨t,rfl⟩ .nil,O5 _ rfl⟩,rfl,q⟩
 ·rw[e1,O0 rfl] at q;refine call_meets TF (typeIs_str _ _ _) S9 (S3 _ _) (meets_str_split_cannot_occur z y t t' e1) ?_;exact⟨.ref s.heap.objs.size,_,I.laid (t':=s.toks) (o:=.lst [V.str z]) (fun b u e=>OR _ e) (OX _) ⟨by show 1<=sizeLine;decide,[_],_,.cons ⟨t,rfl⟩ .nil,O5 _ rfl⟩,rfl,q⟩
end
end FW
namespace FW
open L2 HX
noncomputable def ja (env:Env):List (Str × NameKind)->List (Str × Addr)->List (Str × Addr)
 | [],cs=>cs
 | (x,k)::r,cs=>ja env r (if k == .free then (x,(env.cells.lookup x).getD 0)::cs else cs)
theorem qZ {scope:Scope}{env:Env}(h:∀y∈scope.names,y.2=.free->∃c,env.cells.lookup y.1=some c):closureFor scope env=pure (ja env scope.names []):=by
 have key:∀(names:List (Str × NameKind)) (cs:List (Str × Addr)),(∀y∈names,y.2=.free->∃c,env.cells.lookup y.1=some c) ->
   (forIn names cs fun (x:Str × NameKind) (r:List (Str × Addr))=>(match x with
    | (name,kind)=>if (kind == NameKind.free)=true then (do let a <-cellOf env name;pure (ForInStep.yield ((name,a)::r)):Sem _) else pure (ForInStep.yield r)))=(pure (ja env names cs):Sem _):=by
  intro names
  induction names with
  | nil=>intro cs _;rfl
  | cons y r ih =>
   intro cs hy;obtain⟨x,k⟩:=y;rw[RO];by_cases hk:k=.free
   ·subst hk;obtain⟨c,e⟩:=hy _ PD rfl;have ec:cellOf env x=pure c:=by unfold cellOf;rw[e]
    simp only[beq_self_eq_true,if_true,ec];show (forIn r ((x,c)::cs) _:Sem _)=_;rw[ih _ fun y h=>hy y (OV _ h)];simp[ja,e]
   ·have hb:(k == NameKind.free)=false:=by simpa using hk
    simp only[hb,Bool.false_eq_true,if_false];show (forIn r cs _:Sem _)=_;rw[ih _ fun y h=>hy y (OV _ h)];simp[ja,hb]
 unfold closureFor;have:=key scope.names [] h;exact PU (fun z=>z >>= fun r=>pure r) this
theorem jh {env:Env}:∀ {names:List (Str × NameKind)}{cs:List (Str × Addr)}{x:Str}{c:Addr},(∀y∈names,y.2=.free->∃c,env.cells.lookup y.1=some c)->(∀x c,cs.lookup x=some c->env.cells.lookup x=some c) ->
  (ja env names cs).lookup x=some c->env.cells.lookup x=some c
 | [],cs,x,c,_,h,e=>h x c e
 | (y,k)::r,cs,x,c,hn,h,e=>by
  unfold ja at e;refine jh (fun z hz=>hn z (OV _ hz)) ?_ e;intro z d ez;by_cases hk:k=.free
  ·subst hk;obtain⟨c',ec⟩:=hn _ PD rfl;simp only[beq_self_eq_true,if_true,List.lookup_cons] at ez;by_cases q:z=y
   ·subst q;simp[ec] at ez;rw[ec,ez]
   ·have:(z == y)=false:=by simpa using q
    rw[this] at ez;exact h z d ez
  ·have hb:(k == NameKind.free)=false:=by simpa using hk
   rw[hb] at ez;exact h z d ez
theorem sU:∀ {names:List (Str × NameKind)}{cs:List (Str × Addr)}{x:Str},(∃c,cs.lookup x=some c)->∃c,(ja env names cs).lookup x=some c
 | [],cs,x,h=>h
 | (y,k)::r,cs,x,h=>by
  unfold ja;refine sU ?_;by_cases hk:k=.free
  ·subst hk;simp only[beq_self_eq_true,if_true,List.lookup_cons];by_cases q:x=y
   ·subst q;simp
   ·have:(x == y)=false:=by simpa using q
    rw[this];exact h
  ·have hb:(k == NameKind.free)=false:=by simpa using hk
   rw[hb];exact h
theorem q5:∀ {names:List (Str × NameKind)}{cs:List (Str × Addr)}{x:Str},(x,NameKind.free)∈names->∃c,(ja env names cs).lookup x=some c
 | [],cs,x,h=>nomatch h
 | (y,k)::r,cs,x,h=>by
  unfold ja;rcases PQ.mp h with e|h
  ·cases e;exact sU (by simp)
  ·exact q5 h
def PTs (X:Cx)(xs:List Expr)(t:TT):Prop :=
 ∀(pins:List (Addr × Obj)) (s:Shared) (σ:L2.St) (H:Hp) (Q:Bool->Hp->Prop),L2.Inv X pins σ H s->t σ H Q ->
  wpAny (model X.prog X.w) X.A (forIn xs true fun c r=>if r=true then do let ok <-isTrue c X.env (eval c X.env);pure (ForInStep.yield ok) else pure (ForInStep.yield r)) (TP X pins σ Q) X.xe s
theorem og:∀xs:List Expr,(forIn xs false fun c r=>if r=true then do let ok <-isTrue c env (eval c env);pure (ForInStep.yield ok) else pure (ForInStep.yield r):Sem Bool)=pure false
 | []=>rfl
 | x::xs=>by rw[RO];simp only[Bool.false_eq_true,if_false];exact og xs
theorem zy:PTs X [] (fun σ H Q=>Q true H):=fun pins s σ H Q I h=>O2 ⟨H,I,h⟩
theorem ve (h1:PT X x t)(h2:PTs X xs u):PTs X (x::xs) (J_ t u):=by
 intro pins s σ H Q I h;rw[RO];simp only[if_true];refine OP (OP (thn (h1 pins s σ H _ I h) fun b s1 ⟨H1,I1,q1⟩=>?_));refine O2 ?_;cases b with
 | true =>rw[O0 rfl] at q1;exact h2 pins s1 σ H1 Q I1 q1
 | false =>rw[OY OS] at q1;show wpAny _ _ (forIn xs false _) _ _ _;rw[og];exact O2 ⟨H1,I1,q1⟩
theorem tH {R:Result->Shared->Prop}{s:Shared}{acc:Value}(I:Nat->Shared->Prop)(turn:∀n s,I n s->wpAny (model prog w) A (pyNext it) (fun r s₁=>match r with
   | none=>R (.ok .next) s₁
   | some v=>wpAny (model prog w) A (letOwnedTupleGo target it v) (fun _ s0=>wpAny (model prog w) A (assign target env v) (fun _ s₂ =>
     wpAny (model prog w) A (forIn ifs true fun c r=>if r=true then do let ok <-isTrue c env (eval c env);pure (ForInStep.yield ok) else pure (ForInStep.yield r)) (fun ok s₃ =>
      if ok=true then wpAny (model prog w) A (eval elt env) (fun x s₄ =>
       wpAny (model prog w) A (call (.builtin "list.append") [acc,x]) (fun _ s₅=>∃m,m<n/\I m s₅) (fun _ _=>False) s₄) (fun _ _=>False) s₃
      else ∃m,m<n/\I m s₃) (fun _ _=>False) s₂) (fun _ _=>False) s0) (fun _ _=>False) s₁) (fun _ _=>False) s)(n:Nat)(h:I n s):codeAny (model prog w) A (.compLoop (.ListComp elt [⟨target,iter,ifs,0⟩] scope pos) 0 it acc env) R s:=by
 refine codeAny_loop rfl I (fun n s hI=>?_) n h;show wpAny _ A ((compTurn (.ListComp elt [⟨target,iter,ifs,0⟩] scope pos) 0 it acc env).onRaise (fun x=>do noteFrame x env;theTreesLotGoes x)) _ _ s;refine wpAny_noted ?_;rw[compTurn_list];refine OP (wpAny_standAt (OP (wpAny_mono (turn n s hI) (fun r s₁ h₁=>?_) fun _ _ h'=>h'.elim)));cases r with
 | none=>exact O2 h₁
 | some v =>
  refine OP (wpAny_mono h₁ (fun _ s0 h₁=>?_) fun _ _ h'=>h'.elim);refine OP (wpAny_mono h₁ (fun _ s₂ h₂=>OP (wpAny_mono h₂ (fun ok s₃ h₃=>?_) fun _ _ h'=>h'.elim)) fun _ _ h'=>h'.elim);cases ok with
  | false=>exact O2 ⟨rfl,h₃⟩
  | true =>exact OP (OP (wpAny_mono h₃ (fun x s₄ h₄=>OP (wpAny_mono h₄ (fun _ s₅ h₅=>O2 (O2 ⟨rfl,h₅⟩)) fun _ _ h'=>h'.elim)) fun _ _ h'=>h'.elim))
noncomputable def cxC (X:Cx)(N:List Str)(s2:Shared)(H2:Hp)(fp:List Addr)(scope:Scope)(C:Addr):Cx :=
 { X with N:=N,s₀:=s2,H₀:=H2,env:=compEnvC scope (ja X.env scope.names []) C X.env,outer:=X.stack,stack:=X.stack,ex:=fp,fn:=fun _=>false,pn:=[],xe:=fun _ _=>False }
structure CScope (X:Cx)(scope:Scope):Prop where
 kind:scope.kind=.function
 nocell:∀y∈scope.names,y.2≠.cell
 nms:∀y∈scope.names,y.2=.local->scope.names.lookup y.1=some .local
 free:∀y∈scope.names,y.2=.free->X.env.kindOf y.1=some .cell\/X.env.kindOf y.1=some .free
theorem ou (h:(relabel scope env).names.lookup x=some k)(hk:k=.cell\/k=.free)(nc:∀y∈scope.names,y.2≠.cell):(x,NameKind.free)∈scope.names:=by
 have hm:=QG h;unfold relabel at hm;obtain⟨⟨n,k0⟩,hy,e⟩:=O9.mp hm;simp only at e;split at e
 ·rename_i hc;cases e;simp only[Bool.and_eq_true,beq_iff_eq] at hc;have:k0=.free:=hc.1.1;subst this;exact hy
 ·cases e;rcases hk with rfl|rfl
  ·exact absurd rfl (nc _ hy)
  ·exact hy
theorem lO {env:Env}:∀ {names:List (Str × NameKind)}{x:Str},names.lookup x=some .globalImplicit ->
  (names.map fun (n,k)=>if (k == NameKind.free && env.scope.kind == .function && env.kindOf n == some .cell) then (n,NameKind.cell) else (n,k)).lookup x=some .globalImplicit
 | [],_,h=>by simp at h
 | (n,k)::r,x,h=>by
  have ih:=@lO env r x;show List.lookup x ((if (k == NameKind.free && env.scope.kind == .function && env.kindOf n == some .cell)=true then (n,NameKind.cell) else (n,k))::_)=_;cases hx:x == n with
  | true =>simp only[List.lookup_cons,hx] at h;cases h;simp[List.lookup_cons,hx]
  | false =>
   simp only[List.lookup_cons,hx] at h;by_cases hc:(k == NameKind.free && env.scope.kind == .function && env.kindOf n == some .cell)=true
   ·rw[O0 hc];simp only[List.lookup_cons,hx];exact ih h
   ·rw[OY hc];simp only[List.lookup_cons,hx];exact ih h
theorem fu {env:Env}:∀ {names:List (Str × NameKind)}{x:Str},names.lookup x=some .free ->
  (names.map fun (n,k)=>if (k == NameKind.free && env.scope.kind == .function && env.kindOf n == some .cell) then (n,NameKind.cell) else (n,k)).lookup x=some .cell \/
  (names.map fun (n,k)=>if (k == NameKind.free && env.scope.kind == .function && env.kindOf n == some .cell) then (n,NameKind.cell) else (n,k)).lookup x=some .free
 | [],_,h=>by simp at h
 | (n,k)::r,x,h=>by
  have ih:=@fu env r x;show List.lookup x ((if (k == NameKind.free && env.scope.kind == .function && env.kindOf n == some .cell)=true then (n,NameKind.cell) else (n,k))::_)=_\/List.lookup x ((if (k == NameKind.free && env.scope.kind == .function && env.kindOf n == some .cell)=true then (n,NameKind.cell) else (n,k))::_)=_;cases hx:x == n with
  | true =>
   simp only[List.lookup_cons,hx] at h;cases h;by_cases hc:(NameKind.free == NameKind.free && env.scope.kind == .function && env.kindOf n == some .cell)=true
   ·rw[O0 hc];simp[List.lookup_cons,hx]
   ·rw[OY hc];simp[List.lookup_cons,hx]
  | false =>
   simp only[List.lookup_cons,hx] at h;by_cases hc:(k == NameKind.free && env.scope.kind == .function && env.kindOf n == some .cell)=true
   ·rw[O0 hc];simp only[List.lookup_cons,hx];exact ih h
   ·rw[OY hc];simp only[List.lookup_cons,hx];exact ih h
section
variable {X:Cx}{pins:List (Addr × Obj)}{σ:L2.St}{H2:Hp}{s2:Shared}{fp:List Addr}{scope:Scope}{C:Addr}{N:List Str}
theorem CScope.cells (S:CScope X scope)(I:L2.Inv X pins σ H2 s2):∀y∈scope.names,y.2=.free->∃c,X.env.cells.lookup y.1=some c:=fun y hy hf=>I.ok.has y.1 (S.free y hy hf)
theorem IA (S:CScope X scope)(I:L2.Inv X pins σ H2 s2)(f2:∀b∈fp,jo X pins H2 b)(fl:∀b∈fp,b<s2.heap.objs.size)(hC:s2.heap.objs.size<=C):(cxC X N s2 H2 fp scope C).Ok where
 mod:=I.ok.mod
 kind:=S.kind
 glob:=I.ok.glob
 blt:=I.ok.blt
 above:=hC
 inj:=fun x y c h1 h2=>I.ok.inj x y c (jh (S.cells I) (fun _ _ z=>by simp at z) h1) (jh (S.cells I) (fun _ _ z=>by simp at z) h2)
 has:=fun x hx=>by
  refine q5 (x:=x) ?_;rcases hx with h|h
  ·exact ou h (.inl rfl) S.nocell
  ·exact ou h (.inr rfl) S.nocell
 cab:=fun x c h=>by cases h
 hd:=I.ok.hd
 frames:=I.ok.frames
 stk:=.inl rfl
 exf:=fun b hb=>⟨PN (OW (fl b hb) hC),fun x c h=>(f2 b hb).2.2.2.2.1 x c (jh (S.cells I) (fun _ _ z=>by simp at z) h)⟩
 bs:=I.bs
 bsz:=O7 I.ok.bsz I.sz
 noex:=fun b o e hb=>by
  rcases (f2 b hb).2.2.2.1 with z|z
  ·exact I.ok.noex b o e z
  ·have:=O3 e;exact absurd (OW (OW this I.ok.bsz) z) (QV _)
 exfs:=fun b hb hf=>by
  rcases PQ.mp (I.stkSub b hf) with z|z
  ·exact(f2 b hb).2.1 z
  ·exact(f2 b hb).2.2.1 z
 funs:=I.stack
 frf:=I.stkFree
theorem wb {tk:Nat}{nt:List Str}{cn:List Str}{caps:List Nat}(S:CScope X scope)(I:L2.Inv X pins σ H2 s2)(f2:∀b∈fp,jo X pins H2 b)(fl:∀b∈fp,b<s2.heap.objs.size)(hC:s2.heap.objs.size<=C)(un:Un (frs X.stack) fp H2 H3 s2.heap h1)(hok:HOk X.prog X.w H3 h1)(ns:h1.Ns C (fun _=>none))(hn:H3 C=none)(keep:∀b o,s2.heap.get? b=some o->h1.get? b=some o)(free:∀b o,s2.heap.get? b=some o->H2 b=none->H3 b=none)(hcn:cn=caps.filterMap (X.N[·]?))(hcl:∀i∈caps,i<X.N.length)(hcf:∀x∈cn,scope.names.lookup x=some .free)(hce:∀x∈cn,X.env.kindOf x=some .cell\/X.env.kindOf x=some .free) :
  L2.Inv (cxC X (nt++cn) s2 H2 fp scope C) [] (nt.map (fun _=>none)++caps.map fun i=>(σ[i]?).join) H3 { s2 with heap:=h1,toks:=tk }:=by
 have cel:∀x c,(ja X.env scope.names []).lookup x=some c->X.env.cells.lookup x=some c:=fun x c h=>jh (S.cells I) (fun _ _ z=>by simp at z) h;have lenc:cn.length=caps.length:=by
  rw[hcn];clear hcf hce hcn
  induction caps with
  | nil=>rfl
  | cons i r ih =>have:X.N[i]?=some (X.N[i]'(hcl i PD)):=O6 (hcl i PD);rw[P6,this];simp only[List.length_cons];rw[ih fun j hj=>hcl j (OV _ hj)]
 have getc:∀(j i:Nat),caps[j]?=some i->∃x,cn[j]?=some x/\X.N[i]?=some x:=by
  rw[hcn];clear hcf hce hcn lenc
  induction caps with
  | nil=>intro j i h;simp at h
  | cons k r ih =>
   intro j i h;have hk:X.N[k]?=some (X.N[k]'(hcl k PD)):=O6 (hcl k PD);rw[P6,hk];cases j with
   | zero=>simp at h;subst h;exact⟨_,rfl,hk⟩
   | succ j=>exact ih (fun j hj=>hcl j (OV _ hj)) j i (by simpa using h)
 refine⟨IA S I f2 fl hC,rfl,I.bare,un,⟨_,ns,fun i x v e1 e2 e3=>?_⟩,fun x c e=>?_,hn,fun x c e=>?_,fun p hp=>absurd (show p∈([]:List (Addr × Obj)) from hp) (by simp),hok,?_⟩
 ·by_cases hi:i<nt.length
  ·rw[O_ (by simpa using hi),PC] at e2;cases q:nt[i]? with
   | none=>rw[q] at e2;cases e2
   | some z=>rw[q] at e2;cases e2
  ·rw[PB (by simpa using hi),O1,PC] at e2;have e1':(nt++cn)[i]?=some x:=e1;rw[PB (by omega)] at e1';cases q:caps[i-nt.length]? with
   | none=>rw[q] at e2;cases e2
   | some j =>
    rw[q] at e2;have e2':(σ[j]?).join=some v:=P4 e2;obtain⟨y,g1,g2⟩:=getc _ _ q;rw[e1'] at g1;cases g1;have e4:σ[j]?=some (some v):=by
     cases z:σ[j]? with
     | none=>rw[z] at e2';cases e2'
     | some w=>rw[z] at e2';rw[show w=some v from e2']
    obtain⟨m,hm,hl⟩:=I.loc;have kx:=hce x (OZ e1');obtain⟨u,ru,lk⟩:=hl j x v g2 e4 (.inr (by rcases kx with k|k;exact .inl k;exact .inr k));refine⟨u,ru,.inr ⟨fu (hcf x (OZ e1')),?_⟩⟩;rcases lk with⟨k,_⟩|⟨_,c,ec,hc⟩
    ·rcases kx with k' | k' <;> rw[k] at k' <;> cases k'
    ·obtain⟨c',ec'⟩:=q5 (env:=X.env) (names:=scope.names) (cs:=[]) (x:=x) (QG (hcf x (OZ e1')));have:=cel x c' ec';rw[ec] at this;cases this;obtain⟨o,ho,hd⟩:=hc;exact⟨c,ec',o,keep _ _ ho,hd⟩
 ·obtain⟨v,o,ho,hd⟩:=I.cell x c (cel x c e);exact⟨v,o,keep _ _ ho,hd⟩
 ·obtain⟨v,o,ho,hd⟩:=I.cell x c (cel x c e);exact free c o ho (I.freeC x c (cel x c e))
 ·show (nt.map (fun _=>(none:Option V))++caps.map fun i=>(σ[i]?).join).length=(nt++cn).length;simp[lenc]
end
end FW
namespace FW
open L2 HX
section
variable {Γ:Nat->FSp}
mutual
theorem sL {n:Nat}(G:aT Γ):∀(t:Tg) {v:PV}{ρ:Fr}{st:AH}{Q:Fr->AH->Prop},t.low n=true->cX Γ t v ρ st Q->cX Γ t v ρ st fun ρ' st'=>Q ρ' st'/\∀i,n<=i->ρ'[i]?=ρ[i]?
 | .name i,v,ρ,st,Q,h,q=>by
  skip
  rw[Tg.low] at h;have:=P2 h;exact⟨q,fun j hj=>PR (by omega)⟩
 | .tup ts,v,ρ,st,Q,h,q=>by
  skip
  rw[Tg.low] at h;obtain⟨xs,e,hl,q⟩:=q;exact⟨xs,e,hl,qE G ts h q⟩
 | .ltup ts,v,ρ,st,Q,h,q=>False.elim q
 | .sub _ _,v,ρ,st,Q,h,q=>by rw[Tg.low] at h;cases h
theorem qE {n:Nat}(G:aT Γ):∀(t:Tgs) {v:List PV}{ρ:Fr}{st:AH}{Q:Fr->AH->Prop},t.low n=true->jf Γ t v ρ st Q->jf Γ t v ρ st fun ρ' st'=>Q ρ' st'/\∀i,n<=i->ρ'[i]?=ρ[i]?
 | .nil,v,ρ,st,Q,h,q=>by exact⟨q.1,q.2,fun _ _=>rfl⟩
 | .cons t ts,v,ρ,st,Q,h,q=>by
  skip
  rw[Tgs.low,OU] at h;obtain⟨x,r,e,q⟩:=q;refine⟨x,r,e,aU G t (fun ρ1 st1 k=>?_) (sL G t h.1 q)⟩;refine iD G ts (fun ρ2 st2 k2=>⟨k2.1,fun i hi=>(k2.2 i hi).trans (k.2 i hi)⟩) (qE G ts h.2 k.1)
end
end
mutual
theorem R.mono0 (ht:∀a ys,SqT K H a ys->SqT K H' a ys)(hr:∀a ys,RdF K H a ys->RdF K H' a ys):∀ {p:PV}{v:V},R K m H p v->R K m H' p v
 | .non,v,h=>by rw[R_non] at h |-;exact h
 | .bl b,v,h=>by rw[R_bl] at h |-;exact h
 | .int b,v,h=>by rw[R_int] at h |-;exact h
 | .str b,v,h=>by rw[R_str] at h |-;exact h
 | .ref n,v,h=>by rw[jv] at h |-;exact h
 | .tup xs,v,h=>by rw[R_tup] at h |-;obtain⟨a,ys,e,q,r⟩:=h;exact⟨a,ys,e,ht _ _ q,Rs.mono0 ht hr r⟩
 | .rdl xs,v,h=>by rw[gC] at h |-;obtain⟨a,ys,e,q,r⟩:=h;exact⟨a,ys,e,hr _ _ q,Rs.mono0 ht hr r⟩
 | .fn a,v,h=>by rw[Bc] at h |-;exact h
theorem Rs.mono0 (ht:∀a ys,SqT K H a ys->SqT K H' a ys)(hr:∀a ys,RdF K H a ys->RdF K H' a ys):∀ {ps:List PV}{vs:List V},Rs K m H ps vs->Rs K m H' ps vs
 | [],vs,h=>by rw[Rs_nil] at h |-;exact h
 | p::ps,vs,h=>by
  rw[bh] at h |-
  obtain⟨y,r,e,h1,h2⟩:=h;exact⟨y,r,e,R.mono0 ht hr h1,Rs.mono0 ht hr h2⟩
end
theorem iE {H:Hp}{D:Addr}(hD:H D=some (.lst ys)):∀a us,SqT K H a us->SqT K (upd H D (.lst zs)) a us:=fun a us q=>by
 rcases q with (q|⟨w,q⟩)|q
 ·exact .inl (.inl (by rw[ao (fun z=>by subst z;rw[hD] at q;cases q)];exact q))
 ·exact .inl (.inr ⟨w,by rw[ao (fun z=>by subst z;rw[hD] at q;cases q)];exact q⟩)
 ·exact .inr q
theorem iC {H:Hp}{D:Addr}(hD:H D=some (.lst ys)):∀a us,RdF K H a us->RdF K (upd H D (.lst zs)) a us:=fun a us q=>by
 rcases q with⟨w,q⟩|q
 ·exact .inl ⟨w,by rw[ao (fun z=>by subst z;rw[hD] at q;cases q)];exact q⟩
 ·exact .inr q
theorem TB.away {D:Addr}(t:TB K H)(hD:H D=some (.lst ys)):TB K (upd H D (.lst zs)) :=
 t.keep (fun a ps q=>by rw[ao (fun z=>by subst z;rw[hD] at q;cases q)];exact q) fun a o q=>by rw[ao (fun z=>by subst z;rw[hD] at q;cases q)];exact q
theorem Ext.away {D:Addr}(x:Ext K m H m' H')(h0:H D=none)(hD:H' D=some (.lst ys)):Ext K m H m' (upd H' D (.lst zs)) :=
 ⟨x.pre,x.new,fun a o ha e n=>by rw[ao (aH e h0)];exact x.fr a o ha e n,fun a us q=>iE hD a us (x.tup a us q),fun a us q=>iC hD a us (x.rdf a us q),fun a ps ha e=>let ⟨p1,e1⟩:=x.tbs a ps ha e;⟨p1,by rw[ao (aH e h0)];exact e1⟩,fun t=>(x.tb t).away hD,fun a o u e=>by rw[ao (aH e h0)];exact x.frz a o u e⟩
theorem RH.away {D:Addr}(h:RH K m H st)(hm:D ∉ m)(hD:H D=some (.lst ys)):RH K m (upd H D (.lst zs)) st:=by
 refine⟨h.len,h.nd,fun n c a h1 h2=>?_,h.tb.away hD⟩;have ha:a≠D:=fun z=>hm (z ▸ OZ h2);have hc:=h.at_ n c a h1 h2;cases c with
 | lst xs=>obtain⟨us,g1,g2⟩:=hc;exact⟨us,by rw[ao ha];exact g1,g2.mono0 (iE hD) (iC hD)⟩
 | dk kvs=>obtain⟨us,g1,g2,g3⟩:=hc;exact⟨us,by rw[ao ha];exact g1,g2,g3.mono0 (iE hD) (iC hD)⟩
 | fz kvs=>obtain⟨o,us,g1,g2,g3⟩:=hc;exact⟨o,us,by rw[ao ha];exact g1,g2,g3.mono0 (iE hD) (iC hD)⟩
theorem RF.away {D:Addr}(h:RF K m H ρ σ)(hD:H D=some (.lst ys)):RF K m (upd H D (.lst zs)) ρ σ :=
 ⟨h.len,fun i v e=>let ⟨y,e1,r⟩:=h.at_ i v e;⟨y,e1,r.mono0 (iE hD) (iC hD)⟩⟩
theorem RF.less {ρ:Fr}{n:Nat}(h:RF K m H ρ' σ)(hl:ρ.length=ρ'.length)(hn:∀i v,ρ[i]?=some (some v)->n<=i)(hp:∀i,n<=i->ρ'[i]?=ρ[i]?):RF K m H ρ σ :=
 ⟨hl.trans h.len,fun i v e=>h.at_ i v (by rw[hp i (hn i v e)];exact e)⟩
theorem sD {nt:List Str}{f:Nat->Option PV}{caps:List Nat}:∀(i:Nat) (v:PV),(nt.map (fun _=>(none:Option PV))++caps.map f)[i]?=some (some v)->nt.length<=i:=fun i v e=>by
 by_cases hi:i<nt.length
 ·rw[O_ (by simpa using hi),PC] at e;cases q:nt[i]? with
  | none=>rw[q] at e;cases e
  | some z=>rw[q] at e;cases e
 ·omega
theorem Ey {nt:List Str}{caps:List Nat}(h:RF K m H ρ σ) :
  RF K m H (nt.map (fun _=>none)++caps.map fun i=>(ρ[i]?).join) (nt.map (fun _=>none)++caps.map fun i=>(σ[i]?).join):=by
 refine⟨by simp,fun i v e=>?_⟩;have hi:=sD i v e;rw[PB (by simpa using hi),O1,PC] at e;rw[PB (by simpa using hi),O1,PC];cases q:caps[i-nt.length]? with
 | none=>rw[q] at e;cases e
 | some j =>
  rw[q] at e;have e':(ρ[j]?).join=some v:=P4 e;have e4:ρ[j]?=some (some v):=by
   cases z:ρ[j]? with
   | none=>rw[z] at e';cases e'
   | some w=>rw[z] at e';rw[show w=some v from e']
  obtain⟨y,e5,r⟩:=h.at_ j v e4;exact⟨y,by show some ((σ[j]?).join)=_;rw[e5];rfl,r⟩
section
variable {X:Cx}{Γ:Nat->FSp}{pins:List (Addr × Obj)}{σ:L2.St}{H:Hp}{s:Shared}
noncomputable def bZ (K:W.Frag)(m1:List Addr)(H1:Hp)(Fin:Addr->Hp->Prop):LK:=fun vs st2=>∀m2 H2 D ys,Ext K m1 H1 m2 H2->RH K m2 H2 st2->D ∉ m2->H1 D=none->H2 D=some (.lst ys)->Rs K m2 H2 vs ys->Fin D H2
noncomputable def gq (Γ:Nat->FSp)(elt:E)(tg:Tg)(ifs:Es)(ρ:Fr):PV->AH->(Option PV->AH->Prop)->Prop:=fun x st2 k=>cX Γ tg x ρ st2 fun ρ' st3=>jt Γ ifs ρ' st3 fun c st4=>if c=true then wpE Γ elt ρ' st4 fun v st5=>k (some v) st5 else k none st4
theorem tq (G:aT Γ)(hcalm:X.calm=true){tg:Tg}{nt:List Str}{caps:List Nat}{cn:List Str}{Fin:Addr->Hp->Prop}(S:CScope X scope)(hcn:cn=caps.filterMap (X.N[·]?))(hcl:∀i∈caps,i<X.N.length)(hcf:∀x∈cn,scope.names.lookup x=some .free)(hce:∀x∈cn,X.env.kindOf x=some .cell\/X.env.kindOf x=some .free)(hset:gh iterx=true)(hlow:tg.low nt.length=true)(hI:PI X tgx iterx wi)(hG:∀s2 H2 fp C,PG (cxC X (nt++cn) s2 H2 fp scope C) tgx (TGx X.K (cX Γ tg)))(hT:∀s2 H2 fp C,PTs (cxC X (nt++cn) s2 H2 fp scope C) ifsx (TTx X.K (jt Γ ifs)))(hE:∀s2 H2 fp C,PE (cxC X (nt++cn) s2 H2 fp scope C) eltx (TEx X.K (wpE Γ elt)))(I:L2.Inv X pins σ H s)(h:wi σ H fun J H1=>∃m ρ st1 xs chk,RF X.K m H1 ρ σ/\RH X.K m H1 st1/\q9 X.K J xs chk m H1/\xs.length<100000/\fQ chk (gq Γ elt tg ifs (nt.map (fun _=>none)++caps.map fun i=>(ρ[i]?).join)) xs [] st1 (bZ X.K m H1 Fin))(fin:∀C D H' s' m',L2.Inv X pins σ H' s'->s'.heap.Ns C m'->jo X pins H' C->Fin D H'->compPost (model X.prog X.w) X.A X.xe use Qf (.ref D) C (.ok .next) s') :
  wpAny (model X.prog X.w) X.A (comprehension (.ListComp eltx [⟨tgx,iterx,ifsx,0⟩] scope pos) scope X.env p0 (newList []) false (eval iterx X.env) use) Qf X.xe s:=by
 refine wpAny_comprehension_free (use:=use) rfl (md hset) (qZ (S.cells I)) S.kind S.nms ?_;refine thn (hI pins s σ H _ I h) fun v s1 h1=>thn h1 fun itv s2 h2=>?_;obtain⟨it,fp,tn,J,H2,e,I2,T,st2,f2,m,ρ,st1,xs,chk,rf,rh,W,hxs,w⟩:=h2;subst e;have fl:∀b∈fp,b<s2.heap.objs.size:=fun b hb=>by obtain⟨o,e,_⟩:=T.obj 0 _ st2 b hb;exact O3 e
 refine wpAny_newObj_type (wpAny_newFunctionEnv S.nocell (by intro y hy;simp at hy) (fun h₁ hns₁ hsb₁=>?_) S.kind);dsimp only at hns₁ hsb₁ |-
 generalize hD:s2.heap.objs.size=D at *;generalize hH3:s2.heap.push { cls:=.type "list",dict:=none,data:=.seq ([]:List Value).toArray }=P3 at hns₁ hsb₁ |-
 generalize hCC:P3.objs.size=C at *;have hC1:C=D+1:=by rw[<-hCC,<-hH3,RI,hD]
 have ltDC:D<C:=by rw[hC1];exact SO D
 have neC:∀b,b<D->b≠C:=fun b hb=>PN (RX hb ltDC);have hDn:H2 D=none:=by rw[<-hD];exact I2.hok.fresh (OX _)
 have hCn:H2 C=none:=I2.hok.fresh (by rw[hD];exact QN ltDC);have old3:∀b o,s2.heap.get? b=some o->P3.get? b=some o:=fun b o e=>hH3 ▸ OR _ e;have old:∀b o,s2.heap.get? b=some o->h₁.get? b=some o:=fun b o e=>hsb₁.extBut b o (neC b (hD ▸ O3 e)) (OR _ (old3 b o e));have newD:h₁.get? D=some { cls:=.type "list",data:=.seq #[] }:=hsb₁.extBut _ _ (PN ltDC) (OR _ (by rw [<-hH3,<-hD];exact O5 _ rfl));have un:Un (frs X.stack) fp H2 (upd H2 D (.lst [])) s2.heap h₁:=Un.laid old (by rw[hD];exact OX _) hDn;have hok:HOk X.prog X.w (upd H2 D (.lst [])) h₁:=I2.hok.laid old (by rw[hD];exact OX _) ⟨P9 _,[],0,.nil,newD⟩;have I4:=wb (nt:=nt) (tk:=s2.toks+([]:List (Str × Value)).length) S I2 f2 (by rw[hD];exact fl) (C:=C) (by rw[hD];exact QN ltDC) un hok (by simpa using hns₁) (by rw[ao (TK ltDC)];exact hCn) old
  (fun b o e n=>by rw[ao (PN (hD ▸ O3 e))];exact n) hcn hcl hcf hce
 generalize hρ0:(nt.map (fun _=>none)++caps.map fun i=>(ρ[i]?).join:Fr)=ρ0 at w;have hρn:∀i v,ρ0[i]?=some (some v)->nt.length<=i:=by rw[<-hρ0];exact sD
 have rf0:RF X.K m H2 ρ0 (nt.map (fun _=>none)++caps.map fun i=>(σ[i]?).join):=by rw[<-hρ0];exact Ey rf
 generalize (nt.map (fun _=>none)++caps.map fun i=>(σ[i]?).join:L2.St)=σ0 at I4 rf0;have loop:codeAny (model X.prog X.w) X.A (.compLoop (.ListComp eltx [⟨tgx,iterx,ifsx,0⟩] scope pos) 0 (.ref it) (.ref D) (compEnvC scope (ja X.env scope.names []) C X.env)) (compPost (model X.prog X.w) X.A X.xe use Qf (.ref D) C)
   { s2 with heap:=h₁,toks:=s2.toks+([]:List (Str × Value)).length }:=by
  refine tH (fun n s'=>∃(i:Nat),∃σ' H' m' st' acc ys,n+i=xs.length/\L2.Inv (cxC X (nt++cn) s2 H2 fp scope C) [] σ' H' s'/\tn i s'.heap/\(∀b∈fp,H' b=none)/\Ext X.K m H2 m' H'/\RH X.K m' H' st'/\RF X.K m' H' ρ0 σ'/\D ∉ m'/\H' D=some (.lst ys)/\Rs X.K m' H' acc ys/\ys.length<=i /\
   fQ chk (gq Γ elt tg ifs ρ0) (xs.drop i) acc st' (bZ X.K m H2 Fin)) ?_ xs.length
   ⟨0,σ0,_,m,st1,[],[],rfl,I4,T.keep 0 _ _ st2 (fun b _ o e=>old b o e),fun b hb=>by rw[ao (PN (fl b hb))];exact(f2 b hb).1,Ext.newT rh hDn,rh.newT hDn,rf0.mono (Ext.newT rh hDn),rh.fresh hDn,bq,Rs_nil.mpr rfl,OX _,by simpa using w⟩
  rintro n s' ⟨i,σ',H',m',st',acc,ys,hn,I',tni,fpn,x',rh',rf',Dm,hDl,rys,hly,k⟩;have stat:∀ {H'':Hp},(∀b∈fp,H'' b=none)->∀b∈fp,jo (cxC X (nt++cn) s2 H2 fp scope C) [] H'' b:=fun hz b hb=>⟨hz b hb,(I'.ok.exf b hb).1,I'.ok.exfs b hb,.inl hb,(I'.ok.exf b hb).2,fun p hp=>absurd (show p∈([]:List (Addr × Obj)) from hp) (by simp)⟩;cases q:xs.drop i with
  | nil =>
   rw[q] at k;have hi:i=xs.length:=by have:=PU List.length q;simp at this;omega
   subst hi;refine thn (T.done (cxC X (nt++cn) s2 H2 fp scope C) rfl rfl rfl hcalm _ [] s' σ' H' (fun _ _=>False) I' (stat fpn) tni (W.stop m' H' st' x' rh' k.1)) fun r s1 ⟨hr,I1⟩=>?_;subst hr;have IX:L2.Inv X pins σ H' s1:=I2.call' I1.os I1.base I1.hok I1.bare fun b hb=>⟨(f2 b hb).2.2.2.1,(f2 b hb).2.1,(f2 b hb).2.2.2.2.1,(f2 b hb).2.2.2.2.2⟩;obtain⟨mm,hns,_⟩:=I1.loc;exact fin C D H' s1 mm IX hns (I2.fpOk (by rw[hD];exact QN ltDC) I1.free) (k.2 m' H' D ys x' rh' Dm hDn hDl rys)
  | cons v rest =>
   rw[q] at k;have hi:i<xs.length:=by have:=PU List.length q;simp at this;omega
   have ev:xs[i]?=some v:=by have:=PU List.head? q;rw[SY] at this;exact this
   have er:rest=xs.drop (i+1):=by have:=PU List.tail q;rw[S4] at this;exact this.symm
   subst er;obtain⟨kc,k⟩:=k;obtain⟨go,yl⟩:=W.item i v m' H' st' x' rh' kc ev;refine thn (T.item (cxC X (nt++cn) s2 H2 fp scope C) rfl rfl rfl hcalm i [] s' σ' H' (fun _ _=>False) I' (stat fpn) tni go) fun r s4 ⟨u,hr,h4⟩=>?_;subst hr;refine thn h4 fun _ s5 ⟨x,H5,I5,r5,y5,tn5,fr5⟩=>?_;obtain⟨x5,rh5,rv5⟩:=yl x H5 y5;have I5':=I5.pinned (stat fr5) (T.obj _ _ tn5);have again:∀ {σ7:L2.St}{H7:Hp}{s7:Shared}{m7:List Addr}{st7:AH}{acc7:List PV}{ys7:List V},L2.Inv (cxC X (nt++cn) s2 H2 fp scope C) ([]++nU fp s5.heap) σ7 H7 s7->Ext X.K m H2 m7 H7->RH X.K m7 H7 st7->RF X.K m7 H7 ρ0 σ7->D ∉ m7->H7 D=some (.lst ys7) ->
     Rs X.K m7 H7 acc7 ys7->ys7.length<=i+1->fQ chk (gq Γ elt tg ifs ρ0) (xs.drop (i+1)) acc7 st7 (bZ X.K m H2 Fin) ->
     ∃n',n'<n/\∃(i:Nat),∃σ' H' m' st' acc ys,n'+i=xs.length/\L2.Inv (cxC X (nt++cn) s2 H2 fp scope C) [] σ' H' s7/\tn i s7.heap/\(∀b∈fp,H' b=none)/\Ext X.K m H2 m' H'/\RH X.K m' H' st'/\RF X.K m' H' ρ0 σ'/\D ∉ m'/\H' D=some (.lst ys)/\Rs X.K m' H' acc ys/\ys.length<=i /\
      fQ chk (gq Γ elt tg ifs ρ0) (xs.drop i) acc st' (bZ X.K m H2 Fin):=fun {σ7 H7 s7 m7 st7 acc7 ys7} I7 g1 g2 g3 g4 g5 g6 g7 g8=>by
    refine⟨n-1,by omega,i+1,σ7,H7,m7,st7,acc7,ys7,by omega,I7.unpinned,T.keep _ _ _ tn5 fun b hb o e=>(I7.pin (b,o) (PP _ (PP _ (dW hb e)))).1,fun b hb=>?_,g1,g2,g3,g4,g5,g6,g7,g8⟩;obtain⟨o,e,d⟩:=T.obj _ _ tn5 b hb;exact(I7.pin (b,o) (PP _ (PP _ (dW hb e)))).2.1
   have k2:=sL (n:=nt.length) G tg hlow k;refine thn (hG s2 H2 fp C _ s5 σ' H5 x u (fun σ6 H6=>∃m6 ρ1 st6,Ext X.K m' H5 m6 H6/\RH X.K m6 H6 st6/\RF X.K m6 H6 ρ1 σ6/\(∀j,nt.length<=j->ρ1[j]?=ρ0[j]?) /\
    jt Γ ifs ρ1 st6 fun c st4=>if c=true then wpE Γ elt ρ1 st4 fun vv st5=>fQ chk (gq Γ elt tg ifs ρ0) (xs.drop (i+1)) (acc++[vv]) st5 (bZ X.K m H2 Fin) else fQ chk (gq Γ elt tg ifs ρ0) (xs.drop (i+1)) acc st4 (bZ X.K m H2 Fin)) I5' r5
    ⟨m',ρ0,st',v,rf'.mono x5,rh5,rv5,aU G tg (fun ρ1 st6 z m6 H6 σ6 x6 rh6 rf6=>⟨m6,ρ1,st6,x6,rh6,rf6,z.2,cG G ifs (fun c st4 zz=>by
     cases c with
     | true=>rw[O0 rfl] at zz |-;exact zz
     | false=>rw[OY OS] at zz |-;simpa using zz) z.1⟩) k2⟩) fun _ s6 ⟨σ6,H6,I6,m6,ρ1,st6,x6,rh6,rf6,pr,w6⟩=>?_
   have hlen:ρ0.length=ρ1.length:=by rw[rf6.len,I6.len,rf'.len,I'.len]
   refine thn (hT s2 H2 fp C _ s6 σ6 H6 (fun b H7=>∃m7 st7,Ext X.K m6 H6 m7 H7/\RH X.K m7 H7 st7/\if b=true then wpE Γ elt ρ1 st7 fun vv st5=>fQ chk (gq Γ elt tg ifs ρ0) (xs.drop (i+1)) (acc++[vv]) st5 (bZ X.K m H2 Fin) else fQ chk (gq Γ elt tg ifs ρ0) (xs.drop (i+1)) acc st7 (bZ X.K m H2 Fin)) I6
    ⟨m6,ρ1,st6,rf6,rh6,cG G ifs (fun b st7 z m7 H7 x7 rh7=>⟨m7,st7,x7,rh7,z⟩) w6⟩) fun b s7 ⟨H7,I7,m7,st7,x7,rh7,w7⟩=>?_
   have xx7:Ext X.K m' H' m7 H7:=(x5.trans x6).trans x7;cases b with
   | false =>
    rw[OY OS] at w7 |-
    refine again I7 (x'.trans xx7) rh7 ((rf6.mono x7).less hlen hρn pr) (fun z=>?_) (xx7.fr D _ Dm hDl fun _ z=>nomatch z) (rys.mono xx7) (by omega) w7;rcases xx7.new D z with z|z
    ·exact Dm z
    ·rw[hDl] at z;cases z
   | true =>
    rw[O0 rfl] at w7 |-
    refine thn (hE s2 H2 fp C _ s7 σ6 H7 (fun y H8=>∃m8 st8 vv,Ext X.K m7 H7 m8 H8/\RH X.K m8 H8 st8/\R X.K m8 H8 vv y/\fQ chk (gq Γ elt tg ifs ρ0) (xs.drop (i+1)) (acc++[vv]) st8 (bZ X.K m H2 Fin)) I7
     ⟨m7,ρ1,st7,rf6.mono x7,rh7,aa G elt (fun vv st8 z m8 H8 y x8 rh8 r8=>⟨m8,st8,vv,x8,rh8,r8,z⟩) w7⟩) fun uy s8 ⟨y,H8,I8,ry,m8,st8,vv,x8,rh8,r8,w8⟩=>?_
    have xx8:Ext X.K m' H' m8 H8:=xx7.trans x8;have hD8:H8 D=some (.lst ys):=xx8.fr D _ Dm hDl fun _ z=>nomatch z;have Dm8:D ∉ m8:=fun z=>by
     rcases xx8.new D z with z|z
     ·exact Dm z
     ·rw[hDl] at z;cases z
    refine thn (nu (X:=cxC X (nt++cn) s2 H2 fp scope C) _ s8 σ6 H8 (.ref D) [y] (.ref D) [uy] (fun _ H9=>H9=upd H8 D (.lst (ys++[y]))) I8 rfl (.cons ry .nil) ⟨D,ys,y,rfl,rfl,hD8,pw (by omega),rfl⟩) fun _ s9 ⟨_,H9,I9,_,e9⟩=>?_;subst e9;exact again I9 ((x'.trans xx8).away hDn hD8) (rh8.away Dm8 hD8) ((((rf6.mono x7).mono x8).less hlen hρn pr).away hD8) Dm8 bq (((rys.mono xx8).app (.one r8)).mono0 (iE hD8) (iC hD8)) (by simp;omega) w8
 exact codeAny_compStart_list loop (T.self X.A 0 _ _ _ (T.keep 0 _ _ st2 fun b _ o e=>old b o e) loop)
end
end FW
namespace FW
open L2 HX
mutual
theorem R.pre {m:List Addr}(hp:m <+: m'):∀ {p:PV}{v:V},R K m H p v->R K m' H p v
 | .non,v,h=>by rw[R_non] at h |-;exact h
 | .bl b,v,h=>by rw[R_bl] at h |-;exact h
 | .int b,v,h=>by rw[R_int] at h |-;exact h
 | .str b,v,h=>by rw[R_str] at h |-;exact h
 | .fn b,v,h=>by rw[Bc] at h |-;exact h
 | .ref n,v,h=>by rw[jv] at h |-;obtain⟨a,e,q⟩:=h;exact⟨a,lz hp e,q⟩
 | .tup xs,v,h=>by rw[R_tup] at h |-;obtain⟨a,ys,e,q,r⟩:=h;exact⟨a,ys,e,q,Rs.pre hp r⟩
 | .rdl xs,v,h=>by rw[gC] at h |-;obtain⟨a,ys,e,q,r⟩:=h;exact⟨a,ys,e,q,Rs.pre hp r⟩
theorem Rs.pre {m:List Addr}(hp:m <+: m'):∀ {ps:List PV}{vs:List V},Rs K m H ps vs->Rs K m' H ps vs
 | [],vs,h=>by rw[Rs_nil] at h |-;exact h
 | p::ps,vs,h=>by
  rw[bh] at h |-
  obtain⟨y,r,e,h1,h2⟩:=h;exact⟨y,r,e,R.pre hp h1,Rs.pre hp h2⟩
end
section
variable {Γ:Nat->FSp}{X:Cx}{c:Cfg}
theorem y6 (h:AO k=true):k=some .cell\/k=some .free:=by unfold AO at h;simpa using h
end
end FW
namespace FW
open L2 HX
end FW
namespace FW
open L2 HX
section
variable {X:Cx}{pins:List (Addr × Obj)}{σ:L2.St}{H:Hp}{s:Shared}{a:Addr}{ys:List (Key × V)}{o:Obj}
end
section
variable {K:W.Frag}{m m2:List Addr}{H H2:Hp}{st:AH}{n:Nat}{a:Addr}{o:Obj}{ys:List (Key × V)}{kvs:List (Key × PV)}
end
section
variable {X:Cx}{c:Cfg}{Γ:Nat->FSp}
end
end FW
namespace FW
open L2 HX
section
variable {X:Cx}{pins:List (Addr × Obj)}{σ:L2.St}{H:Hp}{s:Shared}{a:Addr}{A:Around}{E:Value->Shared->Prop}
end
section
variable {K:W.Frag}{m m':List Addr}{H H':Hp}{st:AH}{D:Addr}{ys zs:List (Key × V)}
end
section
variable {X:Cx}{Γ:Nat->FSp}{pins:List (Addr × Obj)}{σ:L2.St}{H:Hp}{s:Shared}
def DRel (K:W.Frag)(m:List Addr)(H:Hp)(ps:List (Str × PV))(ds:List (Key × V)):Prop:=ds.map (·.1)=(Gv ps).map (·.1)/\Rs K m H ((Gv ps).map (·.2)) (ds.map (·.2))
theorem DRel.mono (h:DRel K m H ps ds)(x:Ext K m H m' H'):DRel K m' H' ps ds:=⟨h.1,h.2.mono x⟩
end
end FW
namespace FW
open L2 HX
section
variable {prog:Program}{w:World}{A:Around}{E:Value->Shared->Prop}{s:Shared}
variable {R:Result->Shared->Prop}
end
end FW
namespace FW
open L2 HX
section
variable {prog:Program}{w:World}{A:Around}{E:Value->Shared->Prop}{s:Shared}
end
section
variable {X:Cx}{c:Cfg}{Γ:Nat->FSp}
end
end FW
namespace FW
open L2 HX
section
variable {prog:Program}{w:World}
variable {A:Around}{E:Value->Shared->Prop}{s:Shared}
end
section
variable {X:Cx}{pins:List (Addr × Obj)}{σ:L2.St}{H:Hp}{s:Shared}{m:List Addr}{st:AH}
end
end FW
namespace FW
open L2 HX
theorem Ext.addD {D:Addr}(x:Ext K m H m2 H2)(h0:H D=none):Ext K m H (m2++[D]) H2:=by
 refine⟨x.pre.trans (S2 _ _),fun a ha=>?_,x.fr,x.tup,x.rdf,x.tbs,x.tb,x.frz⟩;rcases P7.mp ha with z|z
 ·exact x.new a z
 ·rw[PM] at z;subst z;exact .inr h0
section
variable {X:Cx}{c:Cfg}{Γ:Nat->FSp}
end
end FW
namespace FW
open L2 HX
section
variable {Γ:Nat->FSp}
theorem rj (G:aT Γ){st:AH}{k k':Option PV->AH->Prop}(hk:∀o st,k o st->k' o st)(q:gq Γ elt tg ifs ρ x st k):gq Γ elt tg ifs ρ x st k' :=
 aU G tg (fun ρ' st3 w=>cG G ifs (fun c st4 w=>by
  cases c with
  | true=>rw[O0 rfl] at w |-;exact aa G elt (fun v st5 w=>hk _ _ w) w
  | false=>rw[OY OS] at w |-;exact hk _ _ w) w) q
theorem RH.addD {D:Addr}(h:RH K m H st)(Dm:D ∉ m)(hD:H D=some (.lst ys))(r:Rs K m H vs ys):RH K (m++[D]) H (st++[.lst vs]):=by
 have hp:m <+: m++[D]:=S2 _ _;refine⟨by simp[h.len],RS.mpr ⟨h.nd,O4.mpr ⟨by simp,TU⟩,fun a ha b hb z=>?_⟩,fun n c' a h1 h2=>?_,h.tb⟩
 ·rw[PM] at hb;subst hb;exact Dm (z ▸ ha)
 ·by_cases hn:n<st.length
  ·rw[O_ hn] at h1;rw[O_ (by rw[h.len];exact hn)] at h2;have hc:=h.at_ n c' a h1 h2;cases c' with
   | lst xs=>obtain⟨us,g1,g2⟩:=hc;exact⟨us,g1,g2.pre hp⟩
   | dk kvs=>obtain⟨us,g1,g2,g3⟩:=hc;exact⟨us,g1,g2,g3.pre hp⟩
   | fz kvs=>obtain⟨o,us,g1,g2,g3⟩:=hc;exact⟨o,us,g1,g2,g3.pre hp⟩
  ·rw[PB (by omega)] at h1;rw[PB (by rw[h.len];omega)] at h2;have hl:=h.len;by_cases hz:n-st.length=0
   ·rw[hz] at h1;rw[show n-m.length=0 by omega] at h2;simp at h1 h2;subst h1 h2;exact⟨ys,hD,r.pre hp⟩
   ·rw[QU (by simp;omega)] at h1;cases h1
theorem mn (C:COk X c Γ){nt:List Str}(h:c.block nt caps sc=true) :
  CScope X sc/\(∀i∈caps,i<X.N.length)/\(∀x∈caps.filterMap (X.N[·]?),sc.names.lookup x=some .free)/\(∀x∈caps.filterMap (X.N[·]?),X.env.kindOf x=some .cell\/X.env.kindOf x=some .free)/\(nt++caps.filterMap (X.N[·]?)).Nodup:=by
 unfold Cfg.block at h;simp only[Bool.and_eq_true,List.all_eq_true,beq_iff_eq,decide_eq_true_eq,Bool.or_eq_true,Bool.not_eq_true',beq_eq_false_iff_ne] at h;obtain⟨⟨⟨⟨⟨⟨h1,h2⟩,h3⟩,h4⟩,h5⟩,h6⟩,h7⟩:=h;rw[C.N];refine⟨⟨h1,fun y hy=>h2 y hy,fun y hy e=>?_,fun y hy e=>?_⟩,h5,fun x hx=>(h6 x hx).1,fun x hx=>C.cel x (y6 (h6 x hx).2),h7⟩
 ·rcases h3 y hy with z|z
  ·exact absurd e z
  ·exact z
 ·rcases h4 y hy with z|z
  ·exact absurd e z
  ·exact C.cel _ (y6 z)
theorem xQ (C:COk X c Γ){nt:List Str}(h:c.block nt caps sc=true) :
  COk (cxC X (nt++caps.filterMap (X.N[·]?)) s2 H2 fp sc A) (c.inner nt caps sc) Γ:=by
 obtain⟨S,k1,k2,k3,k4⟩:=mn C h;have nocell:∀x,sc.names.lookup x≠some .cell:=fun x e=>S.nocell _ (QG e) rfl;refine⟨C.calm,PassesOwn.never,?_,?_,fun x hx=>?_,fun x hx=>?_,fun x hx=>lookup_relabel_local hx,fun x hx=>lO hx,?_,fun x hx=>?_,C.room,C.fn,C.blt,C.gl,C.mono,fun h=>Bool.noConfusion (show false=true from h),fun k h=>by cases h⟩
 ·show nt++caps.filterMap (X.N[·]?)=nt++caps.filterMap (c.N[·]?);rw[C.N]
 ·show (nt++caps.filterMap (c.N[·]?)).Nodup;rw[<-C.N];exact k4
 ·rcases hx with hx|hx|hx
  ·exact .inl (lookup_relabel_local hx)
  ·exact absurd hx (nocell x)
  ·rcases fu (env:=X.env) hx with z|z
   ·exact .inr (.inl z)
   ·exact .inr (.inr z)
 ·rcases hx with hx|hx
  ·exact⟨.inl (lookup_relabel_local hx),.inr (lookup_relabel_local hx)⟩
  ·exact absurd hx (nocell x)
 ·show Env.blockKind (compEnvC sc (ja X.env sc.names []) A X.env)=_;unfold Env.blockKind;show (if sc.kind.isAnnotationScope=true then _ else sc.kind)=_;rw[S.kind];rfl
 ·rcases hx with hx|hx
  ·exact absurd hx (nocell x)
  ·exact fu hx
theorem f9 (h:(fc y || xf y)=true):attributeBase y n env w=w:=by cases y <;> first|rfl|cases h
theorem HH (C:COk X c Γ){ap cp:Pos}(hl:(ap.endLine == cp.line)=true)(hy:(fc u || xf u)=true)(hs:ak l=true)(ha:PE X u (TEx X.K (wpE Γ a)))(hb:PE X l (TEx X.K (wpE Γ b))) :
  PE X (.Call (.Attribute u (DB k) ap) [l] [] cp) (TEx X.K (wpE Γ (.smx k a b))):=by
 intro pins s σ H Q I h;obtain⟨m,ρ,st,rf,rh,w⟩:=h;have hB:PA X [l] (cy (TEx X.K (wpE Γ b)) kb):=pac hb bX hs;cases k with
 | split =>
  refine n6 QQ PySem.F.slot_str_split PySem.F.type_str_split BL ha hB (f9 hy) (by rw[aw hs];rfl) hl (aw hs) rfl pins s σ H Q I ?_;refine⟨m,ρ,st,rf,rh,aa C.mono a (fun v st1 k m1 H1 x1 e1 r1 r2=>?_) w⟩;obtain⟨⟨z,rfl⟩,k⟩:=k;rw[R_str] at r2;subst r2;refine⟨rfl,m1,ρ,st1,rf.mono e1,r1,aa C.mono b (fun v st2 k m2 H2 x2 e2 r3 r4=>?_) k⟩;cases v with
  | str w =>obtain⟨h1,h2,h3,k⟩:=k;rw[R_str] at r4;subst r4;exact⟨z,w,rfl,rfl,by rw[S0];omega,eT h2,eT h3,fun p hp=>((k.ext e1).ext e2).newL r3 CN hp⟩
  | _=>exact False.elim k
 | join =>refine n6 QQ PySem.F.slot_str_join PySem.F.type_str_join FG ha hB (f9 hy) (by rw[aw hs];rfl) hl (aw hs) rfl pins s σ H Q I ?_;refine⟨m,ρ,st,rf,rh,aa C.mono a (fun v st1 k m1 H1 x1 e1 r1 r2=>?_) w⟩;obtain⟨⟨z,rfl⟩,k⟩:=k;rw[R_str] at r2;subst r2;refine⟨rfl,m1,ρ,st1,rf.mono e1,r1,aa C.mono b (fun v st2 k m2 H2 x2 e2 r3 r4=>?_) k⟩;obtain⟨ss,h2,h3,k⟩:=k;obtain⟨a,zs,rfl,g,rz⟩:=fM r3 r4 h2;obtain rfl:=jX rz;exact⟨z,a,ss,rfl,rfl,g,h3,k m2 H2 _ (e1.trans e2) r3 (R_str.mpr rfl)⟩
theorem Ew (C:COk X c Γ){y:Str}{ap cp:Pos}{k3:Nat}(hl:(ap.endLine == cp.line)=true)(h0:(y.length == 0)=false)(hy:fc u=true)(ha:PE X u (TEx X.K (wpE Γ a))) :
  PE X (.Call (.Attribute u "partition" ap) [.Constant (.str y) k3 p3] [] cp) (TEx X.K (wpE Γ (.part a y))):=by
 intro pins s σ H Q I h;obtain⟨m,ρ,st,rf,rh,w⟩:=h;refine n6 QQ PySem.F.slot_str_partition PySem.F.type_str_partition Fd ha (pac qv bX rfl) (jT hy) rfl hl rfl rfl pins s σ H Q I ?_;refine⟨m,ρ,st,rf,rh,aa C.mono a (fun v st1 k m1 H1 x1 e1 r1 r2=>?_) w⟩;obtain⟨z,rfl,h1,k⟩:=k;rw[R_str] at r2;subst r2;exact⟨rfl,z,y,rfl,rfl,h0,h1,fun p hp=>(k.ext e1).newT r1 IK hp⟩
mutual
theorem ba:∀(e:E) {X:Cx}{c:Cfg} (C:COk X c Γ) (x:Expr),aD c e x=true->PE X x (TEx X.K (wpE Γ e))
 | .var i,X,c,C,x,h=>by
  replace h:=ah h;obtain⟨y,p,rfl,h⟩:=h
  ·exact D2 C h
 | .int i,X,c,C,x,h=>by
  replace h:=A8 h;obtain⟨j,k,p,rfl,h⟩:=h
  ·rw[R8] at h;subst h;rintro pins s σ H Q I ⟨m,ρ,st,rf,rh,w⟩
   skip
   exact Jn pins s σ H Q I (w.here rh (R_int.mpr rfl))
 | .bl i,X,c,C,x,h=>by
  replace h:=wH h;obtain⟨j,k,p,rfl,h⟩:=h
  ·rw[R8] at h;subst h;rintro pins s σ H Q I ⟨m,ρ,st,rf,rh,w⟩
   skip
   exact Gy pins s σ H Q I (w.here rh (R_bl.mpr rfl))
 | .non,X,c,C,x,h=>by
  replace h:=Ar h;obtain⟨k,p,rfl⟩:=h
  ·rintro pins s σ H Q I ⟨m,ρ,st,rf,rh,w⟩
   skip
   exact JU pins s σ H Q I (w.here rh (R_non.mpr rfl))
 | .str i,X,c,C,x,h=>by
  replace h:=iy h;obtain⟨j,k,p,rfl,h⟩:=h
  ·rw[R8] at h;subst h;rintro pins s σ H Q I ⟨m,ρ,st,rf,rh,w⟩
   skip
   exact qv pins s σ H Q I (w.here rh (R_str.mpr rfl))
 | .gv y v,X,c,C,x,h=>by
  replace h:=ah h;obtain⟨z,p,rfl,h⟩:=h
  ·simp only[Bool.and_eq_true,beq_iff_eq] at h;obtain⟨⟨h1,h2⟩,h3⟩:=h;subst h1;obtain⟨g1,g2,_⟩:=C.glbx h2;replace h3:=fT h3;obtain⟨w,hw,h3⟩:=h3
   ·have:=PV.same_eq h3;subst this;obtain⟨u,z,e1,e2,e3⟩:=C.gl _ _ hw;rintro pins s σ H Q I ⟨m,ρ,st,rf,rh,w⟩
    skip
    exact uC g1 e1 e2 g2 pins s σ H Q I (w.here rh (e3 m H))
 | .tup es,X,c,C,x,h=>by
  replace h:=a9 h;obtain⟨xs,k,p,rfl,h⟩:=h
  ·rintro pins s σ H Q I ⟨m,ρ,st,rf,rh,w⟩
   skip
   refine ua (kj es C _ h) pins s σ H Q I ⟨m,ρ,st,rf,rh,aC C.mono es (fun vs st1 k m1 H1 xs1 e1 r1 r2=>⟨by rw[<-r2.len];exact eT k.1,fun p hp=>?_⟩) w⟩;exact(k.2.ext e1).newT r1 r2 hp
 | .lst es,X,c,C,x,h=>by
  replace h:=yu h;obtain⟨xs,p,rfl,h⟩:=h
  ·rintro pins s σ H Q I ⟨m,ρ,st,rf,rh,w⟩
   skip
   refine GJ (kj es C _ h) pins s σ H Q I ⟨m,ρ,st,rf,rh,aC C.mono es (fun vs st1 k m1 H1 xs1 e1 r1 r2=>⟨by rw[<-r2.len];exact eT k.1,fun p hp=>?_⟩) w⟩;exact(k.2.ext e1).newL r1 r2 hp
 | .bad,X,c,C,x,h=>by rintro pins s σ H Q I ⟨m,ρ,st,rf,rh,w⟩;exact False.elim w
 | .dct0,X,c,C,x,h=>by
  replace h:=xU h;obtain⟨ks,vs,p,rfl,h⟩:=h;replace h:=I_ h;obtain⟨rfl,rfl⟩:=h
  ·rintro pins s σ H Q I ⟨m,ρ,st,rf,rh,w⟩
   skip
   refine Cj pins s σ H Q I fun p hp=>?_;exact w _ _ _ (Ext.new1 rh hp) (rh.new1 hp ⟨[],bq,rfl,Rs_nil.mpr rfl⟩) (R.last rh.len)
 | .dct1 _ _,X,c,C,x,h=>by rintro pins s σ H Q I ⟨m,ρ,st,rf,rh,w⟩;exact False.elim w
 | .bin op a b,X,c,C,x,h=>by
  replace h:=Al h;obtain⟨l,o,r,p,rfl,h⟩:=h
  ·simp only[Bool.and_eq_true,beq_iff_eq] at h;obtain⟨⟨h1,h2⟩,h3⟩:=h;subst h1;rintro pins s σ H Q I ⟨m,ρ,st,rf,rh,w⟩
   skip
   exact MT (JC _) (ba a C _ h2) (ba b C _ h3) pins s σ H Q I ⟨m,ρ,st,rf,rh,aa C.mono a (fun v st1 k m1 H1 x1 e1 r1 r2=>⟨m1,ρ,st1,rf.mono e1,r1,
    aa C.mono b (fun u st2 k2 m2 H2 y2 e2 r3 r4=>⟨m2,st2,v,u,r3,r2.mono e2,r4,sI (fun _ _ q=>q.ext (e1.trans e2)) k2⟩) k⟩) w⟩
 | .neg a,X,c,C,x,h=>by
  replace h:=A_ h;obtain⟨y,p,rfl,h⟩:=h
  ·rintro pins s σ H Q I ⟨m,ρ,st,rf,rh,w⟩
   skip
   refine Ky JS (ba a C _ h) pins s σ H Q I ⟨m,ρ,st,rf,rh,aa C.mono a (fun v st1 k m1 H1 x1 e1 r1 r2=>?_) w⟩;obtain⟨i,rfl,k⟩:=k;rw[R_int] at r2;subst r2;exact⟨i,rfl,(k.ext e1).here r1 (R_int.mpr rfl)⟩
 | .not a,X,c,C,x,h=>by
  replace h:=nH h;obtain⟨y,p,rfl,h⟩:=h
  ·rintro pins s σ H Q I ⟨m,ρ,st,rf,rh,w⟩
   skip
   refine JH (ba a C _ h) pins s σ H Q I ⟨m,ρ,st,rf,rh,aa C.mono a (fun v st1 k m1 H1 x1 e1 r1 r2=>?_) w⟩;obtain⟨i,rfl,k⟩:=k;rw[R_bl] at r2;subst r2;exact⟨i,rfl,(k.ext e1).here r1 (R_bl.mpr rfl)⟩
 | .cmp op a b,X,c,C,x,h=>by
  replace h:=td h;obtain⟨l,o,r,p,rfl,h⟩:=h
  ·simp only[Bool.and_eq_true,beq_iff_eq,Bool.not_eq_true',beq_eq_false_iff_ne] at h;obtain⟨⟨⟨h1,n1⟩,h2⟩,h3⟩:=h;subst h1;rintro pins s σ H Q I ⟨m,ρ,st,rf,rh,w⟩
   skip
   exact FD (Bn C.room.units _) (ba a C _ h2) (ba b C _ h3) n1 pins s σ H Q I ⟨m,ρ,st,rf,rh,aa C.mono a (fun v st1 k m1 H1 x1 e1 r1 r2=>⟨m1,ρ,st1,rf.mono e1,r1,
    aa C.mono b (fun u st2 k2 m2 H2 y2 e2 r3 r4=>⟨m2,st2,v,u,r3,r2.mono e2,r4,jO (fun _ _ q=>q.ext (e1.trans e2)) k2⟩) k⟩) w⟩
 | .bop true es,X,c,C,x,h=>by
  replace h:=iw h;obtain⟨o,xs,p,rfl,h⟩:=h
  ·simp only[Bool.and_eq_true,beq_iff_eq,Bool.not_eq_true'] at h;obtain⟨⟨h1,h2⟩,h3⟩:=h;subst h1;rintro pins s σ H Q I ⟨m,ρ,st,rf,rh,w⟩
   skip
   exact Gw es C _ _ h2 h3 pins s σ H Q I ⟨m,ρ,st,rf,rh,w⟩
 | .bop false es,X,c,C,x,h=>by
  replace h:=iw h;obtain⟨o,xs,p,rfl,h⟩:=h
  ·simp only[Bool.and_eq_true,beq_iff_eq,Bool.not_eq_true'] at h;obtain⟨⟨h1,h2⟩,h3⟩:=h;subst h1;rintro pins s σ H Q I ⟨m,ρ,st,rf,rh,w⟩
   skip
   exact Gd es C _ _ h2 h3 pins s σ H Q I ⟨m,ρ,st,rf,rh,w⟩
 | .ite t a b,X,c,C,x,h=>by
  replace h:=AJ h;obtain⟨y,l,r,p,rfl,h⟩:=h
  ·simp only[Bool.and_eq_true] at h;obtain⟨⟨h1,h2⟩,h3⟩:=h;rintro pins s σ H Q I ⟨m,ρ,st,rf,rh,w⟩
   skip
   refine De (qo t C _ h1) (ba a C _ h2) (ba b C _ h3) pins s σ H Q I ⟨m,ρ,st,rf,rh,aP C.mono t (fun k st1 z m1 H1 e1 r1=>?_) w⟩;cases k with
   | true=>rw[O0 rfl] at z |-;exact⟨m1,ρ,st1,rf.mono e1,r1,aa C.mono a (fun _ _ q=>q.ext e1) z⟩
   | false=>rw[OY OS] at z |-;exact⟨m1,ρ,st1,rf.mono e1,r1,aa C.mono b (fun _ _ q=>q.ext e1) z⟩
 | .ix a b,X,c,C,x,h=>by
  replace h:=ij h;obtain⟨l,r,p,rfl,h⟩:=h
  ·simp only[Bool.and_eq_true] at h;obtain⟨⟨h1,h2⟩,h3⟩:=h;rintro pins s σ H Q I ⟨m,ρ,st,rf,rh,w⟩
   skip
   exact Ce (Gk C.room.units) (ba a C _ h2) (ba b C _ h3) h1 pins s σ H Q I ⟨m,ρ,st,rf,rh,aa C.mono a (fun v st1 k m1 H1 x1 e1 r1 r2=>⟨m1,ρ,st1,rf.mono e1,r1,
    aa C.mono b (fun u st2 k2 m2 H2 y2 e2 r3 r4=>⟨m2,st2,v,u,r3,r2.mono e2,r4,lX (fun _ _ q=>q.ext (e1.trans e2)) k2⟩) k⟩) w⟩
 | .sl a lo hi,X,c,C,x,h=>by
  replace h:=ij h;obtain⟨l,r,p,rfl,h⟩:=h;replace h:=w5 h;obtain⟨u,v,p2,rfl,h⟩:=h
  ·simp only[Bool.and_eq_true] at h;obtain⟨⟨h1,h2⟩,h3⟩:=h;rintro pins s σ H Q I ⟨m,ρ,st,rf,rh,w⟩
   skip
   exact DQ Km (ba a C _ h1) (K9 lo C _ h2) (K9 hi C _ h3) pins s σ H Q I ⟨m,ρ,st,rf,rh,aa C.mono a (fun v st1 k m1 H1 x1 e1 r1 r2=>⟨m1,ρ,st1,rf.mono e1,r1,
    lJ C.mono lo (fun l st2 k2 m2 H2 e2 r3=>⟨m2,ρ,st2,(rf.mono e1).mono e2,r3,lJ C.mono hi (fun u st3 k3 m3 H3 e3 r4=>⟨m3,st3,v,r4,(r2.mono e2).mono e3,wa (fun _ _ q=>q.ext ((e1.trans e2).trans e3)) k3⟩) k2⟩) k⟩) w⟩
 | .call f es,X,c,C,x,h=>by
  replace h:=aM h;obtain⟨g,xs,p,rfl,h⟩:=h;replace h:=ah h;obtain⟨y,p2,rfl,h⟩:=h
  ·simp only[Bool.and_eq_true] at h;obtain⟨⟨h1,h2⟩,h3⟩:=h;rintro pins s σ H Q I ⟨m,ρ,st,rf,rh,w⟩
   skip
   exact vL C h1 h2 h3 (kj es C _ h3) pins s σ H Q I ⟨m,ρ,st,rf,rh,w⟩
 | .blt b es,X,c,C,x,h=>by
  replace h:=aM h;obtain⟨g,xs,p,rfl,h⟩:=h;replace h:=ah h;obtain⟨y,p2,rfl,h⟩:=h
  ·simp only[Bool.and_eq_true,beq_iff_eq,Bool.not_eq_true'] at h;obtain⟨⟨⟨⟨h1,h2⟩,h3⟩,h4⟩,h5⟩:=h;rintro pins s σ H Q I ⟨m,ρ,st,rf,rh,w⟩
   skip
   exact vF C h1 h2 h3 h4 (kj es C _ h5) pins s σ H Q I ⟨m,ρ,st,rf,rh,w⟩
 | .inst a t,X,c,C,x,h=>by
  replace h:=aM h;obtain⟨g,xs,p,rfl,h⟩:=h;replace h:=ah h;obtain⟨y,p2,rfl,h⟩:=h;replace h:=fw h;obtain⟨l,r,rfl,h⟩:=h;replace h:=ah h;obtain⟨z,p3,rfl,h⟩:=h
  ·rw[OU] at h;exact zr C h.1 (ba a C _ h.2)
 | .met mm o es,X,c,C,x,h=>by
  replace h:=aM h;obtain⟨g,xs,p,rfl,h⟩:=h;replace h:=kH h;obtain⟨y,n,p2,rfl,h⟩:=h
  ·simp only[Bool.and_eq_true,beq_iff_eq,decide_eq_true_eq] at h;obtain⟨⟨⟨⟨⟨⟨h1,h2⟩,h3⟩,h4⟩,h0⟩,h5⟩,h6⟩:=h;exact CG C h1 (by rw[h2];simp) h3 h4 h0 (ba o C _ h5) (kj es C _ h6) h6
 | .comp elt tg it ifs nt caps,X,c,C,x,h=>by
  replace h:=ji h;obtain⟨ex,gs,sc,pos,rfl,h⟩:=h;replace h:=b8 h;obtain⟨g,rfl,h⟩:=h;obtain⟨tx,ix,fx,ia⟩:=g;dsimp only at h
  ·simp only[Bool.and_eq_true,beq_iff_eq] at h;obtain⟨⟨⟨⟨⟨⟨⟨⟨h1,h0⟩,h2⟩,h3⟩,h4⟩,h5⟩,h6⟩,h7⟩,h8⟩:=h;subst h1;obtain⟨S,k1,k2,k3,k4⟩:=mn C h4;have hC:∀s2 H2 fp A,COk (cxC X (nt++caps.filterMap (X.N[·]?)) s2 H2 fp sc A) (c.inner nt caps sc) Γ:=fun s2 H2 fp A=>xQ C h4;rintro pins s σ H Q I ⟨m,ρ,st,rf,rh,w⟩
   skip
   rw[eval_ListComp];refine tq (elt:=elt) (tg:=tg) (ifs:=ifs) (nt:=nt) (caps:=caps) (use:=none) (Fin:=fun D H'=>Q (.ref D) H') (wi:=TIx X.K (eg Γ it)) C.mono C.calm S rfl k1 k2 k3 h2 h3 (xc it C ix h0 h5) (fun s2 H2 fp A=>oj tg (hC s2 H2 fp A) _ h6) (fun s2 H2 fp A=>xH ifs (hC s2 H2 fp A) _ h7) (fun s2 H2 fp A=>ba elt (hC s2 H2 fp A) _ h8) I ?_ ?_
   ·refine⟨m,ρ,st,rf,rh,bL C.mono it (fun xs chk st1 z m1 H1 J e1 r1 W=>⟨m1,ρ,st1,xs,chk,rf.mono e1,r1,W,z.1,?_⟩) w⟩;refine iT (body:=gq Γ elt tg ifs (nt.map (fun _=>none)++caps.map fun i=>(ρ[i]?).join)) (fun _ _ _ _ hk q=>rj C.mono hk q) (fun vs st2 k m2 H2 D ys e2 r2 Dm hD0 hD ry=>?_) z.2;have hD1:H D=none:=by
     cases q:H D with
     | none=>rfl
     | some o =>
      by_cases hm:D∈m
      ·exact absurd ((e1.trans e2).pre.subset hm) Dm
      ·exact absurd hD0 (e1.ne hm q)
    exact k _ _ _ ((e1.trans e2).addD hD1) (r2.addD Dm hD ry) (R.last r2.len)
   ·intro C' D H' s' m' I' ns fp F;refine⟨m',ns,fun h' hs'=>?_⟩;exact⟨.ref D,H',I'.turned (t':=s'.toks) (fun b o hb e=>hs'.extBut b o hb e) fp.1 fp.2.1 fp.2.2.2.1 fp.2.2.2.2.1 fp.2.2.2.2.2,rfl,F⟩
 | .compK _ _ _ _ _ _ _,X,c,C,x,h=>by rintro pins s σ H Q I ⟨m,ρ,st,rf,rh,w⟩;exact False.elim w
 | .compD _ _ _ _ _ _ _ _,X,c,C,x,h=>by rintro pins s σ H Q I ⟨m,ρ,st,rf,rh,w⟩;exact False.elim w
 | .dct2 _ _,X,c,C,x,h=>by rintro pins s σ H Q I ⟨m,ρ,st,rf,rh,w⟩;exact False.elim w
 | .dcl _,X,c,C,x,h=>by rintro pins s σ H Q I ⟨m,ρ,st,rf,rh,w⟩;exact False.elim w
 | .eqd _ _ _,X,c,C,x,h=>by rintro pins s σ H Q I ⟨m,ρ,st,rf,rh,w⟩;exact False.elim w
 | .tmp a,X,c,C,x,h=>by
  have h:aD c a x=true:=h;rintro pins s σ H Q I ⟨m,ρ,st,rf,rh,w⟩
  skip
  refine ba a C x h pins s σ H Q I ⟨m,ρ,st,rf,rh,aa C.mono a (fun v st1 k m1 H1 x1 e1 r1 r2=>?_) w⟩;obtain⟨st2,q,e2,r3,r4⟩:=pI rh e1 r1 r2 k;exact q m H1 x1 e2 r3 r4
 | .dget _ _,X,c,C,x,h=>by rintro pins s σ H Q I ⟨m,ρ,st,rf,rh,w⟩;exact False.elim w
 | .dcp _,X,c,C,x,h=>by rintro pins s σ H Q I ⟨m,ρ,st,rf,rh,w⟩;exact False.elim w
 | .clr _,X,c,C,x,h=>by rintro pins s σ H Q I ⟨m,ρ,st,rf,rh,w⟩;exact False.elim w
 | .sset _,X,c,C,x,h=>by rintro pins s σ H Q I ⟨m,ρ,st,rf,rh,w⟩;exact False.elim w
 | .jrev _,X,c,C,x,h=>by rintro pins s σ H Q I ⟨m,ρ,st,rf,rh,w⟩;exact False.elim w
 | .pcall _ _,X,c,C,x,h=>by rintro pins s σ H Q I ⟨m,ρ,st,rf,rh,w⟩;exact False.elim w
 | .hm _ _ _,X,c,C,x,h=>by rintro pins s σ H Q I ⟨m,ρ,st,rf,rh,w⟩;exact False.elim w
 | .smx k a b,X,c,C,x,h=>by replace h:=aM h;obtain⟨g,xs,p,rfl,h⟩:=h;replace h:=kH h;obtain⟨u,n,p2,rfl,h⟩:=h;replace h:=b8 h;obtain⟨l,rfl,h⟩:=h;rw[OU,OU,OU,OU,OU] at h;obtain⟨⟨⟨⟨⟨h1,h2⟩,h3⟩,h4⟩,h5⟩,h6⟩:=h;obtain rfl:=beq_iff_eq.mp h1;exact HH C h2 h3 h4 (ba a C _ h5) (ba b C _ h6)
 | .part a y,X,c,C,x,h=>by
  replace h:=aM h;obtain⟨g,xs,p,rfl,h⟩:=h;replace h:=kH h;obtain⟨u,n,p2,rfl,h⟩:=h;replace h:=b8 h;obtain⟨l,rfl,h⟩:=h;replace h:=iy h;obtain⟨j,kk,p3,rfl,h⟩:=h
  ·simp only[Bool.and_eq_true,beq_iff_eq,Bool.not_eq_true'] at h;obtain⟨⟨⟨⟨⟨h1,h2⟩,h3⟩,h4⟩,h5⟩,h6⟩:=h;subst h1 h3;exact Ew C (by rw[h2];simp) h4 h5 (ba a C _ h6)
theorem kj:∀(es:Es) {X:Cx}{c:Cfg} (C:COk X c Γ) (xs:List Expr),eP c es xs=true->PA X xs (TAx X.K (cj Γ es))
 | .nil,X,c,C,xs,h=>by
  have h:xs.isEmpty=true:=h;cases xs with
  | nil =>
   rintro pos pins s σ H Q I ⟨m,ρ,st,rf,rh,w⟩
   skip
   exact bX pos pins s σ H Q I (w m H [] (Ext.refl _ _ _) rh (Rs_nil.mpr rfl))
  | cons x xs=>cases h
 | .cons e es,X,c,C,xs,h=>by
  replace h:=ar h;obtain⟨y,ys,rfl,h⟩:=h
  ·simp only[Bool.and_eq_true] at h;obtain⟨⟨h1,h2⟩,h3⟩:=h;rintro pos pins s σ H Q I ⟨m,ρ,st,rf,rh,w⟩
   skip
   exact pac (ba e C _ h2) (kj es C _ h3) h1 pos pins s σ H Q I ⟨m,ρ,st,rf,rh,aa C.mono e (fun v st1 k m1 H1 x1 e1 r1 r2=>⟨m1,ρ,st1,rf.mono e1,r1,
    aC C.mono es (fun us st2 k2 m2 H2 ys e2 r3 r4=>k2 m2 H2 _ (e1.trans e2) r3 (Rs_cons'.mpr ⟨r2.mono e2,r4⟩)) k⟩) w⟩
theorem K9:∀(o:O) {X:Cx}{c:Cfg} (C:COk X c Γ) (x:Option Expr),Im c o x=true->PO X x (fun σ H Q=>∃m ρ st,RF X.K m H ρ σ/\RH X.K m H st/\wpO Γ o ρ st fun v st'=>∀m' H',Ext X.K m H m' H'->RH X.K m' H' st'->Q v H')
 | .no,X,c,C,x,h=>by
  have h:x.isNone=true:=h;cases x with
  | none =>
   rintro pins s σ H Q I ⟨m,ρ,st,rf,rh,w⟩
   skip
   exact D9 pins s σ H Q I (w m H (Ext.refl _ _ _) rh)
  | some y=>cases h
 | .yes e,X,c,C,x,h=>by
  replace h:=fT h;obtain⟨y,rfl,h⟩:=h
  ·rintro pins s σ H Q I ⟨m,ρ,st,rf,rh,w⟩
   skip
   refine Eg (ba e C _ h) pins s σ H Q I ⟨m,ρ,st,rf,rh,aa C.mono e (fun v st1 k m1 H1 x1 e1 r1 r2=>?_) w⟩;obtain⟨i,rfl,k⟩:=k;rw[R_int] at r2;exact⟨i,r2,k m1 H1 e1 r1⟩
theorem qo:∀(e:E) {X:Cx}{c:Cfg} (C:COk X c Γ) (x:Expr),xE c e x=true->PT X x (TTx X.K (wpT Γ e))
 | .not a,X,c,C,x,h=>by
  replace h:=nH h;obtain⟨y,p,rfl,h⟩:=h
  ·rintro pins s σ H Q I ⟨m,ρ,st,rf,rh,w⟩
   skip
   exact Dh (qo a C _ h) pins s σ H Q I ⟨m,ρ,st,rf,rh,aP C.mono a (fun k st1 z m1 H1 e1 r1=>z m1 H1 e1 r1) w⟩
 | .bop true es,X,c,C,x,h=>by
  replace h:=iw h;obtain⟨o,xs,p,rfl,h⟩:=h
  ·simp only[Bool.and_eq_true,beq_iff_eq,Bool.not_eq_true'] at h;obtain⟨⟨h1,h2⟩,h3⟩:=h;subst h1;rintro pins s σ H Q I ⟨m,ρ,st,rf,rh,w⟩
   skip
   exact(GC es C _ _ h3 h2).pt pins s σ H Q I ⟨m,ρ,st,rf,rh,w⟩
 | .bop false es,X,c,C,x,h=>by
  replace h:=iw h;obtain⟨o,xs,p,rfl,h⟩:=h
  ·simp only[Bool.and_eq_true,beq_iff_eq,Bool.not_eq_true'] at h;obtain⟨⟨h1,h2⟩,h3⟩:=h;subst h1;rintro pins s σ H Q I ⟨m,ρ,st,rf,rh,w⟩
   skip
   exact(Gq es C _ _ h3 h2).pt pins s σ H Q I ⟨m,ρ,st,rf,rh,w⟩
 | .cmp op a b,X,c,C,x,h=>by
  replace h:=td h;obtain⟨l,o,r,p,rfl,h⟩:=h
  ·simp only[Bool.and_eq_true,beq_iff_eq,Bool.not_eq_true',beq_eq_false_iff_ne] at h;obtain⟨⟨⟨h1,n1⟩,h2⟩,h3⟩:=h;subst h1;rintro pins s σ H Q I ⟨m,ρ,st,rf,rh,w⟩
   skip
   refine EO (Bn C.room.units _) (ba a C _ h2) (ba b C _ h3) n1 pins s σ H Q I ⟨m,ρ,st,rf,rh,aa C.mono a (fun v st1 k m1 H1 x1 e1 r1 r2=>⟨m1,ρ,st1,rf.mono e1,r1,
    aa C.mono b (fun u st2 k2 m2 H2 y2 e2 r3 r4=>⟨m2,st2,v,u,r3,r2.mono e2,r4,jO (fun _ _ q=>?_) k2⟩) k⟩) w⟩
   obtain⟨k,rfl,q⟩:=q;intro m' H' y e3 r5 r6;rw[R_bl] at r6;exact⟨k,r6,q m' H' ((e1.trans e2).trans e3) r5⟩
 | .var i,X,c,C,x,h=>by
  replace h:=ah h;obtain⟨y,p,rfl,h⟩:=h
  ·rintro pins s σ H Q I ⟨m,ρ,st,rf,rh,w⟩
   skip
   refine hZ (D2 C h) (fun _=>rfl) pins s σ H Q I ⟨m,ρ,st,rf,rh,?_⟩;obtain⟨v,e,w⟩:=lD w;exact uO e fun m' H' y e1 r1 r2=>vt ⟨m',st,v,r1,r2,b9 (fun _ _ q=>q.ext e1) w⟩
 | .call f es,X,c,C,x,h=>by
  replace h:=aM h;obtain⟨g,xs,p,rfl,h⟩:=h;replace h:=ah h;obtain⟨y,p2,rfl,h⟩:=h
  ·simp only[Bool.and_eq_true] at h;obtain⟨⟨h1,h2⟩,h3⟩:=h;rintro pins s σ H Q I ⟨m,ρ,st,rf,rh,w⟩
   skip
   exact hZ (vL C h1 h2 h3 (kj es C _ h3)) (fun _=>rfl) pins s σ H Q I ⟨m,ρ,st,rf,rh,aC C.mono es (fun vs st1 k=>C.mono _ _ _ _ _ (fun v st2 k2 m' H' y e1 r1 r2=>vt ⟨m',st2,v,r1,r2,b9 (fun _ _ q=>q.ext e1) k2⟩) k) w⟩
 | .blt b es,X,c,C,x,h=>by
  replace h:=aM h;obtain⟨g,xs,p,rfl,h⟩:=h;replace h:=ah h;obtain⟨y,p2,rfl,h⟩:=h
  ·simp only[Bool.and_eq_true,beq_iff_eq,Bool.not_eq_true'] at h;obtain⟨⟨⟨⟨h1,h2⟩,h3⟩,h4⟩,h5⟩:=h;rintro pins s σ H Q I ⟨m,ρ,st,rf,rh,w⟩
   skip
   exact hZ (vF C h1 h2 h3 h4 (kj es C _ h5)) (fun _=>rfl) pins s σ H Q I ⟨m,ρ,st,rf,rh,aC C.mono es (fun vs st1 k=>jL (fun v st2 k2 m' H' y e1 r1 r2=>vt ⟨m',st2,v,r1,r2,b9 (fun _ _ q=>q.ext e1) k2⟩) k) w⟩
 | .inst a t,X,c,C,x,h=>by
  replace h:=aM h;obtain⟨g,xs,p,rfl,h⟩:=h;replace h:=ah h;obtain⟨y,p2,rfl,h⟩:=h;replace h:=fw h;obtain⟨l,r,rfl,h⟩:=h;replace h:=ah h;obtain⟨z,p3,rfl,h⟩:=h
  ·rw[OU] at h;rintro pins s σ H Q I ⟨m,ρ,st,rf,rh,w⟩
   skip
   refine hZ (zr C h.1 (ba a C _ h.2)) (fun _=>rfl) pins s σ H Q I ⟨m,ρ,st,rf,rh,?_⟩
   skip
   refine aa C.mono a (fun v st1 k=>?_) w;obtain⟨n,e,k⟩:=k;refine⟨n,e,fun m' H' y e1 r1 r2=>?_⟩;rw[R_bl] at r2;subst r2;exact⟨_,rfl,k m' H' e1 r1⟩
 | .tmp a,X,c,C,x,h=>by
  have h:(xr x && aD c a x)=true:=h;rw[OU] at h;rintro pins s σ H Q I ⟨m,ρ,st,rf,rh,w⟩
  skip
  have q:=ba a C x h.2;refine hZ q (xh h.1 X.env) pins s σ H Q I ⟨m,ρ,st,rf,rh,aa C.mono a (fun v st1 k m1 H1 x1 e1 r1 r2=>?_) w⟩;obtain⟨st2,q,e2,r3,r4⟩:=pI rh e1 r1 r2 k;exact vt ⟨m,st2,v,r3,r4,b9 (fun _ _ q=>q.ext e2) q⟩
 | .ix a b,X,c,C,x,h=>by
  replace h:=ij h;obtain⟨l,r,p,rfl,h⟩:=h
  ·simp only[Bool.and_eq_true] at h;obtain⟨⟨h1,h2⟩,h3⟩:=h;rintro pins s σ H Q I ⟨m,ρ,st,rf,rh,w⟩
   skip
   refine hZ (Ce (Gk C.room.units) (ba a C _ h2) (ba b C _ h3) h1) (fun _=>rfl) pins s σ H Q I ⟨m,ρ,st,rf,rh,aa C.mono a (fun v st1 k m1 H1 x1 e1 r1 r2=>⟨m1,ρ,st1,rf.mono e1,r1,
    aa C.mono b (fun u st2 k2 m2 H2 y2 e2 r3 r4=>⟨m2,st2,v,u,r3,r2.mono e2,r4,lX (fun z st3 q m3 H3 y3 e3 r5 r6=>?_) k2⟩) k⟩) w⟩
   exact vt ⟨m3,st3,z,r5,r6,b9 (fun _ _ q=>q.ext ((e1.trans e2).trans e3)) q⟩
 | .bl _,X,c,C,x,h=>by rintro pins s σ H Q I ⟨m,ρ,st,rf,rh,w⟩;exact False.elim w
 | .int _,X,c,C,x,h=>by rintro pins s σ H Q I ⟨m,ρ,st,rf,rh,w⟩;exact False.elim w
 | .non,X,c,C,x,h=>by rintro pins s σ H Q I ⟨m,ρ,st,rf,rh,w⟩;exact False.elim w
 | .str _,X,c,C,x,h=>by rintro pins s σ H Q I ⟨m,ρ,st,rf,rh,w⟩;exact False.elim w
 | .gv _ _,X,c,C,x,h=>by rintro pins s σ H Q I ⟨m,ρ,st,rf,rh,w⟩;exact False.elim w
 | .tup _,X,c,C,x,h=>by rintro pins s σ H Q I ⟨m,ρ,st,rf,rh,w⟩;exact False.elim w
 | .lst _,X,c,C,x,h=>by rintro pins s σ H Q I ⟨m,ρ,st,rf,rh,w⟩;exact False.elim w
 | .dct0,X,c,C,x,h=>by rintro pins s σ H Q I ⟨m,ρ,st,rf,rh,w⟩;exact False.elim w
 | .bad,X,c,C,x,h=>by rintro pins s σ H Q I ⟨m,ρ,st,rf,rh,w⟩;exact False.elim w
 | .dct1 _ _,X,c,C,x,h=>by rintro pins s σ H Q I ⟨m,ρ,st,rf,rh,w⟩;exact False.elim w
 | .bin _ _ _,X,c,C,x,h=>by rintro pins s σ H Q I ⟨m,ρ,st,rf,rh,w⟩;exact False.elim w
 | .neg _,X,c,C,x,h=>by rintro pins s σ H Q I ⟨m,ρ,st,rf,rh,w⟩;exact False.elim w
 | .ite _ _ _,X,c,C,x,h=>by rintro pins s σ H Q I ⟨m,ρ,st,rf,rh,w⟩;exact False.elim w
 | .sl _ _ _,X,c,C,x,h=>by rintro pins s σ H Q I ⟨m,ρ,st,rf,rh,w⟩;exact False.elim w
 | .met _ _ _,X,c,C,x,h=>by rintro pins s σ H Q I ⟨m,ρ,st,rf,rh,w⟩;exact False.elim w
 | .eqd _ _ _,X,c,C,x,h=>by rintro pins s σ H Q I ⟨m,ρ,st,rf,rh,w⟩;exact False.elim w
 | .compK _ _ _ _ _ _ _,X,c,C,x,h=>by rintro pins s σ H Q I ⟨m,ρ,st,rf,rh,w⟩;exact False.elim w
 | .compD _ _ _ _ _ _ _ _,X,c,C,x,h=>by rintro pins s σ H Q I ⟨m,ρ,st,rf,rh,w⟩;exact False.elim w
 | .dct2 _ _,X,c,C,x,h=>by rintro pins s σ H Q I ⟨m,ρ,st,rf,rh,w⟩;exact False.elim w
 | .dcl _,X,c,C,x,h=>by rintro pins s σ H Q I ⟨m,ρ,st,rf,rh,w⟩;exact False.elim w
 | .comp _ _ _ _ _ _,X,c,C,x,h=>by rintro pins s σ H Q I ⟨m,ρ,st,rf,rh,w⟩;exact False.elim w
 | .pcall _ _,X,c,C,x,h=>by rintro pins s σ H Q I ⟨m,ρ,st,rf,rh,w⟩;exact False.elim w
 | .hm _ _ _,X,c,C,x,h=>by rintro pins s σ H Q I ⟨m,ρ,st,rf,rh,w⟩;exact False.elim w
 | .jrev _,X,c,C,x,h=>by rintro pins s σ H Q I ⟨m,ρ,st,rf,rh,w⟩;exact False.elim w
 | .dget _ _,X,c,C,x,h=>by rintro pins s σ H Q I ⟨m,ρ,st,rf,rh,w⟩;exact False.elim w
 | .dcp _,X,c,C,x,h=>by rintro pins s σ H Q I ⟨m,ρ,st,rf,rh,w⟩;exact False.elim w
 | .clr _,X,c,C,x,h=>by rintro pins s σ H Q I ⟨m,ρ,st,rf,rh,w⟩;exact False.elim w
 | .sset _,X,c,C,x,h=>by rintro pins s σ H Q I ⟨m,ρ,st,rf,rh,w⟩;exact False.elim w
 | .smx _ _ _,X,c,C,x,h=>by rintro pins s σ H Q I ⟨m,ρ,st,rf,rh,w⟩;exact False.elim w
 | .part _ _,X,c,C,x,h=>by rintro pins s σ H Q I ⟨m,ρ,st,rf,rh,w⟩;exact False.elim w
theorem Gw:∀(es:Es) {X:Cx}{c:Cfg} (C:COk X c Γ) (xs:List Expr) (pos:Pos),eP c es xs=true->xs.isEmpty=false->PE X (.BoolOp .And xs pos) (TEx X.K (ue Γ es))
 | .nil,X,c,C,xs,pos,h,hn=>by have h:xs.isEmpty=true:=h;rw[h] at hn;cases hn
 | .cons e .nil,X,c,C,xs,pos,h,hn=>by
  replace h:=ar h;obtain⟨y,ys,rfl,h⟩:=h
  ·simp only[Bool.and_eq_true] at h;obtain⟨⟨h1,h2⟩,h3⟩:=h;have h3:ys.isEmpty=true:=h3;cases ys with
   | nil =>
    rintro pins s σ H Q I ⟨m,ρ,st,rf,rh,w⟩
    skip
    exact BR (ba e C _ h2) pins s σ H Q I ⟨m,ρ,st,rf,rh,w⟩
   | cons _ _=>cases h3
 | .cons e (.cons e2 es),X,c,C,xs,pos,h,hn=>by
  replace h:=ar h;obtain⟨y,ys,rfl,h⟩:=h
  ·simp only[Bool.and_eq_true] at h;obtain⟨⟨h1,h2⟩,h3⟩:=h;cases ys with
   | nil=>exact Bool.noConfusion (show false=true from h3)
   | cons y2 ys =>
    rintro pins s σ H Q I ⟨m,ρ,st,rf,rh,w⟩
    skip
    refine JY (ba e C _ h2) (Gw (.cons e2 es) C (y2::ys) pos h3 rfl) pins s σ H Q I ⟨m,ρ,st,rf,rh,aa C.mono e (fun v st1 k m1 H1 x1 e1 r1 r2=>?_) w⟩;obtain⟨b,rfl,k⟩:=k;rw[R_bl] at r2;subst r2;refine⟨b,rfl,?_⟩;cases b with
    | true=>rw[O0 rfl] at k |-;exact⟨m1,ρ,st1,rf.mono e1,r1,nS C.mono _ (fun _ _ q=>q.ext e1) k⟩
    | false=>rw[OY OS] at k |-;exact(k.ext e1).here r1 (R_bl.mpr rfl)
theorem Gd:∀(es:Es) {X:Cx}{c:Cfg} (C:COk X c Γ) (xs:List Expr) (pos:Pos),eP c es xs=true->xs.isEmpty=false->PE X (.BoolOp .Or xs pos) (TEx X.K (t8 Γ es))
 | .nil,X,c,C,xs,pos,h,hn=>by have h:xs.isEmpty=true:=h;rw[h] at hn;cases hn
 | .cons e .nil,X,c,C,xs,pos,h,hn=>by
  replace h:=ar h;obtain⟨y,ys,rfl,h⟩:=h
  ·simp only[Bool.and_eq_true] at h;obtain⟨⟨h1,h2⟩,h3⟩:=h;have h3:ys.isEmpty=true:=h3;cases ys with
   | nil =>
    rintro pins s σ H Q I ⟨m,ρ,st,rf,rh,w⟩
    skip
    exact BR (ba e C _ h2) pins s σ H Q I ⟨m,ρ,st,rf,rh,w⟩
   | cons _ _=>cases h3
 | .cons e (.cons e2 es),X,c,C,xs,pos,h,hn=>by
  replace h:=ar h;obtain⟨y,ys,rfl,h⟩:=h
  ·simp only[Bool.and_eq_true] at h;obtain⟨⟨h1,h2⟩,h3⟩:=h;cases ys with
   | nil=>exact Bool.noConfusion (show false=true from h3)
   | cons y2 ys =>
    rintro pins s σ H Q I ⟨m,ρ,st,rf,rh,w⟩
    skip
    refine MR (ba e C _ h2) (Gd (.cons e2 es) C (y2::ys) pos h3 rfl) pins s σ H Q I ⟨m,ρ,st,rf,rh,aa C.mono e (fun v st1 k m1 H1 x1 e1 r1 r2=>?_) w⟩;obtain⟨b,rfl,k⟩:=k;rw[R_bl] at r2;subst r2;refine⟨b,rfl,?_⟩;cases b with
    | true=>rw[O0 rfl] at k |-;exact(k.ext e1).here r1 (R_bl.mpr rfl)
    | false=>rw[OY OS] at k |-;exact⟨m1,ρ,st1,rf.mono e1,r1,mV C.mono _ (fun _ _ q=>q.ext e1) k⟩
theorem GC:∀(es:Es) {X:Cx}{c:Cfg} (C:COk X c Γ) (xs:List Expr) (pos:Pos),n9 c es xs=true->xs.isEmpty=false->PW X (.BoolOp .And xs pos) (TTx X.K (jt Γ es))
 | .nil,X,c,C,xs,pos,h,hn=>by have h:xs.isEmpty=true:=h;rw[h] at hn;cases hn
 | .cons e .nil,X,c,C,xs,pos,h,hn=>by
  replace h:=ar h;obtain⟨y,ys,rfl,h⟩:=h
  ·simp only[Bool.and_eq_true] at h;obtain⟨h2,h3⟩:=h;have h3:ys.isEmpty=true:=h3;cases ys with
   | nil =>
    rintro whole pins s σ H Q I ⟨m,ρ,st,rf,rh,w⟩
    skip
    exact zJ (qo e C _ h2) whole pins s σ H Q I ⟨m,ρ,st,rf,rh,w⟩
   | cons _ _=>cases h3
 | .cons e (.cons e2 es),X,c,C,xs,pos,h,hn=>by
  replace h:=ar h;obtain⟨y,ys,rfl,h⟩:=h
  ·simp only[Bool.and_eq_true] at h;obtain⟨h2,h3⟩:=h;cases ys with
   | nil=>exact Bool.noConfusion (show false=true from h3)
   | cons y2 ys =>
    rintro whole pins s σ H Q I ⟨m,ρ,st,rf,rh,w⟩
    skip
    refine DZ (qo e C _ h2) (GC (.cons e2 es) C (y2::ys) pos h3 rfl) whole pins s σ H Q I ⟨m,ρ,st,rf,rh,aP C.mono e (fun b st1 k m1 H1 e1 r1=>?_) w⟩;cases b with
    | true=>rw[O0 rfl] at k |-;exact⟨m1,ρ,st1,rf.mono e1,r1,cG C.mono _ (fun _ _ q=>q.ext e1) k⟩
    | false=>rw[OY OS] at k |-;exact k m1 H1 e1 r1
theorem Gq:∀(es:Es) {X:Cx}{c:Cfg} (C:COk X c Γ) (xs:List Expr) (pos:Pos),n9 c es xs=true->xs.isEmpty=false->PW X (.BoolOp .Or xs pos) (TTx X.K (uZ Γ es))
 | .nil,X,c,C,xs,pos,h,hn=>by have h:xs.isEmpty=true:=h;rw[h] at hn;cases hn
 | .cons e .nil,X,c,C,xs,pos,h,hn=>by
  replace h:=ar h;obtain⟨y,ys,rfl,h⟩:=h
  ·simp only[Bool.and_eq_true] at h;obtain⟨h2,h3⟩:=h;have h3:ys.isEmpty=true:=h3;cases ys with
   | nil =>
    rintro whole pins s σ H Q I ⟨m,ρ,st,rf,rh,w⟩
    skip
    exact HW (qo e C _ h2) whole pins s σ H Q I ⟨m,ρ,st,rf,rh,w⟩
   | cons _ _=>cases h3
 | .cons e (.cons e2 es),X,c,C,xs,pos,h,hn=>by
  replace h:=ar h;obtain⟨y,ys,rfl,h⟩:=h
  ·simp only[Bool.and_eq_true] at h;obtain⟨h2,h3⟩:=h;cases ys with
   | nil=>exact Bool.noConfusion (show false=true from h3)
   | cons y2 ys =>
    rintro whole pins s σ H Q I ⟨m,ρ,st,rf,rh,w⟩
    skip
    refine La (qo e C _ h2) (Gq (.cons e2 es) C (y2::ys) pos h3 rfl) whole pins s σ H Q I ⟨m,ρ,st,rf,rh,aP C.mono e (fun b st1 k m1 H1 e1 r1=>?_) w⟩;cases b with
    | true=>rw[O0 rfl] at k |-;exact k m1 H1 e1 r1
    | false=>rw[OY OS] at k |-;exact⟨m1,ρ,st1,rf.mono e1,r1,nK C.mono _ (fun _ _ q=>q.ext e1) k⟩
theorem oj:∀(t:Tg) {X:Cx}{c:Cfg} (C:COk X c Γ) (x:Expr),i3 c t x=true->PG X x (TGx X.K (cX Γ t))
 | .name i,X,c,C,x,h=>by
  replace h:=ah h;obtain⟨y,p,rfl,h⟩:=h
  ·simp only[Bool.and_eq_true,beq_iff_eq] at h;obtain⟨h1,h2⟩:=C.locx h.2;rintro pins s σ H v u Q I r ⟨m,ρ,st,p,rf,rh,hr,w⟩
   skip
   exact EF C.ndX (by rw[C.N];exact h.1) h1 h2 pins s σ H v u Q I r (w.here rh (rf.set i hr))
 | .tup ts,X,c,C,x,h=>by
  replace h:=a9 h;obtain⟨xs,k,p,rfl,h⟩:=h
  ·rintro pins s σ H v u Q I r ⟨m,ρ,st,p,rf,rh,hr,w⟩
   skip
   obtain⟨vs,rfl,hl,w⟩:=w;rw[R_tup] at hr;obtain⟨a,ys,rfl,g,r2⟩:=hr;obtain⟨l1,l2⟩:=pX (env:=X.env) h;refine Iz C.calm (CB ts C _ h) l1 l2 pins s σ H _ u Q I r ⟨a,ys,rfl,g,?_,m,ρ,st,vs,rf,rh,r2,w⟩;rw[<-r2.len];exact hl
 | .ltup ts,X,c,C,x,h=>by rintro pins s σ H v u Q I r ⟨m,ρ,st,p,rf,rh,hr,w⟩;exact False.elim w
 | .sub o i,X,c,C,x,h=>by
  replace h:=ij h;obtain⟨l,rr,pos,rfl,h⟩:=h
  ·simp only[Bool.and_eq_true] at h;obtain⟨⟨h1,h2⟩,h3⟩:=h;rintro pins s σ H v u Q I r ⟨m,ρ,st,p,rf,rh,hr,w⟩
   skip
   refine Jm (ba o C _ h2) (ba i C _ h3) (GK C.room.units) (by cases rr <;> first|(intro _;rfl)|cases h1) pins s σ H v u Q I r ⟨m,ρ,st,rf,rh,aa C.mono o (fun a st1 k m1 H1 x1 e1 r1 r2=>⟨m1,ρ,st1,rf.mono e1,r1,
    aa C.mono i (fun b st2 k2 m2 H2 y2 e2 r3 r4=>⟨m2,st2,a,b,p,r3,r2.mono e2,r4,(hr.mono e1).mono e2,sM (fun st3 q H3 e3 r5=>?_) k2⟩) k⟩) w⟩
   exact q m2 H3 σ ((e1.trans e2).trans e3) r5 (((rf.mono e1).mono e2).mono e3)
theorem CB:∀(ts:Tgs) {X:Cx}{c:Cfg} (C:COk X c Γ) (xs:List Expr),qA c ts xs=true->PGs X xs (N5 X.K (jf Γ ts))
 | .nil,X,c,C,xs,h=>by
  have h:xs.isEmpty=true:=h;cases xs with
  | nil =>
   rintro pins s σ H v u Q I r ⟨m,ρ,st,p,rf,rh,hr,w⟩
   skip
   obtain⟨rfl,w⟩:=w;rw[Rs_nil] at hr;exact FV pins s σ H v u Q I r ⟨hr,w.here rh rf⟩
  | cons _ _=>cases h
 | .cons t ts,X,c,C,xs,h=>by
  replace h:=ar h;obtain⟨y,ys,rfl,h⟩:=h
  ·simp only[Bool.and_eq_true] at h;obtain⟨⟨h1,h2⟩,h3⟩:=h;rintro pins s σ H v u Q I r ⟨m,ρ,st,p,rf,rh,hr,w⟩
   skip
   obtain⟨x,q,rfl,w⟩:=w;rw[bh] at hr;obtain⟨y,ys,rfl,g1,g2⟩:=hr;refine Do (oj t C _ h2) (CB ts C _ h3) (by rw[ki h1];rfl) pins s σ H _ u Q I r ⟨y,ys,rfl,m,ρ,st,x,rf,rh,g1,aU C.mono t (fun ρ1 st1 k m1 H1 σ1 e1 r1 r2=>?_) w⟩;exact⟨m1,ρ1,st1,q,r2,r1,g2.mono e1,iD C.mono ts (fun _ _ q=>q.ext e1) k⟩
theorem xc:∀(it:It) {X:Cx}{c:Cfg} (C:COk X c Γ) {tg:Expr} (x:Expr),vd it tg=true->vV c it x=true->PI X tg x (TIx X.K (eg Γ it))
 | .seq e,X,c,C,tg,x,_,h=>by
  have h:(gh x && aD c e x)=true:=h;rw[OU] at h;rintro pins s σ H Rr I ⟨m,ρ,st,rf,rh,w⟩
  skip
  refine GN (ba e C x h.2) pins s σ H Rr I ⟨m,ρ,st,rf,rh,aa C.mono e (fun v st1 k m1 H1 x1 e1 r1 r2=>?_) w⟩;obtain⟨xs,es,k⟩:=k;cases v with
  | tup ys =>cases es;rw[R_tup] at r2;obtain⟨a,zs,rfl,g,r3⟩:=r2;exact⟨a,rfl,.inr ⟨⟨zs,g⟩,k m1 H1 _ e1 r1 (BA g r3)⟩⟩
  | rdl ys =>cases es;rw[gC] at r2;obtain⟨a,zs,rfl,g,r3⟩:=r2;exact⟨a,rfl,.inl ⟨⟨zs,g.sq⟩,k m1 H1 _ e1 r1 (B6 g r3)⟩⟩
  | ref n =>
   unfold bP bH at es;simp only at es;split at es
   ·cases es;rename_i q;obtain⟨a,zs,rfl,ea,g,r3⟩:=r1.lst q r2;exact⟨a,rfl,.inl ⟨⟨zs,SqL.of g⟩,k m1 H1 _ e1 r1 (AA r1 q ea)⟩⟩
   ·cases es
  | _=>cases es
 | .range1 a,X,c,C,tg,x,_,h=>by
  replace h:=aM h;obtain⟨g,xs,p,rfl,h⟩:=h;replace h:=ah h;obtain⟨y,p2,rfl,h⟩:=h;replace h:=b8 h;obtain⟨l,rfl,h⟩:=h
  ·simp only[Bool.and_eq_true,beq_iff_eq] at h;obtain⟨⟨⟨h1,h2⟩,h3⟩,h4⟩:=h;subst h1;obtain⟨g1,g2,g3,g4⟩:=C.bltx h2;rintro pins s σ H Rr I ⟨m,ρ,st,rf,rh,w⟩
   skip
   have hA:PA X [_] (cy (TEx X.K (wpE Γ a)) kb):=pac (ba a C _ h4) bX h3;refine Aa g1 g4 hA (aw h3) pins s σ H Rr I ⟨m,ρ,st,rf,rh,aa C.mono a (fun v st1 k m1 H1 x1 e1 r1 r2=>?_) w⟩;obtain⟨j,rfl,k1,k2,k⟩:=k;rw[R_int] at r2;subst r2;exact⟨j,rfl,k1,k2,k m1 H1 _ e1 r1 qI⟩
 | .range2 a b,X,c,C,tg,x,_,h=>by
  replace h:=aM h;obtain⟨g,xs,p,rfl,h⟩:=h;replace h:=ah h;obtain⟨y,p2,rfl,h⟩:=h;replace h:=fw h;obtain⟨l,r,rfl,h⟩:=h
  ·simp only[Bool.and_eq_true,beq_iff_eq] at h;obtain⟨⟨⟨⟨⟨h1,h2⟩,h3⟩,h3'⟩,h4⟩,h5⟩:=h;subst h1;obtain⟨g1,g2,g3,g4⟩:=C.bltx h2;rintro pins s σ H Rr I ⟨m,ρ,st,rf,rh,w⟩
   skip
   have hA:PA X [_,_] (cy (TEx X.K (wpE Γ a)) (cy (TEx X.K (wpE Γ b)) kb)):=pac (ba a C _ h4) (pac (ba b C _ h5) bX h3') h3;refine A5 g1 g4 hA (by rw[aw h3,aw h3'];rfl) (aw h3') pins s σ H Rr I ⟨m,ρ,st,rf,rh,aa C.mono a (fun v st1 k m1 H1 x1 e1 r1 r2=>⟨m1,ρ,st1,rf.mono e1,r1,
    aa C.mono b (fun u st2 k2 m2 H2 y2 e2 r3 r4=>?_) k⟩) w⟩
   obtain⟨i,j,rfl,rfl,k1,k⟩:=k2;rw[R_int] at r2 r4;subst r2 r4;exact⟨i,j,rfl,k1,k m2 H2 _ (e1.trans e2) r3 qI⟩
 | .zip a b,X,c,C,tg,x,ht,h=>by
  replace h:=aM h;obtain⟨g,xs,p,rfl,h⟩:=h;replace h:=ah h;obtain⟨y,p2,rfl,h⟩:=h;replace h:=fw h;obtain⟨l,r,rfl,h⟩:=h
  ·simp only[Bool.and_eq_true,beq_iff_eq] at h;obtain⟨⟨⟨⟨⟨h1,h2⟩,h3⟩,h3'⟩,h4⟩,h5⟩:=h;subst h1;obtain⟨g1,g2,g3,g4⟩:=C.bltx h2;cases tg with
   | Tuple elts kt pt =>
    rintro pins s σ H Rr I ⟨m,ρ,st,rf,rh,w⟩
    skip
    have hA:PA X [_,_] (cy (TEx X.K (wpE Γ a)) (cy (TEx X.K (wpE Γ b)) kb)):=pac (ba a C _ h4) (pac (ba b C _ h5) bX h3') h3;refine GZ g1 g4 hA (by rw[aw h3,aw h3'];rfl) (aw h3') pins s σ H Rr I ⟨m,ρ,st,rf,rh,aa C.mono a (fun v st1 k m1 H1 x1 e1 r1 r2=>⟨m1,ρ,st1,rf.mono e1,r1,
     aa C.mono b (fun u st2 k2 m2 H2 y2 e2 r3 r4=>?_) k⟩) w⟩
    obtain⟨xs,ys,q1,q2,k⟩:=k2;obtain⟨a1,rfl,w1,s1⟩:=Gs r3 (r2.mono e2) q1;obtain⟨a2,rfl,w2,s2⟩:=Gs r3 r4 q2;refine⟨a1,a2,rfl,fun e he=>?_,k m2 H2 _ (e1.trans e2) r3 (DX w1 w2)⟩;simp only[List.mem_cons,List.not_mem_nil,or_false] at he;rcases he with rfl|rfl
    ·exact s1
    ·exact s2
   | _=>cases ht
 | .zip3 _ _ _,X,c,C,tg,x,ht,h=>by rintro pins s σ H Rr I ⟨m,ρ,st,rf,rh,w⟩;exact False.elim w
 | .enum a,X,c,C,tg,x,ht,h=>by
  replace h:=aM h;obtain⟨g,xs,p,rfl,h⟩:=h;replace h:=ah h;obtain⟨y,p2,rfl,h⟩:=h;replace h:=b8 h;obtain⟨l,rfl,h⟩:=h
  ·simp only[Bool.and_eq_true,beq_iff_eq] at h;obtain⟨⟨⟨h1,h2⟩,h3⟩,h4⟩:=h;subst h1;obtain⟨g1,g2,g3,g4⟩:=C.bltx h2;cases tg with
   | Tuple elts kt pt =>
    rintro pins s σ H Rr I ⟨m,ρ,st,rf,rh,w⟩
    skip
    have hA:PA X [_] (cy (TEx X.K (wpE Γ a)) kb):=pac (ba a C _ h4) bX h3;refine D8 g1 g4 hA (aw h3) pins s σ H Rr I ⟨m,ρ,st,rf,rh,aa C.mono a (fun v st1 k m1 H1 x1 e1 r1 r2=>?_) w⟩;obtain⟨xs,rfl,k⟩:=k;rw[R_tup] at r2;obtain⟨a1,zs,rfl,g,r3⟩:=r2;exact⟨a1,rfl,⟨zs,g⟩,k m1 H1 _ e1 r1 (A6 g r3)⟩
   | _=>cases ht
 | .chars e,X,c,C,tg,x,_,h=>by have h:(gh x && aD c e x)=true:=h;rw[OU] at h;rintro pins s σ H Rr I ⟨m,ρ,st,rf,rh,w⟩;refine CO (ba e C x h.2) pins s σ H Rr I ⟨m,ρ,st,rf,rh,aa C.mono e (fun v st1 k m1 H1 x1 e1 r1 r2=>?_) w⟩;obtain⟨z,rfl,k⟩:=k;rw[R_str] at r2;exact⟨z,r2,k m1 H1 _ e1 r1 xj⟩
 | .range3 a b d,X,c,C,tg,x,_,h=>by
  replace h:=aM h;obtain⟨g,xs,p,rfl,h⟩:=h;replace h:=ah h;obtain⟨y,p2,rfl,h⟩:=h;replace h:=FN h;obtain⟨l,r,u,rfl,h⟩:=h
  ·simp only[Bool.and_eq_true,beq_iff_eq] at h;obtain⟨⟨⟨⟨⟨⟨⟨h1,h2⟩,h3⟩,h3'⟩,h3''⟩,h4⟩,h5⟩,h6⟩:=h;subst h1;obtain⟨g1,g2,g3,g4⟩:=C.bltx h2;rintro pins s σ H Rr I ⟨m,ρ,st,rf,rh,w⟩;have hA:PA X [_,_,_] (cy (TEx X.K (wpE Γ a)) (cy (TEx X.K (wpE Γ b)) (cy (TEx X.K (wpE Γ d)) kb))):=pac (ba a C _ h4) (pac (ba b C _ h5) (pac (ba d C _ h6) bX h3'') h3') h3;refine AI g1 g4 hA (by rw[aw h3,aw h3',aw h3''];rfl) (by rw[aw h3',aw h3''];rfl) pins s σ H Rr I ⟨m,ρ,st,rf,rh,aa C.mono a (fun v st1 k m1 H1 x1 e1 r1 r2=>⟨m1,ρ,st1,rf.mono e1,r1,
    aa C.mono b (fun u st2 k2 m2 H2 y2 e2 r3 r4=>⟨m2,ρ,st2,(rf.mono e1).mono e2,r3,aa C.mono d (fun w st3 k3 m3 H3 y3 e3 r5 r6=>?_) k2⟩) k⟩) w⟩
   obtain⟨i,j,q,rfl,rfl,rfl,k1,k⟩:=k3;rw[R_int] at r2 r4 r6;subst r2 r4 r6;exact⟨i,j,q,rfl,k1,k m3 H3 _ ((e1.trans e2).trans e3) r5 FU⟩
theorem xH:∀(es:Es) {X:Cx}{c:Cfg} (C:COk X c Γ) (xs:List Expr),n9 c es xs=true->PTs X xs (TTx X.K (jt Γ es))
 | .nil,X,c,C,xs,h=>by
  have h:xs.isEmpty=true:=h;cases xs with
  | nil =>
   rintro pins s σ H Q I ⟨m,ρ,st,rf,rh,w⟩
   skip
   exact zy pins s σ H Q I (w m H (Ext.refl _ _ _) rh)
  | cons _ _=>cases h
 | .cons e .nil,X,c,C,xs,h=>by
  replace h:=ar h;obtain⟨y,ys,rfl,h⟩:=h
  ·simp only[Bool.and_eq_true] at h;obtain⟨h2,h3⟩:=h;have h3:ys.isEmpty=true:=h3;cases ys with
   | nil =>
    rintro pins s σ H Q I ⟨m,ρ,st,rf,rh,w⟩
    skip
    refine ve (qo e C _ h2) zy pins s σ H Q I ⟨m,ρ,st,rf,rh,aP C.mono e (fun b st1 k m1 H1 e1 r1=>?_) w⟩;cases b with
    | true=>rw[O0 rfl];exact k m1 H1 e1 r1
    | false=>rw[OY OS];exact k m1 H1 e1 r1
   | cons _ _=>cases h3
 | .cons e (.cons e2 es),X,c,C,xs,h=>by
  replace h:=ar h;obtain⟨y,ys,rfl,h⟩:=h
  ·simp only[Bool.and_eq_true] at h;obtain⟨h2,h3⟩:=h;rintro pins s σ H Q I ⟨m,ρ,st,rf,rh,w⟩
   skip
   refine ve (qo e C _ h2) (xH (.cons e2 es) C _ h3) pins s σ H Q I ⟨m,ρ,st,rf,rh,aP C.mono e (fun b st1 k m1 H1 e1 r1=>?_) w⟩;cases b with
   | true=>rw[O0 rfl] at k |-;exact⟨m1,ρ,st1,rf.mono e1,r1,cG C.mono _ (fun _ _ q=>q.ext e1) k⟩
   | false=>rw[OY OS] at k |-;exact k m1 H1 e1 r1
end
end
end FW
namespace FW
open L2 HX
section
variable {X:Cx}{c:Cfg}{Γ:Nat->FSp}{tg:Expr}
noncomputable def AE (K:W.Frag)(m:List Addr)(H:Hp)(D:L2.Ends):aK:={ nx:=postF K m H D.nx,rt:=post K m H D.rt,bk:=postF K m H D.bk,ct:=postF K m H D.ct }
noncomputable def TSx (K:W.Frag)(w:Fr->AH->aK->Prop):TS:=fun D σ H=>∃m ρ st,RF K m H ρ σ/\RH K m H st/\w ρ st (AE K m H D)
theorem AE.ext {D:L2.Ends}(x:Ext K m H m1 H1):i2 (AE K m H D) (AE K m1 H1 D) :=
 ⟨fun _ _ q=>q.ext x,fun _ _ q=>q.ext x,fun _ _ q=>q.ext x,fun _ _ q=>q.ext x⟩
theorem EX (G:aT Γ){D:L2.Ends}(h:TSx X.K (wpS Γ (.forS t it b)) D σ H):HE (TIx X.K (eg Γ it)) (TGx X.K (cX Γ t)) (TSx X.K (aG Γ b)) D σ H:=by
 obtain⟨m,ρ,st,rf,rh,w⟩:=h
 skip
 refine⟨m,ρ,st,rf,rh,bL G it (fun xs chk st1 k m1 H1 J e1 r1 W=>?_) w⟩;refine⟨fun i n σ' H'=>n+i=xs.length/\∃m' ρ' st',Ext X.K m1 H1 m' H'/\RH X.K m' H' st'/\RF X.K m' H' ρ' σ'/\m9 chk (fun x ρ' st' D'=>cX Γ t x ρ' st' fun ρ2 st2=>aG Γ b ρ2 st2 D') (AE X.K m H D) (xs.drop i) ρ' st',
  ⟨xs.length,rfl,m1,ρ,st1,Ext.refl _ _ _,r1,rf.mono e1,by simpa using k⟩,?_⟩
 rintro i n σ' H' ⟨hn,m',ρ',st',x',rh',rf',k'⟩;cases q:xs.drop i with
 | nil =>
  rw[q] at k';have hi:i=xs.length:=by have:=PU List.length q;simp at this;omega
  subst hi;exact .inl ⟨W.stop m' H' st' x' rh' k'.1,k'.2 m' H' σ' (e1.trans x') rh' rf'⟩
 | cons v rest =>
  rw[q] at k';have hi:i<xs.length:=by have:=PU List.length q;simp at this;omega
  have ev:xs[i]?=some v:=by have:=PU List.head? q;rw[SY] at this;exact this
  have er:rest=xs.drop (i+1):=by have:=PU List.tail q;rw[S4] at this;exact this.symm
  subst er;obtain⟨kc,k'⟩:=k';obtain⟨go,yl⟩:=W.item i v m' H' st' x' rh' kc ev;refine .inr ⟨go,fun σ'' H''=>(n-1+(i+1)=xs.length/\∃m' ρ' st',Ext X.K m1 H1 m' H''/\RH X.K m' H'' st'/\RF X.K m' H'' ρ' σ''/\m9 chk (fun x ρ' st' D'=>cX Γ t x ρ' st' fun ρ2 st2=>aG Γ b ρ2 st2 D') (AE X.K m H D) (xs.drop (i+1)) ρ' st'),fun σ'' H'' z=>⟨n-1,by omega,z⟩,fun y H2 hy=>?_⟩;obtain⟨x2,r2,rv⟩:=yl y H2 hy;refine⟨m',ρ',st',v,rf'.mono x2,r2,rv,aU G t (fun ρ3 st3 k3 m3 H3 σ3 x3 r3 f3=>?_) k'⟩;refine⟨m3,ρ3,st3,f3,r3,bb G b ?_ k3⟩;have xx:Ext X.K m H m3 H3:=((e1.trans x').trans x2).trans x3;refine⟨fun ρ4 st4 k4 m4 H4 σ4 x4 r4 f4=>⟨by omega,m4,ρ4,st4,((x'.trans x2).trans x3).trans x4,r4,f4,k4⟩,fun v4 st4 k4=>k4.ext xx,fun ρ4 st4 k4=>k4.ext xx,fun ρ4 st4 k4 m4 H4 σ4 x4 r4 f4=>⟨by omega,m4,ρ4,st4,((x'.trans x2).trans x3).trans x4,r4,f4,k4⟩⟩
theorem zR (G:aT Γ){D:L2.Ends}(h:TSx X.K (wpS Γ (.whileS cd b)) D σ H):BC (TTx X.K (wpT Γ cd)) (TSx X.K (aG Γ b)) D σ H:=by
 obtain⟨m,ρ,st,rf,rh,w⟩:=h
 skip
 obtain⟨n0,w⟩:=w;refine⟨fun n σ' H'=>∃m' ρ' st',Ext X.K m H m' H'/\RH X.K m' H' st'/\RF X.K m' H' ρ' σ'/\fY (wpT Γ cd) (aG Γ b) (AE X.K m H D) n ρ' st',⟨n0,m,ρ,st,Ext.refl _ _ _,rh,rf,w⟩,?_⟩;rintro n σ' H' ⟨m',ρ',st',x',rh',rf',k'⟩;cases n with
 | zero=>exact k'.elim
 | succ n =>
  refine⟨m',ρ',st',rf',rh',aP G cd (fun b st1 k m1 H1 x1 r1=>?_) k'⟩;cases b with
  | false=>rw[OY OS] at k |-;exact k m1 H1 σ' (x'.trans x1) r1 (rf'.mono x1)
  | true =>
   rw[O0 rfl] at k |-
   refine⟨fun σ'' H''=>∃m' ρ' st',Ext X.K m H m' H''/\RH X.K m' H'' st'/\RF X.K m' H'' ρ' σ''/\fY (wpT Γ cd) (aG Γ b) (AE X.K m H D) n ρ' st',fun σ'' H'' z=>⟨n,SO _,z⟩,m1,ρ',st1,rf'.mono x1,r1,bb G _ ?_ k⟩;have xx:=x'.trans x1;exact⟨fun ρ4 st4 k4 m4 H4 σ4 x4 r4 f4=>⟨m4,ρ4,st4,xx.trans x4,r4,f4,k4⟩,fun v4 st4 k4=>k4.ext xx,fun ρ4 st4 k4=>k4.ext xx,fun ρ4 st4 k4 m4 H4 σ4 x4 r4 f4=>⟨m4,ρ4,st4,xx.trans x4,r4,f4,k4⟩⟩
end
end FW
namespace FW
open L2 HX
noncomputable def qY:Expr->Bool
 | .Name ..=>true
 | _=>false
noncomputable def C9:Expr->Expr->Bool
 | .Tuple ts _ _,.Tuple vs _ _=>(ts.any fun t=>!qY t) || vs.all (foldedForSure 8)
 | .Tuple ..,_=>true
 | .Subscript ..,_=>true
 | _,_=>false
noncomputable def xJ (y:Str)(sc:Scope):Bool:=sc.names.any fun x=>match x with|(n,k)=>n == y && (k == .local || k == .cell)
noncomputable def ya (x:Stmt)(f:List Expr->Expr->Bool):Bool:=match x with | .Assign ts v _=>f ts v|_=>false
theorem qt (h:ya x f=true):∃ts v p,x=.Assign ts v p/\f ts v=true:=by cases x with|Assign ts v p=>exact⟨ts,v,p,rfl,h⟩|_=>exact Bool.noConfusion h
noncomputable def om (x:Stmt)(f:Expr->Expr->Bool):Bool:=ya x fun ts v=>on1 ts fun t=>f t v
theorem dX (h:om x f=true):∃t v p,x=.Assign [t] v p/\f t v=true:=by replace h:=qt h;obtain⟨ts,v,p,rfl,h⟩:=h;replace h:=b8 h;obtain⟨t,rfl,h⟩:=h;exact⟨t,v,p,rfl,h⟩
noncomputable def J7 (x:Stmt)(f:Expr->Operator->Expr->Bool):Bool:=match x with | .AugAssign t o v _=>f t o v|_=>false
noncomputable def L_ (x:Stmt)(f:Expr->Bool):Bool:=match x with | .Expr v _=>f v|_=>false
theorem Cz (h:L_ x f=true):∃v p,x=.Expr v p/\f v=true:=by cases x with|Expr v p=>exact⟨v,p,rfl,h⟩|_=>exact Bool.noConfusion h
noncomputable def yU (x:Stmt)(f:Option Expr->Bool):Bool:=match x with | .Return v _=>f v|_=>false
theorem mK (h:yU x f=true):∃v p,x=.Return v p/\f v=true:=by cases x with|Return v p=>exact⟨v,p,rfl,h⟩|_=>exact Bool.noConfusion h
noncomputable def Fg (x:Stmt)(f:Expr->List Stmt->List Stmt->Bool):Bool:=match x with | .If v a b _=>f v a b|_=>false
theorem qR (h:Fg x f=true):∃v a b p,x=.If v a b p/\f v a b=true:=by cases x with|If v a b p=>exact⟨v,a,b,p,rfl,h⟩|_=>exact Bool.noConfusion h
noncomputable def zH (x:Stmt)(f:Expr->List Stmt->Bool):Bool:=match x with | .While v a [] _=>f v a|_=>false
theorem v_ (h:zH x f=true):∃v a p,x=.While v a [] p/\f v a=true:=by
 cases x with
 | While v a b p=>cases b with|nil=>exact⟨v,a,p,rfl,h⟩|cons _ _=>exact Bool.noConfusion h
 | _=>exact Bool.noConfusion h
noncomputable def yL (x:Stmt)(f:Expr->Expr->List Stmt->Bool):Bool:=match x with | .For t v a [] _=>f t v a|_=>false
theorem sF (h:yL x f=true):∃t v a p,x=.For t v a [] p/\f t v a=true:=by
 cases x with
 | For t v a b p=>cases b with|nil=>exact⟨t,v,a,p,rfl,h⟩|cons _ _=>exact Bool.noConfusion h
 | _=>exact Bool.noConfusion h
noncomputable def Du (x:Stmt):Bool:=match x with | .Pass _=>true|_=>false
theorem xv (h:Du x=true):∃p,x=.Pass p:=by cases x with|Pass p=>exact⟨p,rfl⟩|_=>exact Bool.noConfusion h
noncomputable def GG (x:Stmt):Bool:=match x with | .Break _=>true|_=>false
theorem A4 (h:GG x=true):∃p,x=.Break p:=by cases x with|Break p=>exact⟨p,rfl⟩|_=>exact Bool.noConfusion h
noncomputable def B7 (x:Stmt):Bool:=match x with | .Continue _=>true|_=>false
theorem xl (h:B7 x=true):∃p,x=.Continue p:=by cases x with|Continue p=>exact⟨p,rfl⟩|_=>exact Bool.noConfusion h
noncomputable def Ik:Tg->Bool
 | .name _=>true
 | _=>false
noncomputable def K3:E->Bool
 | .comp ..=>true
 | _=>false
noncomputable def setC (c:Cfg)(t:Tg)(e:E)(tg x:Expr):Bool :=
 Ik t && K3 e && av tg fun y py=>Ay x fun _ _ sc pos=>c.names.lookup y == some .cell || (c.names.lookup y == some .local && py.line == pos.line && !xJ y sc)
noncomputable def K_:E->Bool
 | .compD ..=>true
 | _=>false
noncomputable def Bx (c:Cfg)(t:Tg)(e:E)(tg x:Expr):Bool :=
 Ik t && K_ e && av tg fun y py=>Io x fun _ _ _ sc pos=>c.names.lookup y == some .local && py.line == pos.line && !xJ y sc
theorem EW (h:K_ e=true):∃kx vx tg wk d ifs nt caps,e=.compD kx vx tg wk d ifs nt caps:=by cases e with|compD kx vx tg wk d ifs nt caps=>exact⟨kx,vx,tg,wk,d,ifs,nt,caps,rfl⟩|_=>exact Bool.noConfusion h
noncomputable def KA (c:Cfg)(t:Expr):Bool:=av t fun y _=>c.names.lookup y == some .cell
noncomputable def setT (c:Cfg)(tg x:Expr):Bool:=dN tg fun ts=>(Ay x fun _ _ _ _=>true) || dN x fun _=>ts.any (KA c)
mutual
noncomputable def EE (c:Cfg):S->Stmt->Bool
 | .set t e,s=>om s fun tg x=>(i3 c t tg && aD c e x) && ((nW x && (qY tg || C9 tg x)) || (setC c t e tg x || (setT c tg x || Bx c t e tg x)))
 | .par i j a b,s=>om s fun tg vx=>dN tg fun ts=>on2 ts fun ta tb=>av ta fun x px=>av tb fun y py=>dN vx fun us=>on2 us fun u v=>c.N[i]? == some x && c.N[j]? == some y && !(i == j) && !(x == y) && c.names.lookup x == some .local && c.names.lookup y == some .local
    && px.line == py.line && ak u && ak v && !(foldedForSure 8 u && foldedForSure 8 v) && !(constantsAlone 8 u && constantsAlone 8 v) && aD c a u && aD c b v
 | .aug i op e,s=>J7 s fun t o x=>av t fun y _=>c.N[i]? == some y && c.loc y && o == op && aD c e x
 | .expr e,s=>L_ s fun x=>nW x && aD c e x
 | .ret e,s=>yU s fun o=>iP o fun x=>aD c e x
 | .retN,s=>yU s fun o=>o.isNone
 | .ifS t a b,s=>Fg s fun x ys zs=>xE c t x && aE c a ys && aE c b zs
 | .whileS t b,s=>zH s fun x ys=>xE c t x && aE c b ys
 | .forS t it b,s=>yL s fun tg x ys=>vd it tg && gh x && i3 c t tg && vV c it x && aE c b ys
 | .forK t wk e b,s=>yL s fun tg x ys=>Hd wk tg && gh x && i3 c t tg && Hs wk x (fun y=>aD c e y) && aE c b ys
 | .pass,s=>Du s
 | .brk,s=>GG s
 | .cont,s=>B7 s
 | .bad,_=>true
 | .set2 i j e,s=>ya s fun ts v=>on2 ts fun ta tb=>av ta fun x _=>av tb fun y _=>c.N[i]? == some x && c.N[j]? == some y && !(i == j) && c.loc x && c.loc y && nW v && aD c e v
termination_by structural s=>s
noncomputable def aE (c:Cfg):Ss->List Stmt->Bool
 | .nil,xs=>xs.isEmpty
 | .cons s ss,xs=>cR xs fun y ys=>EE c s y && aE c ss ys
termination_by structural s=>s
end
theorem yN (h:Ik t=true):∃i,t=.name i:=by cases t with|name i=>exact⟨i,rfl⟩|_=>exact Bool.noConfusion h
theorem F5 (h:K3 e=true):∃elt tg it ifs nt caps,e=.comp elt tg it ifs nt caps:=by cases e with|comp elt tg it ifs nt caps=>exact⟨elt,tg,it,ifs,nt,caps,rfl⟩|_=>exact Bool.noConfusion h
theorem bW {l:Nat}(h:nW x=true):swapsWith x t l env=pure false:=by cases x <;> first|rfl|cases h
theorem jB {t:Expr}{l:Nat}(h:nW x=true):swapsWithSole [t] x l env=pure false:=by unfold swapsWithSole;exact bW h
theorem ot:∀(ts:List Expr) (f:Expr->Option Str),(ts.any fun t=>!qY t)=true->(∀t,qY t=false->f t=none)->(ts.filterMap f).length<ts.length
 | [],f,h,_=>by cases h
 | t::ts,f,h,hf=>by
  rw[QE,QY] at h;have hl:(ts.filterMap f).length<=ts.length:=RC _ _;rcases h with h|h
  ·rw[P6,hf t (by simpa using h)];simp only[List.length_cons];omega
  ·have:=ot ts f h hf;rw[P6];cases f t <;> simp only[List.length_cons] <;> omega
theorem mG:∀(ts:List Expr) (P:Expr->Bool) (f:Expr->Option Str),ts.any P=true->(∀t,P t=true->f t=none)->(ts.filterMap f).length<ts.length
 | [],P,f,h,_=>by cases h
 | t::ts,P,f,h,hf=>by
  rw[QE,QY] at h;have hl:(ts.filterMap f).length<=ts.length:=RC _ _;rcases h with h|h
  ·rw[P6,hf t h];simp only[List.length_cons];omega
  ·have:=mG ts P f h hf;rw[P6];cases f t <;> simp only[List.length_cons] <;> omega
theorem Bv {ts:List Expr}{k k2:Nat}{env:Env}(hs:ts.any P=true)(hP:∀t,P t=true->∃y q,t=.Name y q/\(env.kindOf y == some .local)=false):swappedStores [.Tuple ts k p] (.Tuple vs k2 p2) env=pure none:=by
 unfold swappedStores;dsimp only;split
 ·rfl
 ·split
  ·rfl
  ·have hlt:=mG ts P (fun x=>match x with
    | .Name id pos=>if (env.kindOf id == some .local && pos.line == (Option.map (fun x=>x.pos.line) ts.head?).getD 0)=true then some id else none
    | _=>none) hs (fun t ht=>by obtain⟨y,q,rfl,hk⟩:=hP t ht;show (if (env.kindOf y == some .local && _)=true then some y else none)=none;rw[hk,SE,OY OS])
   rw[O0];rw[QY]
   left
   rw[bne_iff_ne];exact PN hlt
theorem nq (h:C9 tg x=true):swappedStores [tg] x env=pure none:=by
 cases tg with
 | Tuple ts k p =>
  cases x with
  | Tuple vs k2 p2 =>
   have hs:((ts.any fun t=>!qY t) || vs.all (foldedForSure 8))=true:=h;rw[QY] at hs;unfold swappedStores;dsimp only;split
   ·rfl
   ·split
    ·rfl
    rcases hs with hs|hs
    rotate_left
    ·split
     ·rfl
     ·first|rfl|rw[O0 hs]
    ·have hlt:=ot ts (fun x=>match x with
      | .Name id pos=>if (env.kindOf id == some .local && pos.line == (Option.map (fun x=>x.pos.line) ts.head?).getD 0)=true then some id else none
      | _=>none) hs (fun t ht=>by cases t <;> first|rfl|cases ht)
     rw[O0];rw[QY]
     left
     rw[bne_iff_ne];exact PN hlt
  | _=>rfl
 | Subscript a b p=>cases x <;> rfl
 | _=>cases h
noncomputable def xA:Expr->Bool
 | .Starred ..=>true
 | _=>false
theorem sE (h:ak u=true):xA u=false:=by cases u <;> first|rfl|cases h
theorem xV (h1:ak u=true)(h2:ak v=true):([u,v].any fun | .Starred ..=>true|_=>false)=false:=by show (xA u || (xA v || false))=false;rw[sE h1,sE h2];rfl
theorem B8 {env:Env}{px py:Pos}{kt k2:Nat}(hb:env.blockKind=.function)(hx:env.kindOf x=some .local)(hy:env.kindOf y=some .local)(hxy:x≠y)(hl:px.line=py.line)(h1:ak u=true)(h2:ak v=true)(h3:(foldedForSure 8 u && foldedForSure 8 v)=false)(h4:(constantsAlone 8 u && constantsAlone 8 v)=false) :
  swappedStores [.Tuple [.Name x px,.Name y py] kt pt] (.Tuple [u,v] k2 pt2) env=pure (some [x,y]):=by
 unfold swappedStores;dsimp only;have e0:(Option.map (fun x=>x.pos.line) [Expr.Name x px,Expr.Name y py].head?).getD 0=px.line:=rfl;have e1:([u,v].any fun | .Starred ..=>true|_=>false)=false:=xV h1 h2;have e2:[u,v].all (foldedForSure 8)=false:=by simpa using h3
 have e3:[u,v].all (constantsAlone 8)=false:=by simpa using h4
 have e4:[x,y].eraseDups.length=2:=by
  have:(y == x)=false:=by simpa using fun z=>hxy z.symm
  simp[List.eraseDups_cons,this]
 rw[OY (by simp[hb]),OY ?h1]
 case h1=>exact fun z=>OS (e1.symm.trans z)
 have e5:(List.filterMap (fun t=>match t with
   | .Name id pos=>if (env.kindOf id == some .local && pos.line == (Option.map (fun x=>x.pos.line) [Expr.Name x px,Expr.Name y py].head?).getD 0)=true then some id else none
   | _=>none) [Expr.Name x px,Expr.Name y py])=[x,y]:=by
  rw[e0];simp[List.filterMap_cons,hx,hy,hl]
 generalize hn:List.filterMap _ [Expr.Name x px,Expr.Name y py]=ns;have hns:ns=[x,y]:=hn.symm.trans e5;subst hns;rw[OY,OY,OY]
 ·rw[e3];decide
 ·rw[e2];decide
 ·rw[e4];simp
section
variable {X:Cx}{c:Cfg}{Γ:Nat->FSp}
theorem BS {Γ:Nat->FSp}(C:COk X c Γ)(h2:i3 c t tg=true)(h3:aD c e x=true)(h:setC c t e tg x=true):PS X (.Assign [tg] x pos) (TSx X.K (wpS Γ (.set t e))):=by
 have hE:=ba e C _ h3;unfold setC at h;rw[OU,OU] at h;obtain⟨⟨ht,he⟩,h⟩:=h;replace h:=ah h;obtain⟨y,py,rfl,h⟩:=h;replace h:=ji h;obtain⟨ex,gens,sc,cpos,rfl,h⟩:=h;obtain⟨i,rfl⟩:=yN ht;obtain⟨elt,tg,it,ifs,nt,caps,rfl⟩:=F5 he
 ·have h2:(c.N[i]? == some y && c.loc y)=true:=h2;simp only[Bool.and_eq_true,beq_iff_eq] at h2;obtain⟨g1,g2⟩:=C.locx h2.2;rintro pins s σ H D I ⟨m,ρ,st,rf,rh,w⟩;simp only[Bool.or_eq_true,Bool.and_eq_true,beq_iff_eq,Bool.not_eq_true'] at h;rcases h with h|⟨⟨hl,hp⟩,hn⟩
  ·have hk:=C.cel y (.inl h);have hs:swapsWith (.ListComp ex gens sc cpos) (some (.Name y py)) pos.line X.env=pure false:=by
    unfold swapsWith;have:(X.env.kindOf y == some NameKind.local)=false:=by rcases hk with hk|hk <;> rw[hk] <;> rfl
    simp only[this,Bool.and_false,Bool.false_and]
   rw[DL] at w;refine kM C.ndX (by rw[C.N];exact h2.1) g1 hE hs g2 pins s σ H D I ⟨m,ρ,st,rf,rh,aa C.mono _ (fun v st1 k m1 H1 x1 e1 r1 r2=>?_) w⟩
   try simp only[mj,tM,uF] at k
   exact k m1 H1 _ e1 r1 ((rf.mono e1).set i r2)
  ·have hll:=C.lcl _ hl;have hs:swapsWith (.ListComp ex gens sc cpos) (some (.Name y py)) pos.line X.env=pure true:=by
    unfold swapsWith;have q1:(X.env.kindOf y == some NameKind.local)=true:=by unfold Env.kindOf;rw[hll];rfl
    have q2:(X.env.blockKind == ScopeKind.function)=true:=by rw[C.bk];rfl
    have q3:(py.line == cpos.line)=true:=by rw[hp];simp
    unfold xJ at hn;show pure (_ && _ && _ && !_)=_;rw[q1,q2];show pure (true && true && (py.line == cpos.line) && !_)=_;rw[q3,hn];rfl
   replace h3:=ji h3;obtain⟨ex',gs',sc',pos',heq,h3⟩:=h3;cases heq;replace h3:=b8 h3;obtain⟨g,rfl,h3⟩:=h3;obtain⟨tx,ix,fx,ia⟩:=g
   ·simp only[Bool.and_eq_true,beq_iff_eq] at h3;obtain⟨⟨⟨⟨⟨⟨⟨⟨h1,h0⟩,k2'⟩,h3⟩,h4⟩,h5⟩,h6⟩,h7⟩,h8⟩:=h3;subst h1;obtain⟨S,k1,k2,k3,k4⟩:=mn C h4;have hC:∀s2 H2 fp A,COk (cxC X (nt++caps.filterMap (X.N[·]?)) s2 H2 fp sc A) (c.inner nt caps sc) Γ:=fun s2 H2 fp A=>xQ C h4
    skip
    rw[exec_Assign_Name_used _ _ _ _ hs];refine OP (wpAny_standAt ?_);refine OP ?_;unfold evalThenUse;refine OP ?_;refine tq (elt:=elt) (tg:=tg) (ifs:=ifs) (nt:=nt) (caps:=caps) (use:=some (assign (.Name y py) X.env)) (Fin:=fun A H'=>D.nx (σ.set i (some (.ref A))) H') (wi:=TIx X.K (eg Γ it)) C.mono C.calm S rfl k1 k2 k3 k2' h3 (xc it C _ h0 h5) (fun s2 H2 fp A=>oj tg (hC s2 H2 fp A) _ h6) (fun s2 H2 fp A=>xH ifs (hC s2 H2 fp A) _ h7) (fun s2 H2 fp A=>ba elt (hC s2 H2 fp A) _ h8) I ?_ ?_
    ·refine⟨m,ρ,st,rf,rh,bL C.mono it (fun xs chk st1 z m1 H1 J e1 r1 W=>⟨m1,ρ,st1,xs,chk,rf.mono e1,r1,W,z.1,?_⟩) w⟩;refine iT (body:=gq Γ elt tg ifs (nt.map (fun _=>none)++caps.map fun i=>(ρ[i]?).join)) (fun _ _ _ _ hk q=>rj C.mono hk q) (fun vs st2 k m2 H2 A ys e2 r2 Dm hD0 hD ry=>?_) z.2;have hD1:H A=none:=by
      cases q:H A with
      | none=>rfl
      | some o =>
       by_cases hm:A∈m
       ·exact absurd ((e1.trans e2).pre.subset hm) Dm
       ·exact absurd hD0 (e1.ne hm q)
     try simp only[mj,tM,uF] at k
     exact k _ _ _ ((e1.trans e2).addD hD1) (r2.addD Dm hD ry) ((rf.mono ((e1.trans e2).addD hD1)).set i (R.last r2.len))
    ·intro C' A H' s' m' I' ns fp F;refine wpAny_assign_Name (tj I' C.ndX (by rw[C.N];exact h2.1) g1 (v:=.ref A) rfl (fun s2 I2 hh=>?_) g2);obtain⟨a,hs2,ha⟩:=hh;have hne:C'≠a:=by
      rcases ha with rfl|ha
      ·exact fp.2.1
      ·exact fun q=>fp.2.2.2.2.1 _ _ ha q.symm
     refine⟨m',?_,fun h' hs'=>?_⟩
     ·obtain⟨o,es,ep,q1,q2⟩:=ns;exact⟨o,es,ep,(hs2.2 C' hne).trans q1,q2⟩
     ·refine O2 (O2 ?_);exact⟨_,H',I2.turned (t':=s2.toks) (fun b o hb e=>hs'.extBut b o hb e) fp.1 fp.2.1 fp.2.2.2.1 fp.2.2.2.2.1 fp.2.2.2.2.2,F⟩
theorem CK {Γ:Nat->FSp}(C:COk X c Γ)(h2:i3 c t tg=true)(h3:aD c e x=true)(h:Bx c t e tg x=true):PS X (.Assign [tg] x pos) (TSx X.K (wpS Γ (.set t e))):=by unfold Bx at h;rw[OU,OU] at h;obtain⟨⟨ht,he⟩,h⟩:=h;replace h:=ah h;obtain⟨y,py,rfl,h⟩:=h;replace h:=Ct h;obtain⟨ek,ev,gens,sc,cpos,rfl,h⟩:=h;obtain⟨i,rfl⟩:=yN ht;obtain⟨kx,vx,tg,wk,d,ifs,nt,caps,rfl⟩:=EW he;have h2:(c.N[i]? == some y && c.loc y)=true:=h2;simp only[Bool.and_eq_true,beq_iff_eq] at h2;obtain⟨g1,g2⟩:=C.locx h2.2;rintro pins s σ H D I ⟨m,ρ,st,rf,rh,w⟩;rw[DL] at w;exact False.elim w
mutual
theorem GQ (C:COk X c Γ):∀(e:S) (x:Stmt),EE c e x=true->PS X x (TSx X.K (wpS Γ e))
 | .set t e,x,h=>by
  replace h:=dX h;obtain⟨tg,x,pos,rfl,h⟩:=h
  ·simp only[Bool.and_eq_true,Bool.or_eq_true] at h;obtain⟨⟨h2,h3⟩,h14⟩:=h;rcases h14 with⟨h1,h4⟩|h14|h14|h14
   rotate_left
   ·exact BS C h2 h3 h14
   rotate_left
   ·exact CK C h2 h3 h14
   rotate_right
   ·have hE:=ba e C _ h3;have hG:=oj t C _ h2;rintro pins s σ H D I ⟨m,ρ,st,rf,rh,w⟩
    skip
    have rd:FJ (TEx X.K (wpE Γ e)) (TGx X.K (cX Γ t)) D σ H:=⟨m,ρ,st,rf,rh,aa C.mono e (fun v st1 k m1 H1 x1 e1 r1 r2=>⟨m1,ρ,st1,v,rf.mono e1,r1,r2,aU C.mono t (fun _ _ q=>q.ext e1) k⟩) w⟩;obtain⟨ts,k,p,rfl,h14⟩:=a9 h14;rcases Bool.or_eq_true_iff.mp h14 with h14|h14
    ·obtain⟨a,b,d,f,rfl,_⟩:=ji h14;exact p9 hE hG rfl rfl rfl pins s σ H D I rd
    ·obtain⟨us,k2,p2,rfl,h14⟩:=a9 h14;refine p9 hE hG rfl (Bv (P:=KA c) h14 fun t ht=>?_) rfl pins s σ H D I rd;obtain⟨y,q,rfl,hy⟩:=ah (show av t _=true from ht);refine⟨y,q,rfl,?_⟩;rcases C.cel y (.inl (by simpa using hy)) with hk|hk <;> rw[hk] <;> rfl
   ·have hE:=ba e C _ h3;have hG:=oj t C _ h2;rintro pins s σ H D I ⟨m,ρ,st,rf,rh,w⟩
    skip
    have rd:FJ (TEx X.K (wpE Γ e)) (TGx X.K (cX Γ t)) D σ H:=⟨m,ρ,st,rf,rh,aa C.mono e (fun v st1 k m1 H1 x1 e1 r1 r2=>⟨m1,ρ,st1,v,rf.mono e1,r1,r2,aU C.mono t (fun _ _ q=>q.ext e1) k⟩) w⟩;cases t with
    | name i =>
     obtain⟨y,p,rfl,h2⟩:=ah h2;have h2:=Bool.and_eq_true_iff.mp h2;obtain⟨g1,g2⟩:=C.locx h2.2;refine kM C.ndX (by rw[C.N];exact beq_iff_eq.mp h2.1) g1 hE (bW h1) g2 pins s σ H D I ⟨m,ρ,st,rf,rh,aa C.mono e (fun v st1 k m1 H1 x1 e1 r1 r2=>?_) w⟩
     try simp only[mj,tM,uF] at k
     exact k m1 H1 _ e1 r1 ((rf.mono e1).set i r2)
    | tup ts =>obtain⟨xs,k,p,rfl,_⟩:=a9 h2;exact p9 hE hG (jB h1) (nq (by rcases h4 with h4|h4;cases h4;exact h4)) rfl pins s σ H D I rd
    | ltup ts =>obtain⟨xs,k,p,rfl,_⟩:=a9 h2;exact p9 hE hG (jB h1) (nq (by rcases h4 with h4|h4;cases h4;exact h4)) rfl pins s σ H D I rd
    | sub o i =>obtain⟨l,r,p,rfl,_⟩:=ij h2;exact p9 hE hG (jB h1) (nq (by rcases h4 with h4|h4;cases h4;exact h4)) rfl pins s σ H D I rd
 | .par i j a b,x,h=>by
  replace h:=dX h;obtain⟨tg,vx,pos,rfl,h⟩:=h;replace h:=a9 h;obtain⟨ts,k,p1,rfl,h⟩:=h;replace h:=fw h;obtain⟨ta,tb,rfl,h⟩:=h;replace h:=ah h;obtain⟨x,px,rfl,h⟩:=h;replace h:=ah h;obtain⟨y,py,rfl,h⟩:=h;replace h:=a9 h;obtain⟨us,k2,p2,rfl,h⟩:=h;replace h:=fw h;obtain⟨u,v,rfl,h⟩:=h
  ·simp only[Bool.and_eq_true,beq_iff_eq,Bool.not_eq_true',beq_eq_false_iff_ne] at h;obtain⟨⟨⟨⟨⟨⟨⟨⟨⟨⟨⟨⟨h1,h2⟩,h3⟩,h4⟩,h5⟩,h6⟩,h7⟩,h8⟩,h9⟩,h10⟩,h11⟩,h12⟩,h13⟩:=h;have hx:=C.lcl _ h5;have hy:=C.lcl _ h6;rintro pins s σ H D I ⟨m,ρ,st,rf,rh,w⟩
   skip
   refine Hz C.calm C.ndX (by rw[C.N];exact h1) (by rw[C.N];exact h2) h3 hx hy (pac (ba a C _ h12) (pac (ba b C _ h13) bX h9) h8)
    (B8 C.bk hx hy h4 h7 h8 h9 h10 h11) rfl pins s σ H D I ⟨m,ρ,st,rf,rh,aa C.mono a (fun v st1 k m1 H1 x1 e1 r1 r2=>⟨m1,ρ,st1,rf.mono e1,r1,
    aa C.mono b (fun u st2 k2 m2 H2 y2 e2 r3 r4=>⟨x1,y2,rfl,?_⟩) k⟩) w⟩
   exact k2 m2 H2 _ (e1.trans e2) r3 ((((rf.mono e1).mono e2).set i (r2.mono e2)).set j r4)
 | .aug i op e,x,h=>by rintro pins s σ H D I ⟨m,ρ,st,rf,rh,w⟩;exact False.elim w
 | .expr e,x,h=>by
  replace h:=Cz h;obtain⟨x,p,rfl,h⟩:=h
  ·simp only[Bool.and_eq_true] at h;rintro pins s σ H D I ⟨m,ρ,st,rf,rh,w⟩
   skip
   exact Ei (ba e C _ h.2) (bW h.1) pins s σ H D I ⟨m,ρ,st,rf,rh,aa C.mono e (fun u st1 k m1 H1 x1 e1 r1 r2=>k m1 H1 σ e1 r1 (rf.mono e1)) w⟩
 | .ret e,x,h=>by
  replace h:=mK h;obtain⟨o,p,rfl,h⟩:=h;replace h:=fT h;obtain⟨x,rfl,h⟩:=h
  ·rintro pins s σ H D I ⟨m,ρ,st,rf,rh,w⟩
   skip
   exact Bg (ba e C _ h) pins s σ H D I ⟨m,ρ,st,rf,rh,w⟩
 | .retN,x,h=>by
  replace h:=mK h;obtain⟨o,p,rfl,h⟩:=h;replace h:=Am h;obtain rfl:=h
  ·rintro pins s σ H D I ⟨m,ρ,st,rf,rh,w⟩
   skip
   exact F2 pins s σ H D I (post.here w rh (R_non.mpr rfl))
 | .ifS t a b,x,h=>by
  replace h:=qR h;obtain⟨x,ys,zs,p,rfl,h⟩:=h
  ·simp only[Bool.and_eq_true] at h;obtain⟨⟨h1,h2⟩,h3⟩:=h;rintro pins s σ H D I ⟨m,ρ,st,rf,rh,w⟩
   skip
   refine Lr (qo t C _ h1) (qQ C a _ h2) (qQ C b _ h3) pins s σ H D I ⟨m,ρ,st,rf,rh,aP C.mono t (fun k st1 z m1 H1 e1 r1=>?_) w⟩;cases k with
   | true=>rw[O0 rfl] at z |-;exact⟨m1,ρ,st1,rf.mono e1,r1,bb C.mono a (AE.ext e1) z⟩
   | false=>rw[OY OS] at z |-;exact⟨m1,ρ,st1,rf.mono e1,r1,bb C.mono b (AE.ext e1) z⟩
 | .whileS t b,x,h=>by
  replace h:=v_ h;obtain⟨x,ys,p,rfl,h⟩:=h
  ·simp only[Bool.and_eq_true] at h;intro pins s σ H D I w;exact Dr C.pass (qo t C _ h.1) (qQ C b _ h.2) pins s σ H D I (zR C.mono w)
 | .forS t it b,x,h=>by
  replace h:=sF h;obtain⟨tg,x,ys,p,rfl,h⟩:=h
  ·simp only[Bool.and_eq_true] at h;obtain⟨⟨⟨⟨h0,h1⟩,h2⟩,h3⟩,h4⟩:=h;intro pins s σ H D I w;exact CV C.pass C.calm (xc it C _ h0 h3) (oj t C _ h2) (qQ C b _ h4) (md h1) pins s σ H D I (EX C.mono w)
 | .forK t wk e b,x,h=>by rintro pins s σ H D I ⟨m,ρ,st,rf,rh,w⟩;exact False.elim w
 | .bad,x,h=>by rintro pins s σ H D I ⟨m,ρ,st,rf,rh,w⟩;exact False.elim w
 | .set2 i j e,x,h=>by
  replace h:=qt h;obtain⟨ts,v,pos,rfl,h⟩:=h;replace h:=fw h;obtain⟨ta,tb,rfl,h⟩:=h;replace h:=ah h;obtain⟨x,px,rfl,h⟩:=h;replace h:=ah h;obtain⟨y,py,rfl,h⟩:=h
  ·simp only[Bool.and_eq_true,beq_iff_eq,Bool.not_eq_true',beq_eq_false_iff_ne] at h;obtain⟨⟨⟨⟨⟨⟨h1,h2⟩,h3⟩,h4⟩,h5⟩,h6⟩,h7⟩:=h;obtain⟨a1,a2⟩:=C.locx h4;obtain⟨b1,b2⟩:=C.locx h5;rintro pins s σ H D I ⟨m,ρ,st,rf,rh,w⟩
   skip
   refine wpAny_Assign_two (thn (ba e C _ h7 pins s σ H (fun y H1=>D.nx ((σ.set i (some y)).set j (some y)) H1) I ⟨m,ρ,st,rf,rh,aa C.mono e (fun v st1 k m1 H1 x1 e1 r1 r2=>k m1 H1 _ e1 r1 (((rf.mono e1).set i r2).set j r2)) w⟩) fun v s1 ⟨y,H1,I1,r1,q1⟩=>?_) rfl rfl;refine PySem.wpAny_assign_Name ?_;refine gj I1 C.ndX (by rw[C.N];exact h1) a1 r1 (fun s2 I2=>?_) a2;refine PySem.wpAny_assign_Name ?_;exact gj I2 C.ndX (by rw[C.N];exact h2) b1 r1 (fun s3 I3=>⟨_,H1,I3,q1⟩) b2
 | .pass,x,h=>by
  replace h:=xv h;obtain⟨p,rfl⟩:=h
  ·rintro pins s σ H D I ⟨m,ρ,st,rf,rh,w⟩
   skip
   exact Et pins s σ H D I (postF.here w rh rf)
 | .brk,x,h=>by
  replace h:=A4 h;obtain⟨p,rfl⟩:=h
  ·rintro pins s σ H D I ⟨m,ρ,st,rf,rh,w⟩
   skip
   exact CP pins s σ H D I (postF.here w rh rf)
 | .cont,x,h=>by
  replace h:=xl h;obtain⟨p,rfl⟩:=h
  ·rintro pins s σ H D I ⟨m,ρ,st,rf,rh,w⟩
   skip
   exact vP pins s σ H D I (postF.here w rh rf)
theorem qQ (C:COk X c Γ):∀(e:Ss) (x:List Stmt),aE c e x=true->PSs X x (TSx X.K (aG Γ e))
 | .nil,x,h=>by
  have h:x.isEmpty=true:=h;cases x with
  | nil =>
   rintro pins s σ H D I ⟨m,ρ,st,rf,rh,w⟩
   skip
   exact pK pins s σ H D I (postF.here w rh rf)
  | cons _ _=>cases h
 | .cons e es,x,h=>by
  replace h:=ar h;obtain⟨y,ys,rfl,h⟩:=h
  ·simp only[Bool.and_eq_true] at h;rintro pins s σ H D I ⟨m,ρ,st,rf,rh,w⟩
   skip
   refine qu (GQ C e _ h.1) (qQ C es _ h.2) pins s σ H D I ⟨m,ρ,st,rf,rh,jC C.mono e ?_ w⟩;exact⟨fun ρ1 st1 k m1 H1 σ1 e1 r1 f1=>⟨m1,ρ1,st1,f1,r1,bb C.mono es (AE.ext e1) k⟩,fun _ _ q=>q,fun _ _ q=>q,fun _ _ q=>q⟩
end
structure GOk (P:Program)(w:World)(K:W.Frag)(mg:Str->Option Value)(base:Heap)(c:Cfg)(Γ:Nat->FSp):Prop where
 fn:∀f x,f<c.lim->c.fns[f]?=some x->∃ps,Has P w K mg base (f+1) x ps (dP K (Γ f))
 blt:∀x∈c.blts,mg x=none
 gl:∀x v,c.gl.lookup x=some v->∃u y,mg x=some u/\RelV y u/\∀m H,R K m H v y
 mono:aT Γ
noncomputable def frame (n:Nat)(as:List PV):Fr:=as.map some++List.replicate (n-as.length) none
noncomputable def ag (st:AH)(Q:EK):aK:={ nx:=fun _ st'=>Ret st Q .non st',rt:=Ret st Q }
theorem eR (rh:RH K m H st)(q:Ret st (post K m H Q) v st'):post K m H Q v st':=by
 rcases q with q|q
 ·exact q
 ·intro m' H' x e r s;obtain⟨st1,q,e2,r3,r4⟩:=pI rh e r s q;exact q m H' x e2 r3 r4
theorem mq {N:List Str}(r:Rs K m H as vs):RF K m H (frame N.length as) (L2.start N vs):=by
 have hl:=r.len;refine⟨by simp[frame,L2.start,hl],fun i v e=>?_⟩;unfold frame at e;unfold L2.start;by_cases hi:i<as.length
 ·rw[O_ (by simpa using hi),PC] at e;cases q:as[i]? with
  | none=>rw[q] at e;cases e
  | some a =>rw[q] at e;cases e;obtain⟨y,e1,r1⟩:=r.get q;exact⟨y,by rw[O_ (by simp;omega),PC,e1];rfl,r1⟩
 ·rw[PB (by simpa using hi),List.getElem?_replicate] at e;split at e <;> cases e
theorem tR {P:Program}{w:World}{K:W.Frag}{mg:Str->Option Value}{base:Heap}{x:Str}{st:Stmt}{N ps:List Str}(S:aj N ps (ae st)){f:Addr}{cdv:Value}{A:Around}{outer:List Env}{s:Shared}{H:Hp}{E:XK}
  (hN:c.N=N) (hn:c.names=(ae st).names) (hr:Room c.lim (A.deeper (envOfC x (ae st) s.heap.objs.size f cdv))) (G:GOk P w K mg base c Γ)
  (lam:c.pc=true->∀ {pins:List (Addr × Obj)}{σ:L2.St}{H2:Hp}{s2:Shared}{b:Addr}{u:Value}{v:V}{Q:VK},L2.Inv (j7 CX0 P w K mg base N x (ae st) f cdv A outer s H E).nox pins σ H2 s2->RelV v u->dP K (Γ 1000) [.ref b,v] H2 Q E0 ->
   W.FnAt b s2.heap/\wpAny (model P w) (j7 CX0 P w K mg base N x (ae st) f cdv A outer s H E).nox.A (call (.ref b) [u]) (EP (j7 CX0 P w K mg base N x (ae st) f cdv A outer s H E).nox pins σ Q) (j7 CX0 P w K mg base N x (ae st) f cdv A outer s H E).nox.xe s2)
  (hmo:∀k,c.hm=some k->HmX (j7 CX0 P w K mg base N x (ae st) f cdv A outer s H E).nox k) :
  COk (j7 CX0 P w K mg base N x (ae st) f cdv A outer s H E).nox c Γ where
 calm:=rfl
 pass:=PassesOwn.never
 N:=hN.symm
 nd:=by rw[hN];exact S.nd
 vis:=fun y h=>by rw[hn] at h;exact h
 loc:=fun y h=>by rw[hn] at h;exact⟨h,.inl rfl⟩
 lcl:=fun y h=>by rw[hn] at h;exact h
 glb:=fun y h=>by rw[hn] at h;exact h
 bk:=by show Env.blockKind (envOfC x (ae st) s.heap.objs.size f cdv)=_;unfold Env.blockKind;show (if (ae st).kind.isAnnotationScope=true then _ else (ae st).kind)=_;rw[S.kind];rfl
 cel:=fun y h=>by rw[hn] at h;exact h
 room:=hr
 fn:=G.fn
 blt:=G.blt
 gl:=G.gl
 mono:=G.mono
 lam:=lam
 hmo:=hmo
theorem GU {code:Ss}(F:At K mg x st ps)(S:aj N ps (ae st))(hN:c.N=N)(hn:c.names=(ae st).names)(hc:aE c code (af st)=true)(G:GOk P w K mg base c Γ)(len:∀as st Q,sp as st Q->as.length=ps.length)(h:∀as st Q,sp as st Q->aG Γ code (frame N.length as) st (ag st Q))(hpc:c.pc=false:=by rfl)(hhm:c.hm=none:=by rfl):Has P w K mg base (c.lim+1) x ps (dP K sp):=by
 refine F.ok S (fun vs H Q E ⟨m,st,as,r1,r2,q⟩=>by rw[<-r1.len];exact len as st _ q) fun f cdv A outer s H vs Q E hr ⟨m,st',as,r1,r2,q⟩=>?_;have C:=tR (E:=E) (H:=H) (outer:=outer) (Γ:=Γ) S hN hn hr G (fun z=>by rw[hpc] at z;cases z) fun k z=>by rw[hhm] at z;cases z
 refine⟨_,qQ C code _ hc,m,frame N.length as,st',mq r1,r2,bb G.mono code ?_ (h as st' _ q)⟩;exact⟨fun ρ st2 k m' H' σ' e r f=>eR r2 k m' H' .non e r (R_non.mpr rfl),fun v st2 k=>eR r2 k,fun _ _ k=>k.elim,fun _ _ k=>k.elim⟩
end
end FW
namespace FW
open L2 HX
section
variable {P:Program}{w:World}{K:W.Frag}{mg:Str->Option Value}{base:Heap}{c c':Cfg}{Γ:Nat->FSp}
theorem GOk.next (G:GOk P w K mg base c Γ)(h1:c'.fns=c.fns)(h2:c'.lim=c.lim+1)(h3:c'.blts=c.blts)(h4:c'.gl=c.gl){x:Str}{ps:List Str}(hx:c.fns[c.lim]?=some x)(H:Has P w K mg base (c.lim+1) x ps (dP K (Γ c.lim))):GOk P w K mg base c' Γ where
 fn:=fun f y hf e=>by
  rw[h1] at e;rw[h2] at hf;by_cases hl:f<c.lim
  ·exact G.fn f y hl e
  ·have:f=c.lim:=by omega
   subst this;rw[hx] at e;cases e;exact⟨ps,H⟩
 blt:=by rw[h3];exact G.blt
 gl:=by rw[h4];exact G.gl
 mono:=G.mono
theorem D6 {qual:Str}{code:Ss}(F:Fun K x x st f fd)(S:aj N ps (ae st))(hN:c.N=N)(hn:c.names=(ae st).names)(hc:aE c code (af st)=true)(G:GOk P w K mg base c Γ)(len:∀as st Q,sp as st Q->as.length=ps.length)(h:∀as st Q,sp as st Q->aG Γ code (frame N.length as) st (ag st Q))(hpc:c.pc=false:=by rfl)(hhm:c.hm=none:=by rfl):pd P w K mg base CX0 (c.lim+1) f fd ps (dP K sp):=by
 refine F.ok S (fun vs H Q E ⟨m,st,as,r1,r2,q⟩=>by rw[<-r1.len];exact len as st _ q) fun cdv A outer s H vs Q E hr ⟨m,st',as,r1,r2,q⟩=>?_;have C:=tR (E:=E) (H:=H) (outer:=outer) (Γ:=Γ) S hN hn hr G (fun z=>by rw[hpc] at z;cases z) fun k z=>by rw[hhm] at z;cases z
 refine⟨_,qQ C code _ hc,m,frame N.length as,st',mq r1,r2,bb G.mono code ?_ (h as st' _ q)⟩;exact⟨fun ρ st2 k m' H' σ' e r f=>eR r2 k m' H' .non e r (R_non.mpr rfl),fun v st2 k=>eR r2 k,fun _ _ k=>k.elim,fun _ _ k=>k.elim⟩
end
def km:FSp:=fun as st Q=>∃ns:List Int,as=[.rdl (ns.map PV.int)]/\ns.length<=63/\∀st',Q (.bl true) st'
theorem zM:∀ {ns:List Int},Rs K m H (ns.map PV.int) (ns.map V.int)
 | []=>by rw[RL,RL,Rs_nil]
 | n::ns=>by rw[O8,O8,Rs_cons',R_int];exact⟨rfl,zM⟩
structure Hn (K:W.Frag)(h:Heap):Prop where
 at_:∀x∈bM,∀c T,W.tabIn K x=some (c,T)->W.CodeHd h c T/\h.get? T=some (W.tabObj #[])
structure Fw (K:W.Frag):Prop where
 at_:∀x∈bM,∀c T,W.tabIn K x=some (c,T)->K.lookup T=none/\∀y∈bM,∀d,W.tabIn K y=some (d,T)->y=x
structure pH (K:W.Frag)(mg:Str->Option Value)(base:Heap):Prop where
 hd:∀x∈bM,∀c T,W.tabIn K x=some (c,T)->W.CodeHd base c T
 bm:∃bm ob,mg "__builtins__"=some (.ref bm)/\bm≠builtinsNs/\base.get? bm=some ob/\ob.cls=.type "module"/\ob.dict=some builtinsNs/\ob.data=.plain
theorem Cr {ns:List Int}(hl:ns.length<=63)(hO:∀ys,H a≠some (.lst ys))(hS:SqL K H a (ns.map V.int))(tb:TB K H):dP K km [.ref a] H (fun v _=>v=.bl true) fun _ _ _=>False:=by
 have hF:RdF K H a (ns.map V.int):=by
  rcases hS with (h|h)|h
  ·exact absurd h (hO _)
  ·exact .inl h
  ·exact .inr h
 refine⟨[],[],[.rdl (ns.map PV.int)],?_,⟨rfl,TU,fun n c a h=>by simp at h,tb⟩,ns,rfl,hl,fun st' m' H' x e r s=>R_bl.mp s⟩;rw[Rs_cons',Rs_nil,gC];exact⟨⟨a,_,rfl,hF,zM⟩,rfl⟩
def sX (K:W.Frag)(b:Addr):Prop:=∃x∈bM,∃c,W.tabIn K x=some (c,b)
open Classical in
noncomputable def gm (K:W.Frag)(a:Addr)(scr:Option HO):Hp:=fun b=>if b=a then scr else if sX K b then some (.tbl #[]) else none
theorem Ad {K:W.Frag}{k:Nat}{x:Str}{s₁:Shared}{vs:List Value}(KX:K.In s₁.heap)(hns:s₁.heap.Ns mainGlobals mg)(hb:s₁.heap.Ns builtinsNs mb)(hbb:∀x:Str,x≠"__name__"->mb x=bootBuiltins x)(hlim:s₁.heap.NoLimit)(hg:s₁.gens=#[])(LT:Hn K s₁.heap)(LK:Fw K)(hbm:∃bm ob,mg "__builtins__"=some (.ref bm)/\bm≠builtinsNs/\s₁.heap.get? bm=some ob/\ob.cls=.type "module"/\ob.dict=some builtinsNs/\ob.data=.plain)(ha:s₁.heap.get? a=some { cls:=.type "list",data:=.seq vs.toArray })(hi:IntsAre vs ns)(hl:ns.length<=63)(hr:Room k callerA)(F:∀base:Heap,K.In base->base.Ns mainGlobals mg->pH K mg base->pd P w K mg base CX0 k fa fd [x] (dP K km))(hbind:∀(s:Shared) (u:Value),BindsTo s fd ⟨[u],[]⟩ [(x,u)]) :
  codeAny (model P w) callerA (.call (.ref fa) ⟨[.ref a],[]⟩) (fun r s'=>r=.ok (.ret (.bool true))/\OldK s₁.heap s'.heap/\s'.os=s₁.os/\AllBare s'.gens) s₁:=by
 have rv:=tu hi;have lenV:=hi.length;have hl2:ns.length<=sizeLine:=O7 hl (by decide);have tabAt:∀ {b:Addr},sX K b->s₁.heap.get? b=some (W.tabObj #[]):=fun ⟨x,hx,c,e⟩=>(LT.at_ x hx c _ e).2;have naT:¬sX K a:=fun z=>by have e:=tabAt z;rw[ha] at e;cases e
 have core:∀scr:Option HO,(∀ys,scr≠some (.lst ys))->SqL K (gm K a scr) a (ns.map V.int)->(∀u,scr=some u->(∃o xs,u=.frz o (.lst xs))/\ObjOk P w (gm K a scr) s₁.heap a u)->(scr≠none->K.lookup a=none) ->
   codeAny (model P w) callerA (.call (.ref fa) ⟨[.ref a],[]⟩) (fun r s'=>r=.ok (.ret (.bool true))/\OldK s₁.heap s'.heap/\s'.os=s₁.os/\AllBare s'.gens) s₁:=by
  intro scr hscr hS hso hK;have atA:gm K a scr a=scr:=O0 rfl;have atT:∀ {b:Addr},sX K b->gm K a scr b=some (.tbl #[]):=fun {b} z=>by have:b≠a:=fun q=>naT (q ▸ z);exact(OY this).trans (O0 z)
  have cs:∀b,gm K a scr b≠none->(b=a/\scr≠none)\/sX K b:=fun b z=>by
   by_cases h1:b=a
   ·exact .inl ⟨h1,by rw[h1,atA] at z;exact z⟩
   ·by_cases h2:sX K b
    ·exact .inr h2
    ·exact absurd ((OY h1).trans (OY h2)) z
  have hok:HOk P w (gm K a scr) s₁.heap:=fun b u e=>by
   rcases cs b (by rw[e];simp) with⟨rfl,z⟩|z
   ·rw[atA] at e;exact(hso u e).2
   ·rw[atT z] at e;cases e;exact tabAt z
  have base_of:∀ {b:Addr}{o:Obj},s₁.heap.get? b=some o->gm K a scr b=none->(sk s₁.heap (gm K a scr)).get? b=some o:=fun e n=>DE e n;have noD:∀ {b:Addr}{o:Obj},s₁.heap.get? b=some o->(∀its n,o.data≠.seq its n)->(∀qs,o.data≠.fields qs)->gm K a scr b=none:=fun {b o} e n1 n2=>by
   cases q:gm K a scr b with
   | none=>rfl
   | some u =>
    rcases cs b (by rw[q];simp) with⟨rfl,_⟩|z
    ·rw[ha] at e;cases e;exact absurd rfl (n1 _ _)
    ·rw[tabAt z] at e;cases e;exact absurd rfl (n2 _)
  have nsK:∀ {b:Addr}{m:Str->Option Value},s₁.heap.Ns b m->(sk s₁.heap (gm K a scr)).Ns b m:=fun {b m} ⟨o,es,ep,e,d,r⟩=>⟨o,es,ep,base_of e (noD e (fun _ _ z=>by rw[d] at z;cases z) fun _ z=>by rw[d] at z;cases z),d,r⟩;have hKn:∀ {b:Addr}{o:Obj},K.lookup b=some o->gm K a scr b=none:=fun {b o} e=>by
   cases q:gm K a scr b with
   | none=>rfl
   | some u =>
    rcases cs b (by rw[q];simp) with⟨rfl,z⟩|⟨x,hx,c,z⟩
    ·rw[hK z] at e;cases e
    ·rw[(LK.at_ x hx c _ z).1] at e;cases e
  have hKb:K.In (sk s₁.heap (gm K a scr)):=fun b o e=>base_of (KX b o e) (hKn e);have hM:Mod K mg (sk s₁.heap (gm K a scr)):=⟨hKb,nsK hns,⟨mb,nsK hb,hbb⟩,let ⟨mc,h1,h2⟩:=hlim;⟨mc,nsK h1,h2⟩⟩;have e0:A3 P w K mg (sk s₁.heap (gm K a scr)) callerA [] s₁ (gm K a scr):=⟨rfl,hM,fun b o e=>Fp e,T1 (zQ _ _),trivial,fun b hb=>absurd (show b∈([]:List Addr) from hb) (by simp),hok,.of_eq hg⟩;have hB:pH K mg (sk s₁.heap (gm K a scr)):=by
   refine⟨fun x hx c T e=>?_,?_⟩
   ·obtain⟨o,vs',file,tf,flags,tg,inF,text,tt,q,r⟩:=(LT.at_ x hx c T e).1;have kc:∃oc,K.lookup c=some oc:=by
     have e':=e;unfold W.tabIn at e';split at e'
     ·split at e'
      ·split at e'
       ·split at e'
        ·rename_i hh;split at e'
         ·cases e';exact⟨_,hh⟩
         ·cases e'
        ·cases e'
       ·cases e'
      ·cases e'
     ·cases e'
    obtain⟨oc,kc⟩:=kc;exact⟨o,vs',file,tf,flags,tg,inF,text,tt,base_of q (hKn kc),r⟩
   ·obtain⟨bm,ob,b1,b2,b3,b4,b5,b6⟩:=hbm;exact⟨bm,ob,b1,b2,base_of b3 (noD b3 (fun _ _ z=>by rw[b6] at z;cases z) fun _ z=>by rw[b6] at z;cases z),b4,b5,b6⟩
  have tb:TB K (gm K a scr):=fun x hx c T e=>⟨(LK.at_ x hx c T e).2,#[],atT ⟨x,hx,c,e⟩,trivial,fun pos cv q=>by cases q⟩;refine codeAny_mono ((F _ hKb (nsK hns) hB).run callerA [] s₁ (gm K a scr) ⟨[.ref a],[]⟩ [.ref a] [.ref a] _ _ hr e0 (hbind s₁ (.ref a)) (.cons rfl .nil) (Cr hl (by rw[atA];exact hscr) hS tb)) fun r s' h=>?_;cases r with
  | error e=>exact False.elim h
  | ok fl =>
   cases fl with
   | next=>exact False.elim h
   | brk=>exact False.elim h
   | cont=>exact False.elim h
   | ret u =>
    obtain⟨v,H',os,bare,un,hok',r',q⟩:=h;have q':v=.bl true:=q;subst q';obtain rfl:u=Value.bool true:=r';refine⟨rfl,⟨fun b o e=>?_,fun b o e=>un.there b o e (by simp)⟩,os,bare⟩;cases q:gm K a scr b with
    | none=>exact .inl (un.keep b o e q (by intro z;exact absurd (show b∈([]:List Addr) from z) (by simp)) (by simp))
    | some u =>
     rcases cs b (by rw[q];simp) with⟨rfl,z⟩|z
     ·rw[atA] at q;obtain⟨⟨ob,xs,rfl⟩,_⟩:=hso u q;have z1:gm K b scr b=some (.frz ob (.lst xs)):=by rw[atA];exact q
      have z2:=un.frzs b ob _ z1;obtain⟨e1,_⟩:=hok b _ z1;obtain⟨e2,_⟩:=hok' b _ z2;rw[e] at e1;cases e1;exact .inl e2
     ·obtain⟨more,z2⟩:=un.tbls b _ (atT z);have e1:=tabAt z;rw[e] at e1;cases e1;have e2:s'.heap.get? b=some { cls:=.none,data:=.fields (#[]++more) }:=hok' b _ z2;obtain⟨x,hx,c,et⟩:=z;have ht0:=(LT.at_ x hx c b et);exact .inr (.inl ⟨(ht0.1.tab ht0.2).isCodeTable,rfl,#[],more,rfl,e2⟩)
 cases hk:K.lookup a with
 | some o =>have e:=KX a o hk;rw[ha] at e;cases e;refine core none (fun _ z=>nomatch z) (.inr ⟨_,vs.toArray,_,hk,rfl,rfl,rfl,by rw[PH,lenV];exact hl2,by simpa using rv⟩) (fun u z=>nomatch z) fun z=>absurd rfl z
 | none =>refine core (some (.frz { cls:=.type "list",data:=.seq vs.toArray } (.lst (ns.map V.int)))) (fun _ z=>nomatch z) (.inl (.inr ⟨{ cls:=.type "list",data:=.seq vs.toArray },O0 rfl⟩)) (fun u z=>?_) fun _=>hk;cases z;exact⟨⟨_,_,rfl⟩,ha,by rw[O1];exact hl2,vs,_,rv,ha⟩
theorem walkF {l:W.OpenLaw}{YP:World->Heap->Prop}{d:DefRec}{K:Params->W.Frag}{k:Nat}{x:Str}(hn:l.most=some 63)(hdf:d.params.defaults=[])(hr:Room k callerA)(hY:∀(w:World) (h:Heap),YP w h->(K w.params).In h)(F:∀(w:World) (mg:Str->Option Value) (fa:Addr) (h:Heap),(K w.params).In h->h.Ns mainGlobals mg->mg d.name=some (.ref fa) ->
   ∃fd:FuncData,(∀(s:Shared) (u:Value),BindsTo s fd ⟨[u],[]⟩ [(x,u)])/\Fw (K w.params)/\(∀x∈bM,W.tabIn (K w.params) x=none\/∃d,(recsOf q).find? (fun e=>e.name == x)=some d)/\∀base:Heap,(K w.params).In base->base.Ns mainGlobals mg->pH (K w.params) mg base->pd l.prog w (K w.params) mg base CX0 k fa fd [x] (dP (K w.params) km)) :
  W.WalkO q loose XP YP l.row.toRowW d [] (fun f vs=>PySem.call f vs):=by
 refine Att.attach_call hn hdf fun w s₀ s₁ mg mb fa o pm cd doc a vs ns G Y ho hd hcd hmg hobj hints hlen hg=>?_;have KX:=hY w _ Y;obtain⟨fd,hb,hK,hq,hF⟩:=F w mg fa _ KX G.T.g hmg;refine Ad KX G.T.g G.T.b G.T.builtins G.T.nolimit hg ⟨fun x hx c T e=>?_⟩ hK G.T.bmain hobj hints hlen hr hF hb;rcases hq x hx with z|⟨d,r⟩
 ·rw[z] at e;cases e
 ·exact W.tab_of G.T KX r e
theorem Sub.refl (st:AH):Sub st st:=fun i _=>.inl rfl
theorem Sub.set {n:Nat}{c:Cell}(h:Sub st st')(hc:c.bel 0=true):Sub st (st'.set n c):=fun i hi=>by
 by_cases e:n=i
 ·subst e;by_cases hl:n<st'.length
  ·exact .inr ⟨c,P0 hl,hc⟩
  ·rw[List.set_eq_of_length_le (by omega)];exact h n hi
 ·rw[PR e];exact h i hi
theorem Tmp.same {st:AH}{Q:EK}{v:PV}(h:v.bel st.length=true)(q:Q v st):Tmp st Q v st:=⟨st,[],by simp,rfl,Sub.refl st,h,q⟩
theorem Tmp.app {st g:AH}{Q:EK}{v:PV}(h:v.bel st.length=true)(q:Q v st):Tmp st Q v (st++g):=⟨st,g,rfl,rfl,Sub.refl st,h,q⟩
theorem Ret.all {Q:EK}(q:Q v st'):Ret st Q v st':=.inl q
theorem ar1 {P:List Value->Prop}(h:∀a,P [a])(us:List Value)(hl:us.length=1):P us:=by
 match us,hl with
 | [a],_=>exact h a
theorem ar2 {P:List Value->Prop}(h:∀a b,P [a,b])(us:List Value)(hl:us.length=2):P us:=by
 match us,hl with
 | [a,b],_=>exact h a b
theorem ar3 {P:List Value->Prop}(h:∀a b c,P [a,b,c])(us:List Value)(hl:us.length=3):P us:=by
 match us,hl with
 | [a,b,c],_=>exact h a b c
theorem ar4 {P:List Value->Prop}(h:∀a b c d,P [a,b,c,d])(us:List Value)(hl:us.length=4):P us:=by
 match us,hl with
 | [a,b,c,d],_=>exact h a b c d
theorem ar5 {P:List Value->Prop}(h:∀a b c d e,P [a,b,c,d,e])(us:List Value)(hl:us.length=5):P us:=by
 match us,hl with
 | [a,b,c,d,e],_=>exact h a b c d e
abbrev DI (K:W.Frag)(x:Str)(st:Stmt):Prop:=∃(f:Addr) (oc:Value) (od:Option Addr) (kV dc pm:Value) (an:Option Addr) (cd ct:Value) (sl:Array (Option Value)),W.nsIn K mainGlobals x=some (some (.ref f))/\K.lookup f=some ⟨oc,od,.func (W.fnOf x x (cH st) (af st) (ae st) .none kV dc pm an cd ct),sl⟩/\W.codeIn K cd x=true/\W.keepIn K (.ref f)=true
theorem DI_mk {st:Stmt}{kV dc pm:Value}{an:Option Addr}{cd ct:Value}(a:W.nsIn K mainGlobals x=some (some (.ref f)))(l:K.lookup f=some ⟨oc,od,.func (W.fnOf x x (cH st) (af st) (ae st) .none kV dc pm an cd ct),sl⟩)(c:W.codeIn K cd x=true)(k:W.keepIn K (.ref f)=true):DI K x st:=⟨f,oc,od,kV,dc,pm,an,cd,ct,sl,a,l,c,k⟩
theorem GOk.nx {Γ:Nat->FSp}{c':Cfg}{code:Ss}(G:GOk P w K mg base c Γ)(X:K.In h)(Gn:h.Ns mainGlobals mg)(d:DI K x st)(S:aj N ps (ae st))(hc:aE c code (af st)=true)(len:∀ {as st Q},sp as st Q->as.length=ps.length)(hw:∀ {as st Q},sp as st Q->aG Γ code (frame N.length as) st (ag st Q))(hb:∀(kV doc pm:Value) (an:Option Addr) (cdv ct:Value) (us:List Value),us.length=ps.length->bindArgs (W.fnOf x x (cH st) (af st) (ae st) .none kV doc pm an cdv ct) ⟨us,[]⟩=pure (ps.zip us))(hN:c.N=N:=by rfl)(hn:c.names=(ae st).names:=by rfl)(hpc:c.pc=false:=by rfl)(hhm:c.hm=none:=by rfl)(h1:c'.fns=c.fns:=by rfl)(h2:c'.lim=c.lim+1:=by rfl)(h3:c'.blts=c.blts:=by rfl)(h4:c'.gl=c.gl:=by rfl)(hx:c.fns[c.lim]?=some x:=by rfl)(hs:Γ c.lim=sp:=by rfl):GOk P w K mg base c' Γ:=by
 obtain⟨f,oc,od,kV,dc,pm,an,cd,ct,sl,a,l,cc,k⟩:=d;subst hs;exact G.next h1 h2 h3 h4 hx (GU (At.mk' X Gn hb a l cc k) S hN hn hc G (fun _ _ _=>len) (fun _ _ _=>hw) hpc hhm)
end FW
namespace FW
open L2 HX
section
variable {P:Program}{w:World}{K:W.Frag}{mg:Str->Option Value}{base:Heap}{c:Cfg}{Γ:Nat->FSp}
theorem xO (z:W.nsIn K mainGlobals x=some none):W.tabIn K x=none:=by unfold W.tabIn;rw[z]
theorem EC (h:∀x∈bM,W.tabIn K x=none\/∃c T,W.tabIn K x=some (c,T)/\K.lookup T=none/\∀y∈bM,y≠x->∀d,W.tabIn K y≠some (d,T)):Fw K:=⟨fun x hx c T e=>by
 rcases h x hx with z|⟨c',T',z,n,u⟩
 ·rw[z] at e;cases e
 ·rw[z] at e;cases e;exact⟨n,fun y hy d ed=>Classical.byContradiction fun q=>u y hy q d ed⟩⟩
end
end FW
namespace FW
open L2 HX
section
variable {Γ:Nat->FSp}{ρ:Fr}{st:AH}{Q:EK}{D:aK}{a b c:E}{es:Es}
noncomputable def aft (Γ:Nat->FSp)(ss:Ss)(D:aK):aK:={ D with nx:=fun ρ' st'=>aG Γ ss ρ' st' D }
noncomputable def LD (I:Fr->AH->Prop)(D:aK):aK:={ nx:=I,ct:=I,bk:=D.nx,rt:=D.rt }
def Fh (Γ:Nat->FSp)(t:Tg)(b:Ss)(chk:AH->Prop)(D:aK)(xs:List PV)(ρ:Fr)(st:AH):Prop:=m9 chk (fun x ρ' st' D'=>cX Γ t x ρ' st' fun ρ2 st2=>aG Γ b ρ2 st2 D') D xs ρ st
def LP (Γ:Nat->FSp)(c:E)(b:Ss)(D:aK)(ρ:Fr)(st:AH):Prop:=∃n,fY (wpT Γ c) (aG Γ b) D n ρ st
def zO (Γ:Nat->FSp)(elt:E)(tg:Tg)(ifs:Es)(chk:AH->Prop)(ρ:Fr)(xs:List PV)(st:AH)(Q:LK):Prop :=
 fQ chk (fun x st2 k=>cX Γ tg x ρ st2 fun ρ' st3=>jt Γ ifs ρ' st3 fun c st4=>if c=true then wpE Γ elt ρ' st4 fun v st5=>k (some v) st5 else k none st4) xs [] st Q
theorem IT:(aft Γ ss D).nx ρ st=aG Γ ss ρ st D:=rfl
theorem IH:(aft Γ ss D).rt v st=D.rt v st:=rfl
theorem Ir:(aft Γ ss D).bk ρ st=D.bk ρ st:=rfl
theorem Hu:(aft Γ ss D).ct ρ st=D.ct ρ st:=rfl
theorem E9:(aft Γ ss D).rt=D.rt:=rfl
theorem MS:(LD I D).nx ρ st=I ρ st:=rfl
theorem MB:(LD I D).ct ρ st=I ρ st:=rfl
theorem KP:(LD I D).bk ρ st=D.nx ρ st:=rfl
theorem Kj:(LD I D).rt v st=D.rt v st:=rfl
theorem Iw:(LD I D).rt=D.rt:=rfl
theorem Lw:(ag st0 Q).nx ρ st=Ret st0 Q .non st:=rfl
theorem J8:(ag st0 Q).rt v st=Ret st0 Q v st:=rfl
theorem He:(ag st0 Q).rt=Ret st0 Q:=rfl
theorem Ef:aG Γ (.cons s (.cons s2 ss)) ρ st D=wpS Γ s ρ st (aft Γ (.cons s2 ss) D):=rfl
theorem ET:wpS Γ (.whileS c x) ρ st D=LP Γ c x D ρ st:=rfl
theorem LA:wpS Γ (.forS t it x) ρ st D=eg Γ it ρ st fun xs chk st1=>Fh Γ t x chk D xs ρ st1:=rfl
theorem Iq {nt:List Str}{caps:List Nat}:wpE Γ (.comp a tg it ifs nt caps) ρ st Q=eg Γ it ρ st fun xs chk st1 =>
  xs.length<100000/\zO Γ a tg ifs chk (nt.map (fun _=>none)++caps.map fun i=>(ρ[i]?).join) xs st1 fun vs st2=>Q (.ref st2.length) (st2++[.lst vs]):=rfl
theorem en (G:aT Γ){t:Tg}{b:Ss}{chk:AH->Prop}{D:aK}(I:Nat->Fr->AH->Prop){xs:List PV}{ρ:Fr}{st:AH}(h0:I 0 ρ st)
  (hs:∀i x ρ st,xs[i]?=some x->I i ρ st->chk st/\cX Γ t x ρ st (fun ρ2 st2=>aG Γ b ρ2 st2 (LD (I (i+1)) D)))
  (hd:∀ρ st,I xs.length ρ st->chk st/\D.nx ρ st):Fh Γ t b chk D xs ρ st:=by
 have key:∀(k i:Nat) (ρ:Fr) (st:AH),i+k=xs.length->I i ρ st->m9 chk (fun x ρ' st' D'=>cX Γ t x ρ' st' fun ρ2 st2=>aG Γ b ρ2 st2 D') D (xs.drop i) ρ st:=by
  intro k
  induction k with
  | zero =>
   intro i ρ st hi h;have:i=xs.length:=by omega
   subst this;rw[TH];exact hd ρ st h
  | succ k ih =>
   intro i ρ st hi h;have hlt:i<xs.length:=by omega
   rw[QT hlt];obtain⟨h1,h2⟩:=hs i xs[i] ρ st (by simp[hlt]) h;refine⟨h1,aU G t (fun ρ2 st2 k2=>bb G b ?_ k2) h2⟩;exact⟨fun ρ3 st3 z=>ih (i+1) ρ3 st3 (by omega) z,fun _ _ z=>z,fun _ _ z=>z,fun ρ3 st3 z=>ih (i+1) ρ3 st3 (by omega) z⟩
 have:=key xs.length 0 ρ st (by omega) h0
 rwa [SG] at this
theorem jR {c:Fr->AH->BK->Prop}{body:Fr->AH->aK->Prop}{D:aK}(hc:∀ρ st Q Q',(∀b st,Q b st->Q' b st)->c ρ st Q->c ρ st Q')(hb:∀ρ st D D',i2 D D'->body ρ st D->body ρ st D') :
  ∀ {n k:Nat}{ρ:Fr}{st:AH},n<=k->fY c body D n ρ st->fY c body D k ρ st
 | 0,k,ρ,st,_,h=>h.elim
 | n+1,0,ρ,st,hk,h=>absurd hk (by omega)
 | n+1,k+1,ρ,st,hk,h=>by
  refine hc _ _ _ _ (fun b st1 z=>?_) h;cases b with
  | false=>exact z
  | true =>
   rw[O0 rfl] at z |-
   refine hb _ _ _ _ ?_ z;exact⟨fun _ _ z=>jR hc hb (by omega) z,fun _ _ z=>z,fun _ _ z=>z,fun _ _ z=>jR hc hb (by omega) z⟩
theorem vj (G:aT Γ){c:E}{b:Ss}{D:aK}(I:Nat->Fr->AH->Prop){n:Nat}{ρ:Fr}{st:AH}(h0:I n ρ st)
  (hs:∀n ρ st,I n ρ st->wpT Γ c ρ st (fun k st1=>if k=true then aG Γ b ρ st1 (LD (fun ρ' st'=>∃m,m<n/\I m ρ' st') D) else D.nx ρ st1)):LP Γ c b D ρ st:=by
 have hc:∀ρ st Q Q',(∀b st,Q b st->Q' b st)->wpT Γ c ρ st Q->wpT Γ c ρ st Q':=fun _ _ _ _ hk z=>aP G c hk z;have hb:∀ρ st D D',i2 D D'->aG Γ b ρ st D->aG Γ b ρ st D':=fun _ _ _ _ hk z=>bb G b hk z;have key:∀(k n:Nat),n<k->∀(ρ:Fr) (st:AH),I n ρ st->fY (wpT Γ c) (aG Γ b) D (n+1) ρ st:=by
  intro k
  induction k with
  | zero=>intro n hn;exact absurd hn (by omega)
  | succ k ih =>
   intro n hn ρ st h;refine hc _ _ _ _ (fun q st1 z=>?_) (hs n ρ st h);cases q with
   | false=>exact z
   | true =>
    rw[O0 rfl] at z |-
    refine hb _ _ _ _ ?_ z;exact⟨fun ρ' st' ⟨m,hm,z⟩=>jR hc hb (by omega) (ih m (by omega) ρ' st' z),fun _ _ z=>z,fun _ _ z=>z,fun ρ' st' ⟨m,hm,z⟩=>jR hc hb (by omega) (ih m (by omega) ρ' st' z)⟩
 exact⟨_,key (n+1) n (by omega) ρ st h0⟩
end
section
variable {Γ:Nat->FSp}
theorem yT (G:aT Γ){chk:AH->Prop}{ρ:Fr}{Q:LK}(I:Nat->List PV->AH->Prop)(h0:I 0 [] st)(hs:∀i x acc st,xs[i]?=some x->I i acc st->chk st/\cX Γ tg x ρ st fun ρ' st3=>jt Γ ifs ρ' st3 fun c st4=>if c=true then wpE Γ elt ρ' st4 fun v st5=>I (i+1) (acc++[v]) st5 else I (i+1) acc st4)(hd:∀acc st,I xs.length acc st->chk st/\Q acc st):zO Γ elt tg ifs chk ρ xs st Q:=by
 have key:∀(k i:Nat) (acc:List PV) (st:AH),i+k=xs.length->I i acc st->fQ chk (gq Γ elt tg ifs ρ) (xs.drop i) acc st Q:=by
  intro k
  induction k with
  | zero =>
   intro i acc st hi h;have:i=xs.length:=by omega
   subst this;rw[TH];exact hd acc st h
  | succ k ih =>
   intro i acc st hi h;have hlt:i<xs.length:=by omega
   rw[QT hlt];obtain⟨h1,h2⟩:=hs i xs[i] acc st (by simp[hlt]) h;refine⟨h1,aU G tg (fun ρ2 st2 k2=>cG G ifs (fun c st4 k4=>?_) k2) h2⟩;cases c with
   | true=>rw[O0 rfl] at k4 |-;exact aa G elt (fun v st5 z=>ih (i+1) _ st5 (by omega) z) k4
   | false=>rw[OY OS] at k4 |-;simpa using ih (i+1) _ st4 (by omega) k4
 have:=key xs.length 0 [] st (by omega) h0;rw[SG] at this;exact this
theorem comp_map (G:aT Γ){i:Nat}{chk:AH->Prop}{ρ:Fr}{xs:List PV}{Q:LK}(f:PV->PV)(hc:chk st)(hs:∀x∈xs,wpE Γ elt (ρ.set i (some x)) st fun v st'=>v=f x/\st'=st)(q:Q (xs.map f) st):zO Γ elt (.name i) .nil chk ρ xs st Q:=by
 refine yT G (fun j acc s=>s=st/\acc=(xs.take j).map f) ⟨rfl,by simp⟩ ?_ ?_
 ·rintro j x acc s hx ⟨rfl,rfl⟩;refine⟨hc,?_⟩;simp only[mj,D4];rw[O0 trivial];refine aa G elt (fun v st5 z=>?_) (hs x (OZ hx));obtain⟨rfl,rfl⟩:=z;refine⟨rfl,?_⟩;rw[SH,hx];simp
 ·rintro acc s ⟨rfl,rfl⟩;rw[RG];exact⟨hc,q⟩
theorem cN {f:PV->Bool}:∀ {xs:List PV},mz (xs.map fun x=>.bl (f x))=some (xs.map f)
 | []=>rfl
 | x::xs=>by simp only[List.map_cons,mz,cN (xs:=xs),Option.map_some]
end
section
variable {st:AH}{Q:EK}{i j:Int}{n k:Nat}{xs ys:List PV}{x y v:PV}{b b':Bool}{s s':Str}{kB:Bool->Prop}{BQ:BK}
theorem Kg:ke .Add (.int i) (.int j) st Q=Q (.int (i+j)) st:=rfl
theorem LW:ke .Sub (.int i) (.int j) st Q=Q (.int (i-j)) st:=rfl
theorem Lj:ke .Mult (.int i) (.int j) st Q=(CMB i j/\Q (.int (i*j)) st):=rfl
theorem MN:ke .FloorDiv (.int i) (.int j) st Q=(CBig j/\Q (.int (i/j)) st):=rfl
theorem Ku:ke .Mod (.int i) (.int j) st Q=(0<j/\Q (.int (i % j)) st):=rfl
theorem LY:ke .Pow (.int i) (.int j) st Q=(yt i j/\Q (.int (i ^ j.toNat)) st):=rfl
theorem IB:ke .Add (.ref n) (.ref k) st Q=∃xs ys,st[n]?=some (.lst xs)/\st[k]?=some (.lst ys)/\xs.length+ys.length<=100000/\Q (.ref st.length) (st++[.lst (xs++ys)]):=rfl
theorem IU:ke .Mult (.ref n) (.int i) st Q=∃xs,st[n]?=some (.lst xs)/\-(2 ^ 63)<=i/\i<2 ^ 63/\xs.length*i.toNat<=100000/\Q (.ref st.length) (st++[.lst (List.replicate i.toNat xs).flatten]):=rfl
theorem Ht {a b:Str}:ke .Add (.str a) (.str b) st Q=(a.length+b.length<=100000/\Q (.str (a++b)) st):=rfl
theorem JO:ke .Add (.tup xs) (.tup ys) st Q=(xs.length+ys.length<=100000/\Q (.tup (xs++ys)) st):=rfl
theorem Ov:dC .Eq x y st Q=eqW st x y fun k=>Q (.bl k) st:=rfl
theorem Nk:dC .NotEq x y st Q=eqW st x y fun k=>Q (.bl (!k)) st:=rfl
theorem KW:dC .Is x .non st Q=Q (.bl (fg x)) st:=rfl
theorem Lq:dC .Is x (.bl b) st Q=Q (.bl (oW b x)) st:=rfl
theorem Jo:dC .IsNot x .non st Q=Q (.bl (!fg x)) st:=rfl
theorem ID:dC .IsNot x (.bl b) st Q=Q (.bl (!oW b x)) st:=rfl
theorem ND:dC .Lt (.int i) (.int j) st Q=Q (.bl (decide (i<j))) st:=rfl
theorem MV:dC .LtE (.int i) (.int j) st Q=Q (.bl (decide (i<=j))) st:=rfl
theorem MW:dC .Gt (.int i) (.int j) st Q=Q (.bl (decide (j<i))) st:=rfl
theorem N7:dC .GtE (.int i) (.int j) st Q=Q (.bl (decide (j<=i))) st:=rfl
theorem Kf:eqW st (.int i) (.int j) kB=kB (decide (i=j)):=rfl
theorem MK:eqW st (.bl b) (.bl b') kB=kB (decide (b=b')):=rfl
theorem LU:eqW st (.str s) (.str s') kB=kB (decide (s=s')):=rfl
theorem zY:fg .non=true:=rfl
theorem CH:fg (.bl b)=false:=rfl
theorem zP:fg (.int i)=false:=rfl
theorem Af:fg (.str s)=false:=rfl
theorem AW:fg (.tup xs)=false:=rfl
theorem A7:fg (.ref n)=false:=rfl
theorem EY:oW true (.bl true)=true:=rfl
theorem E5:oW true (.bl false)=false:=rfl
theorem FF:oW false (.bl true)=false:=rfl
theorem FL:oW false (.bl false)=true:=rfl
theorem Dn:oW b (.int i)=false:=rfl
theorem D5:oW b .non=false:=rfl
theorem Ci:oW b (.tup xs)=false:=rfl
theorem AD:bP st (.tup xs)=some xs:=rfl
theorem AK:bP st (.rdl xs)=some xs:=rfl
theorem yA:bH st (.rdl xs)=some xs:=rfl
theorem ay (h:st[n]?=some (.lst xs)):bH st (.ref n)=some xs:=by simp[bH,h]
theorem ai (h:st[n]?=some (.lst xs)):bP st (.ref n)=some xs:=by simp[bP,bH,h]
theorem Az:bT st .non=some "NoneType":=rfl
theorem CA:bT st (.bl b)=some "bool":=rfl
theorem AC:bT st (.int i)=some "int":=rfl
theorem A2:bT st (.str s)=some "str":=rfl
theorem An:bT st (.tup xs)=some "tuple":=rfl
theorem zS:bT st (.rdl xs)=some "list":=rfl
theorem KB {z:Str}:ixW (.str z) (.int i) st Q=(z.length<=100000/\∃c,atI z.cps.toList i=some c/\Q (.str ⟨#[c]⟩) st):=rfl
theorem Mb:ixW (.tup xs) (.int i) st Q=∃v,atI xs i=some v/\Q v st:=propext ⟨fun ⟨ys,e,q⟩=>by cases e;exact q,fun q=>⟨xs,rfl,q⟩⟩
theorem Kw:ixW (.rdl xs) (.int i) st Q=∃v,atI xs i=some v/\Q v st:=propext ⟨fun ⟨ys,e,q⟩=>by cases e;exact q,fun q=>⟨xs,rfl,q⟩⟩
theorem Kl:ixW (.ref n) (.int i) st Q=∃xs,bP st (.ref n)=some xs/\∃v,atI xs i=some v/\Q v st:=rfl
theorem rB:atI (x::xs) 0=some x:=cB (j:=0) rfl
theorem qD:atI (x::y::xs) 1=some y:=cB (j:=1) rfl
theorem Cm:atI (x::y::v::xs) 2=some v:=cB (j:=2) rfl
theorem Cf {u:PV}:atI (x::y::v::u::xs) 3=some u:=cB (j:=3) rfl
theorem J6:ixW (.tup (x::xs)) (.int 0) st Q=Q x st:=propext ⟨fun ⟨ys,e,w,e2,q⟩=>by cases e;rw[rB] at e2;cases e2;exact q,fun q=>⟨_,rfl,_,rB,q⟩⟩
theorem L3:ixW (.tup (x::y::xs)) (.int 1) st Q=Q y st:=propext ⟨fun ⟨ys,e,w,e2,q⟩=>by cases e;rw[qD] at e2;cases e2;exact q,fun q=>⟨_,rfl,_,qD,q⟩⟩
theorem Kb:ixW (.tup (x::y::v::xs)) (.int 2) st Q=Q v st:=propext ⟨fun ⟨ys,e,w,e2,q⟩=>by cases e;rw[Cm] at e2;cases e2;exact q,fun q=>⟨_,rfl,_,Cm,q⟩⟩
theorem Le {u:PV}:ixW (.tup (x::y::v::u::xs)) (.int 3) st Q=Q u st:=propext ⟨fun ⟨ys,e,w,e2,q⟩=>by cases e;rw[Cf] at e2;cases e2;exact q,fun q=>⟨_,rfl,_,Cf,q⟩⟩
theorem Mx:slW (.tup xs) lo hi st Q=Q (.tup (jc xs lo hi)) st:=rfl
theorem Mc:slW (.rdl xs) lo hi st Q=Q (.ref st.length) (st++[.lst (jc xs lo hi)]):=by simp[slW,bH]
theorem KD {z:Str}:slW (.str z) lo hi st Q=(z.length<=100000/\Q (.str (je z lo hi)) st):=rfl
theorem MG:slW (.ref n) lo hi st Q=∃xs,bH st (.ref n)=some xs/\Q (.ref st.length) (st++[.lst (jc xs lo hi)]):=rfl
theorem Iv {z:Str}:fJ .len [.str z] st Q=(z.length<=100000/\Q (.int z.length) st):=rfl
theorem GI {z:Str}:fJ .int1 [.str z] st Q=(z.length<=640/\∃n,PySem.intText? z=some n/\Q (.int n) st):=rfl
theorem Nz {b:Str}:dC .In (.str a) (.str b) st Q=Q (.bl (!(Builtin.Str.occurrences b a 0 b.length 1).isEmpty)) st:=rfl
theorem Kz:smW .join (.str z) y st Q=∃ss:List Str,bH st y=some (ss.map PV.str)/\JoinOk z ss=true/\Q (.str (Txt.join z ss)) st:=rfl
theorem KS {z w:Str}:smW .split (.str z) (.str w) st Q=(0<w.length/\z.length<=100000/\(Txt.split z w).length<=100000/\Q (.ref st.length) (st++[.lst ((Txt.split z w).map PV.str)])):=rfl
theorem Lo {a b:Str}:dC .Lt (.str a) (.str b) st Q=Q (.bl (decide (a.cps.toList<b.cps.toList))) st:=rfl
theorem Mg {a b:Str}:dC .Gt (.str a) (.str b) st Q=Q (.bl (decide (b.cps.toList<a.cps.toList))) st:=rfl
theorem Ip {z:Str}{k:Int}:ke .Mult (.str z) (.int k) st Q=(2<=k/\k<2 ^ 30/\0<z.length/\z.length*k.toNat<=100000/\Q (.str (kT z k.toNat)) st):=rfl
theorem Nc {b:Str}:dC .NotIn (.str a) (.str b) st Q=Q (.bl (!(!(Builtin.Str.occurrences b a 0 b.length 1).isEmpty))) st:=rfl
theorem LL:dC .In .non (.tup xs) st Q=(xs.all Dg=true/\Q (.bl (xs.any fg)) st):=rfl
theorem L4:dC .In (.int i) (.tup xs) st Q=∃ns:List Int,xs=ns.map PV.int/\Q (.bl (ns.any fun j=>j == i)) st:=rfl
theorem Mh:dC .NotIn (.int i) (.tup xs) st Q=∃ns:List Int,xs=ns.map PV.int/\Q (.bl (!(ns.any fun j=>j == i))) st:=rfl
theorem MP:dC .In (.str a) (.tup xs) st Q=∃ns:List Str,xs=ns.map PV.str/\Q (.bl (ns.any fun j=>j == a)) st:=rfl
theorem K7:dC .NotIn (.str a) (.tup xs) st Q=∃ns:List Str,xs=ns.map PV.str/\Q (.bl (!(ns.any fun j=>j == a))) st:=rfl
theorem LJ:dC .In (.str a) (.ref n) st Q=inR a n st fun k=>Q (.bl k) st:=rfl
theorem LS:dC .NotIn (.str a) (.ref n) st Q=inR a n st fun k=>Q (.bl (!k)) st:=rfl
theorem GV:fJ .len [.tup xs] st Q=Q (.int xs.length) st:=propext ⟨fun ⟨ys,e,q⟩=>by cases e;exact q,fun q=>⟨xs,rfl,q⟩⟩
theorem Hw:fJ .len [.rdl xs] st Q=Q (.int xs.length) st:=propext ⟨fun ⟨ys,e,q⟩=>by cases e;exact q,fun q=>⟨xs,rfl,q⟩⟩
theorem JP:fJ .len [.ref n] st Q=∃xs,bP st (.ref n)=some xs/\Q (.int xs.length) st:=rfl
theorem LC:fJ .max2 [.int i,.int j] st Q=Q (.int (if i<j then j else i)) st:=rfl
theorem Mf:fJ .min2 [.int i,.int j] st Q=Q (.int (if j<i then j else i)) st:=rfl
theorem Dx:fJ .divmod [.int i,.int j] st Q=(CBig j/\Q (.tup [.int (i/j),.int (i % j)]) st):=rfl
theorem Jh:fJ .int1 [.bl b] st Q=Q (.int (b2z b)) st:=rfl
theorem JF:fJ .str1 [.int i] st Q=(i.natAbs.log2<1920/\Q (.str (toString i)) st):=rfl
theorem HC:fJ .tuple1 [.tup xs] st Q=Q (.tup xs) st:=propext ⟨fun ⟨ys,e,q⟩=>by cases e;exact q,fun q=>⟨xs,rfl,q⟩⟩
theorem JJ:fJ .tuple1 [.ref n] st Q=∃xs,bP st (.ref n)=some xs/\Q (.tup xs) st:=rfl
theorem Md:fJ .all1 [x] st Q=∃xs bs,bH st x=some xs/\mz xs=some bs/\Q (.bl (bs.all id)) st:=rfl
theorem D0:uR .insert (.ref n) [.int i,v] st Q=∃xs,st[n]?=some (.lst xs)/\xs.length<100000/\0<=i/\i<=xs.length/\Q .non (st.set n (.lst (xs.take i.toNat++v::xs.drop i.toNat))):=rfl
theorem KY:fJ .abs1 [.int i] st Q=Q (.int i.natAbs) st:=rfl
theorem Mu:uR .append (.ref n) [v] st Q=∃xs,st[n]?=some (.lst xs)/\xs.length<100000/\Q .non (st.set n (.lst (xs++[v]))):=rfl
theorem HJ:uR .popI (.ref n) [.int i] st Q=∃xs v,st[n]?=some (.lst xs)/\0<=i/\i<100000/\xs[i.toNat]?=some v/\Q v (st.set n (.lst (xs.eraseIdx i.toNat))):=rfl
theorem Oa:gU (.bl b) st BQ=BQ b st:=rfl
theorem N4:gU .non st BQ=BQ false st:=rfl
theorem NA:gU (.int i) st BQ=BQ (i != 0) st:=rfl
theorem Nm:gU (.tup xs) st BQ=BQ (!xs.isEmpty) st:=by simp[gU,bP]
theorem Ol:gU (.ref n) st BQ=∃xs,bP st (.ref n)=some xs/\BQ (!xs.isEmpty) st:=rfl
theorem MA:wF (.ref n) (.int j) v st kS=∃xs,st[n]?=some (.lst xs)/\∃q,ixN xs.length j=some q/\kS (st.set n (.lst (xs.set q v))):=rfl
end
theorem Jq:((0:Nat):Int)=0:=rfl
theorem JR:((1:Nat):Int)=1:=rfl
theorem HM:((2:Nat):Int)=2:=rfl
theorem IP:((3:Nat):Int)=3:=rfl
theorem GS:((4:Nat):Int)=4:=rfl
theorem IY:((5:Nat):Int)=5:=rfl
theorem GW:((6:Nat):Int)=6:=rfl
theorem eH {s g:AH}{k:Nat}:(s++g)[s.length+k]?=g[k]?:=by rw[PB (Q1 _ _),Nat.add_sub_cancel_left]
theorem vm {s g:AH}:(s++g)[s.length]?=g[0]?:=eH (k:=0)
theorem au {st:AH}{c:Cell}:(st++[c])[st.length]?=some c:=by simp
theorem fj {st g:AH}{n:Nat}(h:st[n]?=some c):(st++g)[n]?=some c:=by rw[O_ (OT.mp h).1];exact h
theorem eh {st:AH}{n:Nat}(h:st[n]?=some c):n<st.length:=(OT.mp h).1
end FW
namespace FW
open L2 HX
section
variable {M:Model}{A:Around}{E:Value->Shared->Prop}{s:Shared}
theorem wc {env:Env}{outer:List Env}{hadNext:Bool}{Q:Unit->Shared->Prop}(hfr:A.frames=some (env::outer))(hl:s.heap.FunFrames base (env::outer))(hf:env.frame=some L)(he:s.heap.get? e=some oe)(hd:oe.data=.fields vs)(hsz:1<vs.size)(h:∀h' T oe' vs' oT ts,(∀b o,b ∉ frs (env::outer)->b≠e->s.heap.get? b=some o->h'.get? b=some o)->(∀b o,b∈frs (env::outer)->s.heap.get? b=some o->∃sl,h'.get? b=some { o with slots:=sl }) ->
   s.heap.objs.size<=T->h'.get? e=some oe'->oe'.cls=oe.cls->oe'.data=.fields vs'->vs'[1]?=some (.ref T)->h'.get? T=some oT->oT.data=.fields ts->ts[3]?=some (rawInt L)->Q () { s with heap:=h' }) :
  wpAny M A (do let a <-frameOf env;let pl <-entryPlaceOf L hadNext;let b <-EntryCells.newEntry head a .none (rawInt L) .none pl;setField (.ref e) 1 b) Q E s:=by
 have hene:e ∉ (env::outer).filterMap (·.frame):=fun hm=>by obtain⟨_,o,ho,hnf⟩:=hl.mem hm;rw[he] at ho;injection ho with ho;subst ho;exact hnf vs hd
 refine OP (wpAny_frameOf_fun hfr hl hf fun h₁ hs₁=>?_);refine OP (wpAny_entryPlaceOf fun pl hpl=>?_);unfold EntryCells.newEntry newFields;refine OP (wpAny_newObj_type ?_ (hpl.sizeOk5 _ _ _ _ _));have he₁:h₁.get? e=some oe:=(hs₁.2.1 e hene).trans he;have he₂:=OR (h:=h₁) { cls:=.type "traceback",dict:=none,data:=.fields ([head,.ref L,.none,rawInt L,.none]++(if pl.isEmpty then List.replicate 6 Value.none else pl)).toArray } he₁;refine wpAny_setField he₂ hd hsz ?_;have hTe:h₁.objs.size≠e:=TK (O3 he₁);have hd₃:=Obj.data_mapFields hd (·.setIfInBounds 1 (Value.ref h₁.objs.size));have he₃:=Q5 (Obj.mapFields (·.setIfInBounds 1 (Value.ref h₁.objs.size))) he₂ (Obj.isFreed_of_fields hd₃);have hT₃:=(QO (h₁.push { cls:=.type "traceback",dict:=none,data:=.fields ([head,.ref L,.none,rawInt L,.none]++(if pl.isEmpty then List.replicate 6 Value.none else pl)).toArray })
  (Obj.mapFields (·.setIfInBounds 1 (Value.ref h₁.objs.size))) (Ne.symm hTe)).trans (O5 h₁ rfl)
 have keep:∀b o,b≠e->h₁.get? b=some o ->
   ((h₁.push { cls:=.type "traceback",dict:=none,data:=.fields ([head,.ref L,.none,rawInt L,.none]++(if pl.isEmpty then List.replicate 6 Value.none else pl)).toArray }).update e (Obj.mapFields (·.setIfInBounds 1 (Value.ref h₁.objs.size)))).get? b=some o:=fun b o hbe hb=>by
  rw[QO _ _ (Ne.symm hbe)];exact OR _ hb
 refine h _ h₁.objs.size _ _ _ _ (fun b o hb hbe e=>keep b o hbe ((hs₁.2.1 b hb).trans e)) (fun b o hb e=>?_) (T1 hs₁.1.symm) he₃ (Obj.cls_mapFields _ _) hd₃ (by simp[hsz]) hT₃ rfl ?_
 ·obtain⟨sl,hs⟩:=hs₁.2.2 b o e;exact⟨sl,keep b _ (fun q=>hene (q ▸ hb)) hs⟩
 ·first|rfl|(simp;done)|(rcases hpl with rfl|⟨_,_,_,_,_,_,_,rfl⟩ <;> simp)
end
structure Fly (L:Option Addr)(h0:Heap)(H:Hp)(h:Heap)(a C:Addr):Prop where
 obj:∃oe vs,h.get? a=some oe/\oe.cls=.ref C/\oe.data=.fields vs/\(vs[1]?=some .none\/∃T oT ts,vs[1]?=some (.ref T)/\h0.get? T=none/\T≠a/\H T=none/\h.get? T=some oT/\oT.data=.fields ts/\(∃v,ts[3]?=some v))
 ge:h0.get? a=none
 fr:H a=none
theorem Fly.le {h0:Heap}(f:Fly L h1 H h a C)(q:∀b o,h0.get? b=some o->∃o',h1.get? b=some o'):Fly L h0 H h a C:=by
 have no:∀b,h1.get? b=none->h0.get? b=none:=fun b e=>by
  cases z:h0.get? b with
  | none=>rfl
  | some o=>obtain⟨o',z'⟩:=q b o z;rw[e] at z';cases z'
 obtain⟨⟨oe,vs,h1,h2,h3,h4⟩,h5,h6⟩:=f;refine⟨⟨oe,vs,h1,h2,h3,?_⟩,no _ h5,h6⟩;rcases h4 with h4|⟨T,oT,ts,a1,a2,a3⟩
 ·exact .inl h4
 ·exact .inr ⟨T,oT,ts,a1,no _ a2,a3⟩
theorem Fly.up (f:Fly L h0 H h a C):Fly L' h0 H h a C:=⟨f.obj,f.ge,f.fr⟩
def Been (h:Heap)(a:Addr):Prop:=∃oe vs T,h.get? a=some oe/\oe.data=.fields vs/\vs[1]?=some (.ref T)
structure Noted (L:Option Addr)(fs:List Addr)(n:Heap)(P:Program)(w:World)(H:Hp)(a C:Addr)(h h':Heap):Prop where
 un:∃ch,(∀c∈ch,n.get? c=none/\H c=none/\(∀o,h.get? c=some o->∃vs,o.data=.fields vs))/\Un fs ch H H h h'
 hok:HOk P w H h'
 fly:Fly L n H h' a C
 sz:h.objs.size<=h'.objs.size
theorem Un.twice (a:Un fs c1 H H h h1)(b:Un fs c2 H H h1 h2):Un fs (c1++c2) H H h h2:=by
 have l:∀ {x},x ∉ c1++c2->x ∉ c1:=fun q z=>q (QJ _ z);have r:∀ {x},x ∉ c1++c2->x ∉ c2:=fun q z=>q (PP _ z);refine⟨fun x o e n hx q=>b.keep x o (a.keep x o e n hx (l q)) n hx (r q),fun x o e n hx q=>?_,fun x o e n q=>n,fun x o e q=>?_,fun _ _ q=>q,fun _ _ _ q=>q,fun _ ps q=>⟨#[],by rw[q];simp⟩⟩
 ·obtain⟨sl,z⟩:=a.slot x o e n hx (l q);obtain⟨sl',z'⟩:=b.slot x _ z n hx (r q);exact⟨sl',z'⟩
 ·obtain⟨o',z⟩:=a.there x o e (l q);exact b.there x o' z (r q)
section
variable {P:Program}{w:World}{A:Around}{E:Value->Shared->Prop}{s:Shared}
theorem t6 {env:Env}{outer:List Env}{n:Heap}{M:Model}{Q:Unit->Shared->Prop}(hfr:A.frames=some (env::outer))(hl:s.heap.FunFrames base (env::outer))(hf:env.frame=some L)(frH:∀b∈frs (env::outer),H b=none)(ok:HOk P w H s.heap)(hns:n.objs.size<=s.heap.objs.size)(f:Fly (some L) n H s.heap a C)(h:∀h',Noted (some L) (frs (env::outer)) n P w H a C s.heap h'->Been h' a->Q () { s with heap:=h' }) :
  wpAny M A (noteFrame (.ref a) env) Q E s:=by
 have f0:=f;obtain⟨⟨oe,vs,he,hc,hd,h1⟩,hge,hH⟩:=f;unfold noteFrame;simp only[hf];have nofs:∀b o vs,s.heap.get? b=some o->o.data=.fields vs->b ∉ frs (env::outer):=fun b o vs e d hm=>by obtain⟨_,o',ho,hnf⟩:=hl.mem hm;rw[e] at ho;injection ho with ho;subst ho;exact hnf vs d
 have fin:∀(ch:List Addr) (h':Heap) (T:Addr) oe' vs' oT ts,(∀c∈ch,n.get? c=none/\H c=none/\(∀o,s.heap.get? c=some o->∃vs,o.data=.fields vs))->(∀b o,b ∉ frs (env::outer)->b ∉ ch->s.heap.get? b=some o->h'.get? b=some o)->(∀b o,b∈frs (env::outer)->s.heap.get? b=some o->∃sl,h'.get? b=some { o with slots:=sl }) ->
   (∀b o,s.heap.get? b=some o->b ∉ ch->∃o',h'.get? b=some o') ->
   s.heap.objs.size<=T->T≠a->h'.get? a=some oe'->oe'.cls=oe.cls->oe'.data=.fields vs'->vs'[1]?=some (.ref T)->h'.get? T=some oT->oT.data=.fields ts->ts[3]?=some (rawInt L)->Q () { s with heap:=h' }:=by
  intro ch h' T oe' vs' oT ts hch hk hsl hth hT hTa e1 e2 e3 e4 e5 e6 e7;have hTH:H T=none:=ok.fresh hT;refine h h' ⟨⟨ch,hch,⟨fun b o e _ hb hx=>hk b o hb hx e,fun b o e _ hb hx=>hsl b o hb e,fun b o e hn _=>hn,fun b o e hx=>hth b o e hx,fun b xs e=>e,fun b o u e=>e,fun b ps e=>⟨#[],by rw[e];simp⟩⟩⟩,fun b o e=>?_,⟨⟨oe',vs',e1,e2.trans hc,e3,.inr ⟨T,oT,ts,e4,Heap.get?_none_of_le (O7 hns hT),hTa,hTH,e5,e6,_,e7⟩⟩,hge,hH⟩,?_⟩ ⟨oe',vs',T,e1,e3,e4⟩
  ·have nn:∀c,H c≠none->c ∉ frs (env::outer)/\c ∉ ch:=fun c z=>⟨fun q=>z (frH c q),fun q=>z (hch c q).2.1⟩;refine(ok b o e).stay (fun c u hc q=>?_) (fun c q=>q) fun c xs q=>q;have:H c≠none:=by
    rcases hc with rfl|hc
    ·rw[e];exact Option.some_ne_none _
    ·rw[hc];exact Option.some_ne_none _
   exact hk c u (nn c this).1 (nn c this).2 q
  ·exact O7 hT (QN (O3 e5))
 have ain:n.get? a=none/\H a=none/\(∀o,s.heap.get? a=some o->∃vs,o.data=.fields vs):=⟨hge,hH,fun o e=>by rw[he] at e;cases e;exact⟨vs,hd⟩⟩;rcases h1 with h1|⟨T,oT,ts,h1,hnT,hTa,hTH,hT,hdT,h3⟩
 ·refine OP (wpAny_field he hd h1 ?_);rw[OY (by decide)];refine wc hfr hl hf he hd (QP.mp h1).1 fun h' T oe' vs' oT ts k1 k2 hT e1 e2 e3 e4 e5 e6 e7=>?_;refine fin [a] h' T oe' vs' oT ts (fun c hc=>by cases PM.mp hc;exact ain) (fun b o hb hx e=>k1 b o hb (fun q=>hx (by simp[q])) e) k2 (fun b o e hx=>?_) hT (fun q=>by rw[q] at hT;exact absurd (O3 he) (TL.mpr hT)) e1 e2 e3 e4 e5 e6 e7;by_cases hb:b∈frs (env::outer)
  ·obtain⟨sl,z⟩:=k2 b o hb e;exact⟨_,z⟩
  ·exact⟨_,k1 b o hb (fun q=>hx (by simp[q])) e⟩
 ·obtain⟨fv,h3⟩:=h3;cases hfv:(fv == rawInt L) with
  | false =>
   refine OP (wpAny_field he hd h1 ?_);rw[O0 (show (Value.ref T != Value.none)=true from by simp)];refine OP (wpAny_field hT hdT h3 ?_);rw[OY (by rw[hfv];exact OS)];refine OP (wpAny_setField hT hdT (QP.mp h3).1 ?_);have other:∀b,b≠T->(s.heap.update T (Obj.mapFields (·.setIfInBounds 3 Value.none))).get? b=s.heap.get? b:=fun b hb=>QO _ _ (Ne.symm hb);have nT:∀b,b∈frs (env::outer)->b≠T:=fun b hb q=>nofs T oT ts hT hdT (q ▸ hb);have hl':(s.heap.update T (Obj.mapFields (·.setIfInBounds 3 Value.none))).FunFrames base (env::outer):=hl.of_keeps fun b o hb hnf=>⟨o,(other b fun q=>by rw[q,hT] at hb;injection hb with hb;subst hb;exact hnf ts hdT).trans hb,rfl⟩;refine wc (s:={ s with heap:=s.heap.update T (Obj.mapFields (·.setIfInBounds 3 Value.none)) }) hfr hl' hf ((other a (Ne.symm hTa)).trans he) hd (QP.mp h1).1 fun h' T' oe' vs' oT' ts' k1 k2 hT' e1 e2 e3 e4 e5 e6 e7=>?_;have hszu:(s.heap.update T (Obj.mapFields (·.setIfInBounds 3 Value.none))).objs.size=s.heap.objs.size:=Heap.size_after_update ..;have hT2:s.heap.objs.size<=T':=by rw[<-hszu];exact hT'
   have kk:∀b o,b ∉ frs (env::outer)->b ∉ [a,T]->s.heap.get? b=some o->h'.get? b=some o:=fun b o hb hx e=>k1 b o hb (fun q=>hx (by simp[q])) ((other b fun q=>hx (by simp[q])).trans e);have ks:∀b o,b∈frs (env::outer)->s.heap.get? b=some o->∃sl,h'.get? b=some { o with slots:=sl }:=fun b o hb e=>k2 b o hb ((other b (nT b hb)).trans e);refine fin [a,T] h' T' oe' vs' oT' ts' (fun c hc=>?_) kk ks (fun b o e hx=>?_) hT2 (fun q=>by rw[q] at hT2;exact absurd (O3 he) (TL.mpr hT2)) e1 e2 e3 e4 e5 e6 e7
   ·rcases PQ.mp hc with rfl|hc
    ·exact ain
    ·cases PM.mp hc;exact⟨hnT,hTH,fun o e=>by rw[hT] at e;cases e;exact⟨ts,hdT⟩⟩
   ·by_cases hb:b∈frs (env::outer)
    ·obtain⟨sl,z⟩:=ks b o hb e;exact⟨_,z⟩
    ·exact⟨_,kk b o hb hx e⟩
  | true =>refine OP (wpAny_field he hd h1 ?_);rw[O0 (show (Value.ref T != Value.none)=true from by simp)];refine OP (wpAny_field hT hdT h3 ?_);rw[O0 hfv];exact O2 (h s.heap ⟨⟨[],fun c z=>(by cases z),Un.refl⟩,ok,f0,OX _⟩ ⟨oe,vs,T,he,hd,h1⟩)
theorem jN {fs:List Addr}{M:Model}{Q:Unit->Shared->Prop}(hfs:∀b∈fs,∃o,s.heap.get? b=some o/\∀vs,o.data≠.fields vs)(ok:HOk P w H s.heap)(f:Fly L n H s.heap a C)(h:∀h',Noted fv fs n P w H a C s.heap h'->Q () { s with heap:=h' }):wpAny M A (setFlight (.ref a) fv) Q E s:=by
 obtain⟨⟨oe,vs,he,hc,hd,h1⟩,hge,hH⟩:=f;unfold setFlight;rcases h1 with h1|⟨T,oT,ts,h1,hnT,hTa,hTH,hT,hdT,h3⟩
 ·refine OP (wpAny_field he hd h1 ?_);rw[OY (by decide)];exact O2 (h s.heap ⟨⟨[],fun c z=>(by cases z),Un.refl⟩,ok,⟨⟨oe,vs,he,hc,hd,.inl h1⟩,hge,hH⟩,OX _⟩)
 ·refine OP (wpAny_field he hd h1 ?_);rw[O0 (show (Value.ref T != Value.none)=true from by simp)];have hsz:3<ts.size:=by obtain⟨_,h3⟩:=h3;exact(QP.mp h3).1
  refine wpAny_setField hT hdT hsz ?_;have other:∀b,b≠T->(s.heap.update T (Obj.mapFields (·.setIfInBounds 3 (fv.elim Value.none fun f=>rawInt f)))).get? b=s.heap.get? b:=fun b hb=>QO _ _ (Ne.symm hb);have nT:∀b∈fs,b≠T:=fun b hb q=>by obtain⟨o,e,z⟩:=hfs b hb;rw[q,hT] at e;cases e;exact z ts hdT
  refine h _ ⟨⟨[T],fun c z=>(by cases PM.mp z;exact⟨hnT,hTH,fun o e=>by rw[hT] at e;cases e;exact⟨ts,hdT⟩⟩),⟨fun b o e _ _ hx=>(other b fun q=>hx (by simp[q])).trans e,fun b o e _ hb _=>⟨o.slots,(other b (nT b hb)).trans e⟩,fun b o e hn _=>hn,fun b o e hx=>⟨o,(other b fun q=>hx (by simp[q])).trans e⟩,fun b xs e=>e,fun b o u e=>e,fun b ps e=>⟨#[],by rw[e];simp⟩⟩⟩,fun b o e=>?_,⟨⟨oe,vs,(other a (Ne.symm hTa)).trans he,hc,hd,.inr ⟨T,_,_,h1,hnT,hTa,hTH,Q5 _ hT (Obj.isFreed_of_fields (Obj.data_mapFields hdT _)),Obj.data_mapFields hdT _,?_⟩⟩,hge,hH⟩,T1 (Heap.size_after_update ..).symm⟩
  ·refine(ok b o e).stay (fun c u hc q=>(other c ?_).trans q) (fun c q=>q) fun c xs q=>q;rintro rfl;rcases hc with rfl|hc
   ·rw[hTH] at e;cases e
   ·rw[hTH] at hc;cases hc
  ·exact⟨(fv.elim Value.none fun f=>rawInt f),by simp[hsz]⟩
theorem ED {fs:List Addr}{M:Model}{cenv:Env}{what:String}(hfs:∀b∈fs,∃o,s.heap.get? b=some o/\∀vs,o.data≠.fields vs)(ok:HOk P w H s.heap)(f:Fly L n H s.heap a C)(bn:Been s.heap a)(h:∀h',Noted cenv.frame fs n P w H a C s.heap h'->E (.ref a) { s with heap:=h' }):wpAny M A (PySem.passOn what (.ref a) cenv:Sem Value) Q E s:=by
 obtain⟨oe,vs,T,b1,b2,b3⟩:=bn;unfold PySem.passOn;refine OP (wpAny_field b1 b2 b3 ?_);rw[OY (show ¬((Value.ref T == Value.none)=true) from OS)];exact OP (jN hfs ok f fun h2 nt=>wpAny_throw (h h2 nt))
theorem Noted.twice (x:Noted L fs n P w H a C h h1)(y:Noted L' fs n P w H a C h1 h2):Noted L' fs n P w H a C h h2:=by
 obtain⟨c1,k1,u1⟩:=x.un;obtain⟨c2,k2,u2⟩:=y.un;refine⟨⟨c1++c2,fun c hc=>?_,Un.twice u1 u2⟩,y.hok,y.fly,O7 x.sz y.sz⟩;rcases P7.mp hc with hc|hc
 ·exact k1 c hc
 ·obtain⟨p1,p2,p3⟩:=k2 c hc;refine⟨p1,p2,fun o e=>?_⟩;by_cases hc1:c∈c1
  ·exact(k1 c hc1).2.2 o e
  ·obtain⟨sl,z⟩:=u1.any e p2 hc1;obtain⟨vs,hv⟩:=p3 _ z;exact⟨vs,hv⟩
theorem vJ {env:Env}{outer:List Env}{n:Heap}{M:Model}{Q:Unit->Shared->Prop}(hfr:A.frames=some (env::outer))(hl:s.heap.FunFrames base (env::outer))(hf:env.frame=some L)(frH:∀b∈frs (env::outer),H b=none)(ok:HOk P w H s.heap)(hns:n.objs.size<=s.heap.objs.size)(f:Fly (some L) n H s.heap a C)(h:∀h',Noted fv (frs (env::outer)) n P w H a C s.heap h'->Q () { s with heap:=h' }) :
  wpAny M A (noteFrame (.ref a) env) (fun _ s'=>wpAny M A (setFlight (.ref a) fv) Q E s') E s:=by
 refine t6 hfr hl hf frH ok hns f fun h1 nt _=>?_;refine jN (fs:=frs (env::outer)) (fun b hb=>?_) nt.hok nt.fly fun h2 nt2=>h h2 (nt.twice nt2);obtain⟨_,o,ho,hnf⟩:=hl.mem hb;obtain⟨ch,hch,un⟩:=nt.un;have hbc:b ∉ ch:=fun z=>by obtain⟨vs,hv⟩:=(hch b z).2.2 o ho;exact hnf vs hv
 obtain⟨sl,z⟩:=un.any ho (frH b hb) hbc;exact⟨_,z,fun vs q=>hnf vs q⟩
end
theorem Un.noted (a:Un fs [] H0 H1 h0 h1)(b:Un fs' ch H1 H1 h1 h2)(hfs:∀x o,h0.get? x=some o->x∈fs'->x∈fs)(hsf:∀x∈fs,x∈fs')(hch:∀c∈ch,h0.get? c=none):Un fs [] H0 H1 h0 h2:=by
 have nc:∀x o,h0.get? x=some o->x ∉ ch:=fun x o e z=>by rw[hch x z] at e;cases e
 have nx:∀x:Addr,x ∉ ([]:List Addr):=fun x z=>by cases z
 refine⟨fun x o e n hx _=>?_,fun x o e n hx _=>?_,fun x o e n _=>a.free x o e n (nx x),fun x o e _=>?_,a.tups,a.frzs,a.tbls⟩
 ·exact b.keep x o (a.keep x o e n hx (nx x)) (a.free x o e n (nx x)) (fun z=>hx (hfs x o e z)) (nc x o e)
 ·obtain⟨sl,z⟩:=a.slot x o e n hx (nx x);obtain⟨sl',z'⟩:=b.slot x _ z (a.free x o e n (nx x)) (hsf x hx) (nc x o e);exact⟨sl',z'⟩
 ·obtain⟨o',z⟩:=a.there x o e (nx x);exact b.there x o' z (nc x o e)
noncomputable def CXe (P:Program)(w:World):CXT:=fun outer H s E e s'=>∃a C H',e=.ref a/\s'.os=s.os/\AllBare s'.gens/\s.heap.objs.size<=s'.heap.objs.size/\Un (frs outer) [] H H' s.heap s'.heap/\HOk P w H' s'.heap/\Fly none s.heap H' s'.heap a C/\E (.ref C) none H'
def xp (X:Cx)(Wx:Addr->Hp->Prop)(e:Value)(s':Shared):Prop:=∃a C pins σ H',e=.ref a/\L2.Inv X pins σ H' s'/\Fly (some X.env.locals) X.s₀.heap H' s'.heap a C/\Wx C H'
theorem BE {H:Hp}{E:XK}(h:xp (j7 (CXe P w) P w K mg base N qual scope f cd A outer s H E) (fun C H'=>E (.ref C) none H') e s'):(j7 (CXe P w) P w K mg base N qual scope f cd A outer s H E).xe e s':=by
 obtain⟨a,C,pins,σ,H',rfl,I,fl,q⟩:=h;show wpAny _ _ (leaving _ _) _ _ _;unfold leaving;have I':=I;refine OP (vJ (P:=P) (w:=w) (n:=s.heap) (base:=base) (I.ok.frames) I.stack rfl I.stkFree I.hok I.sz fl fun h' nt=>?_);obtain⟨⟨ch,hch,un⟩,hok,fl',sz⟩:=nt;refine⟨a,C,H',rfl,I.os,I.bare,O7 I.sz sz,?_,hok,fl',q⟩;have bs:Un (frs outer) [] H H' s.heap s'.heap:=I.base;refine Un.noted bs un (fun x o e hx=>?_) (fun x hx=>OV _ hx) fun c hc=>(hch c hc).1;rcases PQ.mp hx with rfl|hx
 ·exact absurd (O3 e) (TL.mpr I.ok.above)
 ·exact hx
theorem FI {P:Program}{w:World}{X:Cx}{Wx:Addr->Hp->Prop}{pins:List (Addr × Obj)}{σ:L2.St}{H:Hp}{s:Shared}{e:Value}{s':Shared}(hP:X.prog=P)(hw:X.w=w)(hex:X.ex=[])(I:L2.Inv X pins σ H s)(h:CXe P w X.stack H s (fun v _ H'=>∃C,v=.ref C/\Wx C H') e s'):xp X Wx e s':=by subst hP hw;obtain⟨a,C,H',rfl,os,bare,sz,un,hok,fl,C',hC,q⟩:=h;cases hC;exact⟨a,C,pins,σ,H',rfl,I.call' os un hok bare (fun b z=>by cases z),(fl.le fun b o e=>I.base.there b o e (by rw[hex];intro z;cases z)).up,q⟩
theorem Inv.noted {X:Cx}{pins:List (Addr × Obj)}{σ:L2.St}{H:Hp}{s:Shared}{L:Option Addr}{a C:Addr}{h':Heap}(I:L2.Inv X pins σ H s)(hpn:X.pn=[])(hex:X.ex=[])(hst:X.stack=X.env::X.outer)(hfr:X.env.frame=some X.env.locals)(nt:Noted L (frs X.stack) X.s₀.heap X.prog X.w H a C s.heap h'):L2.Inv X [] σ H { s with heap:=h' }:=by
 obtain⟨ch,hch,un⟩:=nt.un;have bs:Un X.fs X.ex X.H₀ H X.s₀.heap h':=by
  have b0:=I.base;rw[hex] at b0 |-
  refine Un.noted b0 un (fun x o e hx=>?_) (fun x hx=>by rw[hst];exact Q2.mpr (by obtain⟨v,z1,z2⟩:=Q2.mp hx;exact⟨v,OV _ z1,z2⟩)) fun c hc=>(hch c hc).1;rw[hst] at hx;unfold frs at hx;rw[P6,hfr] at hx;rcases PQ.mp hx with rfl|hx
  ·exact absurd (O3 e) (TL.mpr I.ok.above)
  ·exact hx
 have cl:∀ {c:Addr}{v:Option Value},H c=none->s.heap.IsCell c v->h'.IsCell c v:=fun {c v} hc z=>by
  obtain⟨o,e,d⟩:=z;have hcc:c ∉ ch:=fun q=>by obtain⟨vs,hv⟩:=(hch c q).2.2 o e;rw[d] at hv;cases hv
  obtain⟨sl,e2⟩:=un.any e hc hcc;exact⟨_,e2,d⟩
 obtain⟨m,⟨o,es,ep,ho,hd,r⟩,lk⟩:=id I.loc;have hlc:X.env.locals ∉ ch:=fun q=>by obtain⟨vs,hv⟩:=(hch _ q).2.2 o ho;rw[hd] at hv;cases hv
 obtain⟨sl,hL⟩:=un.any ho I.free hlc;refine⟨I.ok,I.os,I.bare,bs,⟨m,⟨_,es,ep,hL,hd,r⟩,fun i x v e1 e2 e3=>?_⟩,fun x c e=>?_,I.free,I.freeC,(fun p hp=>by rw[hpn] at hp;cases hp),nt.hok,I.len⟩
 ·obtain⟨u,r1,q⟩:=lk i x v e1 e2 e3;refine⟨u,r1,?_⟩;rcases q with q|⟨k,c,e,z⟩
  ·exact .inl q
  ·exact .inr ⟨k,c,e,cl (I.freeC x c e) z⟩
 ·obtain⟨v,z⟩:=I.cell x c e;exact⟨v,cl (I.freeC x c e) z⟩
theorem JE {X:Cx}(hpn:X.pn=[])(hex:X.ex=[])(hst:X.stack=X.env::X.outer)(hfr:X.env.frame=some X.env.locals):PassesOwn (model X.prog X.w) X.A X.env (xp X W):=by rintro e s' ⟨a,C,pins,σ,H',rfl,I,fl,q⟩;have hns:X.s₀.heap.objs.size<=s'.heap.objs.size:=I.sz;show wpAny _ _ (noteFrame _ _) _ _ _;refine t6 (P:=X.prog) (w:=X.w) (n:=X.s₀.heap) (base:=X.base) (outer:=X.outer) (by rw[<-hst];exact I.ok.frames) (by rw[<-hst];exact I.stack) hfr (by rw[<-hst];exact I.stkFree) I.hok hns fl fun h1 nt bn=>?_;rw[<-hst] at nt;have I1:=Inv.noted I hpn hex hst hfr nt;obtain⟨oe,vs,T,b1,b2,b3⟩:=bn;unfold cameBackBy;refine OP (wpAny_field b1 b2 b3 ?_);rw[OY (show ¬((Value.ref T == Value.none)=true) from OS)];rw[hfr];refine jN (P:=X.prog) (w:=X.w) (n:=X.s₀.heap) (s:={ s' with heap:=h1 }) (fs:=frs X.stack) (fv:=some X.env.locals) (fun b hb=>?_) nt.hok nt.fly fun h2 nt2=>⟨a,C,[],σ,H',rfl,Inv.noted I1 hpn hex hst hfr nt2,nt2.fly,q⟩;obtain⟨_,o,ho,hnf⟩:=I1.stack.mem hb;exact⟨o,ho,hnf⟩
end FW
namespace FW
open L2 HX
noncomputable abbrev i6:List Value:=[.type "ValueError",.type "Exception",.type "BaseException",.type "object"]
theorem ug {K:W.Frag}{newId:String}{mg:Str->Option Value}(X:K.In h)(m:mg x=some (.ref C))(q:W.excIn K C bmB newId=true):OwnCls x C bmB newId mg h:=by
 refine⟨m,?_⟩;unfold W.excIn at q;split at q
 ·rename_i dd cd sl ho;split at q
  ·rename_i C' bm k0 k1 k2 k3 n k5 hm hs;simp only[Bool.and_eq_true,beq_iff_eq,Bool.not_eq_true'] at q;obtain⟨⟨⟨⟨⟨rfl,rfl⟩,hdel⟩,ht⟩,hok⟩,hni⟩:=q;obtain⟨nm,bs,mro,ns,qn,hd,sn,sub,ab,col,del⟩:=cd;dsimp only at hm hdel hok hni;subst hm hdel;have hsl:sl=#[k0,k1,k2,k3,some (.builtin n),k5]:=by obtain⟨l⟩:=sl;simp only at hs;rw[hs]
   subst hsl;exact⟨bm,ns,nm,qn,bs,hd,sn,sub,ab,col,dd,k0,k1,k2,k3,k5,_,X _ _ ho,.of_isNs (W.isNs_of_in X hok),W.nsMap_none_of_in X hok hni,W.tail_of_in X ht⟩
  ·cases q
 ·cases q
theorem ObjOk.obj (x:ObjOk P w H h a o):∃u,h.get? a=some u:=by
 cases o with
 | lst xs=>obtain⟨_,_,_,_,e⟩:=x;exact⟨_,e⟩
 | tup xs=>obtain⟨_,_,_,o,e,_⟩:=x;exact⟨_,e⟩
 | dK kvs=>obtain⟨_,_,_,_,o,_,_,e,_⟩:=x;exact⟨_,e⟩
 | dT kvs=>obtain⟨_,_,_,_,o,_,_,e,_⟩:=x;exact⟨_,e⟩
 | set S n=>obtain⟨o,_,_,_,e,_⟩:=x;exact⟨_,e⟩
 | ins C dx fs=>obtain⟨_,_,_,e,_⟩:=x;exact⟨_,e⟩
 | own y=>obtain⟨_,e⟩:=x;exact⟨_,e⟩
 | xd fs=>obtain⟨_,⟨_,_,_,e,_⟩,_⟩:=x;exact⟨_,e⟩
 | rng lo hi=>obtain⟨_,_,_,e⟩:=x;exact⟨_,e⟩
 | frz ob u=>obtain⟨e,_⟩:=x;exact⟨_,e⟩
 | tbl ps=>exact⟨_,show h.get? a=some _ from x⟩
 | met f y=>exact⟨_,show h.get? a=some _ from x⟩
 | ext φ=>obtain⟨_,⟨_,e⟩,_⟩:=x;exact⟨_,e⟩
section
variable {X:Cx}{pins:List (Addr × Obj)}{σ:L2.St}{H:Hp}{s:Shared}
theorem Ju {Wx:Addr->Hp->Prop}(I:L2.Inv X pins σ H s)(hex:X.ex=[])(m:Heap.MadeExcOf s.heap h' e (.ref C) vs)(w:Wx C H):xp X Wx (.ref e) { s with heap:=h' }:=by
 refine⟨e,C,pins,σ,H,rfl,I.call' (ch:=[]) rfl (Un.kept m.keeps) (I.hok.kept m.keeps) I.bare (fun b z=>by cases z),⟨?_,?_,?_⟩,w⟩
 ·obtain⟨t,e1,_⟩:=m.there;exact⟨_,_,e1,rfl,rfl,.inl rfl⟩
 ·cases z:X.s₀.heap.get? e with
  | none=>rfl
  | some o =>obtain⟨o',z'⟩:=I.base.there e o z (by rw[hex];intro z;cases z);rw[m.new] at z';cases z'
 ·cases z:H e with
  | none=>rfl
  | some o =>obtain⟨u,z'⟩:=ObjOk.obj (I.hok e o z);rw[m.new] at z';cases z'
theorem Bh {Wx:Addr->Hp->Prop}{D:L2.Ends}{j:Nat}(I:L2.Inv X pins σ H s)(hc:X.calm=true)(hex:X.ex=[])(hg:Gl X x)(hdb:(x == ("__debug__":Str))=false)(hm:X.mg x=some (.ref C))(q:W.excIn X.K C i6 "ValueError.__new__"=true)(w:Wx C H) :
  wpAny (model X.prog X.w) X.A (exec (.Raise (some (.Call (.Name x np) [.Constant (.str t) j ap] [] cp)) none pos) X.env) (SP X pins D) (xp X Wx) s:=by
 have FB:=PySem.F.excBase_ValueError;obtain⟨tl,N,nm,qn,bs,hdct,sn,sub,ab,col,dd,k0,k1,k2,k3,k5,mN,hC,hN,hni,T⟩:=(ug (x:=x) (mg:=X.mg) I.ok.mod.kin hm q).obj;have hplain:(backTo cp (starEach [.Constant (.str t) j ap] X.env)).any (·.1)=false:=g9 (pos:=cp) (es:=[.Constant (.str t) j ap]) rfl;refine wpAny_Raise_call_subU (C:=C) (nm:=nm) (q:=qn) (N:=N) (bs:=bs) (bm:=tl) (hdct:=hdct) (sn:=sn) (sub:=sub) (ab:=ab) (col:=col) (dd:=dd) (k0:=k0) (k1:=k1) (k2:=k2) (k3:=k3) (k5:=k5) (mN:=mN)
  FB (by decide) FB (T.hasType FB.hasBase) (I.ok.hd hc) hplain hni (jK I hg hm ⟨rfl,?_⟩ hdb)
 have hA:PA X.nox [.Constant (.str t) j ap] (cy (tC (.str t)) kb):=pac qv bX rfl;have st1:starEach [.Constant (.str t) j ap] X.env=(false,eval (.Constant (.str t) j ap) X.env)::starEach [] X.env:=aw rfl;have h0:wpAny (model X.prog X.w) X.A (spliced (backTo cp (starEach [.Constant (.str t) j ap] X.env))) (AP X.nox pins σ (fun vs H1=>vs=[.str t]/\H1=H)) (fun _ _=>False) s:=hA cp pins s σ H _ (I.wish _) ⟨rfl,rfl⟩;rw[st1] at h0 |-
 refine Calls.evalArgs_plain (wpAny_mono h0 (fun us s2 ⟨vs,H1,I2,r,hv,hH⟩=>?_) fun _ _ z=>False.elim z);subst hv hH;have I3:=I2.unwish;refine⟨rfl,by rw[<-r.length];show 1<=sizeLine;decide,?_⟩;exact⟨I3.bk _ _ hC,hN.keeps I3.bk,T.keeps I3.bk,fun h' e m=>Ju I3 hex m w⟩
end
end FW
namespace FW
open L2 HX
noncomputable abbrev XW:=Nat->AH->Prop
noncomputable abbrev okR (v:PV):PV:=.tup [.bl true,v]
noncomputable abbrev exR (k:Nat):PV:=.tup [.bl false,.int k]
noncomputable def m_ (Q:EK)(Wx:XW):EK:=fun r st=>match r with
 | .tup [.bl true,v]=>Q v st
 | .tup [.bl false,.int k]=>Wx k.toNat st
 | _=>False
theorem tV:m_ Q Wx (okR v) st=Q v st:=rfl
theorem cC {Q':EK}{W':XW}(hq:∀v st,Q v st->Q' v st)(hw:∀k st,Wx k st->W' k st):∀r st,m_ Q Wx r st->m_ Q' W' r st:=by
 intro r st h;unfold m_ at h |-
 split at h
 ·exact hq _ _ h
 ·exact hw _ _ h
 ·exact h.elim
noncomputable def ff (sp:FSp)(chk:AH->Prop):List PV->List PV->AH->LK->XW->Prop
 | [],acc,st,Q,_=>chk st/\Q acc st
 | x::xs,acc,st,Q,W=>chk st/\sp [x] st (m_ (fun v st'=>ff sp chk xs (acc++[v]) st' Q W) W)
theorem d_ {sp:FSp}(ms:∀as st Q Q',(∀v st,Q v st->Q' v st)->sp as st Q->sp as st Q'){Q':LK}{W':XW}(hq:∀v st,Q v st->Q' v st)(hw:∀k st,W k st->W' k st):∀ {xs acc:List PV}{st:AH},ff sp chk xs acc st Q W->ff sp chk xs acc st Q' W'
 | [],acc,st,h=>⟨h.1,hq _ _ h.2⟩
 | x::xs,acc,st,h=>⟨h.1,ms _ _ _ _ (cC (fun v st' z=>d_ ms hq hw z) hw) h.2⟩
mutual
inductive XS where
 | st (s:S)|ifX (t:E) (a b:XSs)|raise (k:Nat)|setX (i f:Nat) (es:Es)|forX (t:Tg) (it:It) (b:XSs)|setC (i f:Nat) (it:It) (y:Str)|retC (f:Nat) (it:It) (y:Str)
inductive XSs where
 | nil|cons (s:XS) (ss:XSs)
end
mutual
noncomputable def wpX (Γ ΓR:Nat->FSp):XS->Fr->AH->aK->XW->Prop
 | .st s,ρ,st,D,_=>wpS Γ s ρ st D
 | .ifX t a b,ρ,st,D,Wx=>wpT Γ t ρ st fun k st1=>if k=true then cw Γ ΓR a ρ st1 D Wx else cw Γ ΓR b ρ st1 D Wx
 | .raise k,_,st,_,Wx=>Wx k st
 | .setC i f it _,ρ,st,D,Wx=>eg Γ it ρ st fun xs chk st1=>xs.length<100000/\ff (ΓR f) chk xs [] st1 (fun vs st2=>D.nx (ρ.set i (some (.tup vs))) (st2++[.lst vs])) Wx
 | .retC f it _,ρ,st,D,Wx=>eg Γ it ρ st fun xs chk st1=>xs.length<100000/\ff (ΓR f) chk xs [] st1 (fun vs st2=>D.rt (.tup vs) (st2++[.lst vs])) Wx
 | .forX t it b,ρ,st,D,Wx=>eg Γ it ρ st fun xs chk st1=>m9 chk (fun x ρ' st' D'=>cX Γ t x ρ' st' fun ρ2 st2=>cw Γ ΓR b ρ2 st2 D' Wx) D xs ρ st1
 | .setX i f es,ρ,st,D,Wx=>cj Γ es ρ st fun vs st1=>ΓR f vs st1 (m_ (fun v st2=>D.nx (ρ.set i (some v)) st2) Wx)
noncomputable def cw (Γ ΓR:Nat->FSp):XSs->Fr->AH->aK->XW->Prop
 | .nil,ρ,st,D,_=>D.nx ρ st
 | .cons s ss,ρ,st,D,Wx=>wpX Γ ΓR s ρ st { D with nx:=fun ρ1 st1=>cw Γ ΓR ss ρ1 st1 D Wx } Wx
end
section
variable {Γ ΓR:Nat->FSp}
mutual
theorem vK (G:aT Γ)(G':aT ΓR):∀(s:XS) {ρ:Fr}{st:AH}{D D':aK}{Wx W':XW},i2 D D'->(∀k st,Wx k st->W' k st)->wpX Γ ΓR s ρ st D Wx->wpX Γ ΓR s ρ st D' W'
 | .st s,ρ,st,D,D',Wx,W',hD,hW,h=>by
  rw[wpX] at h |-
  exact jC G s hD h
 | .ifX t a b,ρ,st,D,D',Wx,W',hD,hW,h=>by
  rw[wpX] at h |-
  refine aP G t (fun k st1 z=>?_) h;cases k with
  | true=>rw[O0 rfl] at z |-;exact cK G G' a hD hW z
  | false=>rw[OY OS] at z |-;exact cK G G' b hD hW z
 | .raise k,ρ,st,D,D',Wx,W',hD,hW,h=>by
  rw[wpX] at h |-
  exact hW _ _ h
 | .setC i f it y,ρ,st,D,D',Wx,W',hD,hW,h=>by
  rw[wpX] at h |-
  exact bL G it (fun xs chk st1 z=>⟨z.1,d_ (fun as st Q Q'=>G' f as st Q Q') (fun vs st2 q=>hD.nx _ _ q) hW z.2⟩) h
 | .retC f it y,ρ,st,D,D',Wx,W',hD,hW,h=>by
  rw[wpX] at h |-
  exact bL G it (fun xs chk st1 z=>⟨z.1,d_ (fun as st Q Q'=>G' f as st Q Q') (fun vs st2 q=>hD.rt _ _ q) hW z.2⟩) h
 | .forX t it b,ρ,st,D,D',Wx,W',hD,hW,h=>by
  rw[wpX] at h |-
  exact bL G it (fun xs chk st1 z=>jV hD (fun x ρ st D D' hD q=>aU G t (fun ρ2 st2 q=>cK G G' b hD hW q) q) z) h
 | .setX i f es,ρ,st,D,D',Wx,W',hD,hW,h=>by
  rw[wpX] at h |-
  exact aC G es (fun vs st1 z=>G' _ _ _ _ _ (cC (fun v st2 z=>hD.nx _ _ z) hW) z) h
theorem cK (G:aT Γ)(G':aT ΓR):∀(s:XSs) {ρ:Fr}{st:AH}{D D':aK}{Wx W':XW},i2 D D'->(∀k st,Wx k st->W' k st)->cw Γ ΓR s ρ st D Wx->cw Γ ΓR s ρ st D' W'
 | .nil,ρ,st,D,D',Wx,W',hD,hW,h=>by
  rw[cw] at h |-
  exact hD.nx _ _ h
 | .cons s ss,ρ,st,D,D',Wx,W',hD,hW,h=>by
  rw[cw] at h |-
  exact vK G G' s (D:={ D with nx:=fun ρ1 st1=>cw Γ ΓR ss ρ1 st1 D Wx }) (D':={ D' with nx:=fun ρ1 st1=>cw Γ ΓR ss ρ1 st1 D' W' }) ⟨fun _ _ z=>cK G G' ss hD hW z,hD.rt,hD.bk,hD.ct⟩ hW h
end
end
structure Xf where
 xs:List Str
 rz:List Nat
noncomputable def GP (x:Stmt)(f:Expr->Bool):Bool:=match x with | .Raise (some e) none _=>f e|_=>false
theorem BJ (h:GP x f=true):∃e p,x=.Raise (some e) none p/\f e=true:=by
 unfold GP at h;split at h
 ·exact⟨_,_,rfl,h⟩
 ·cases h
noncomputable def jQ (x:Expr)(f:Str->List Expr->Bool):Bool:=aO x fun g as _=>av g fun y _=>f y as
theorem eN (h:jQ x f=true):∃g gp as p,x=.Call (.Name g gp) as [] p/\f g as=true:=by replace h:=aM h;obtain⟨g,as,p,rfl,h⟩:=h;replace h:=ah h;obtain⟨y,q,rfl,h⟩:=h;exact⟨_,_,_,_,rfl,h⟩
noncomputable def onRaise (x:Stmt)(f:Str->Bool):Bool:=GP x fun e=>jQ e fun y as=>on1 as fun a=>oz a fun _=>f y
theorem vG (h:onRaise x f=true):∃y np t j ap cp pos,x=.Raise (some (.Call (.Name y np) [.Constant (.str t) j ap] [] cp)) none pos/\f y=true:=by replace h:=BJ h;obtain⟨e,p,rfl,h⟩:=h;replace h:=eN h;obtain⟨g,gp,as,cp,rfl,h⟩:=h;replace h:=b8 h;obtain⟨a,rfl,h⟩:=h;replace h:=iy h;obtain⟨j,k,q,rfl,h⟩:=h;exact⟨_,_,_,_,_,_,_,rfl,h⟩
noncomputable def BP (x:Stmt)(f:Str->Str->Expr->List Expr->Bool):Bool:=om x fun t v=>av t fun y _=>jQ v fun g as=>cR as fun a r=>f y g a r
theorem xq (h:BP x f=true):∃y p g gp a as cp pos,x=.Assign [.Name y p] (.Call (.Name g gp) (a::as) [] cp) pos/\f y g a as=true:=by replace h:=dX h;obtain⟨t,v,p,rfl,h⟩:=h;replace h:=ah h;obtain⟨y,q,rfl,h⟩:=h;replace h:=eN h;obtain⟨g,gp,as,cp,rfl,h⟩:=h;replace h:=ar h;obtain⟨a,r,rfl,h⟩:=h;exact⟨_,_,_,_,_,_,_,_,rfl,h⟩
noncomputable def pG (x:Expr)(f:Str->Expr->Bool):Bool:=jQ x fun g as=>on1 as fun a=>f g a
theorem js (h:pG x f=true):∃g gp a p,x=.Call (.Name g gp) [a] [] p/\f g a=true:=by replace h:=eN h;obtain⟨g,gp,as,cp,rfl,h⟩:=h;replace h:=b8 h;obtain⟨a,rfl,h⟩:=h;exact⟨_,_,_,_,rfl,h⟩
noncomputable def zu (c:Cfg)(F:Xf)(f:Nat)(it:It)(y:Str)(x:Expr):Bool:=Ay x fun ex gs sc _=>on1 gs fun g=>g.is_async == 0 && vd it g.target && gh g.iter && c.block [y] [] sc && vV c it g.iter && i3 (c.inner [y] [] sc) (.name 0) g.target && g.ifs.isEmpty && pG ex fun h a=>(c.inner [y] [] sc).fn f h && F.rz.contains f && ak a && av a fun z _=>(c.inner [y] [] sc).N[0]? == some z && (c.inner [y] [] sc).vis z
mutual
noncomputable def uz (c:Cfg)(F:Xf):XS->Stmt->Bool
 | .st s,x=>EE c s x
 | .ifX t a b,x=>Fg x fun y ys zs=>xE c t y && g_ c F a ys && g_ c F b zs
 | .raise k,x=>onRaise x fun y=>F.xs[k]? == some y && c.glb y
 | .setC i f it y,x=>om x fun t v=>av t fun z _=>c.N[i]? == some z && c.loc z && pG v fun q l=>q == ("tuple":Str) && c.blt q && ak l && zu c F f it y l
 | .retC f it y,x=>yU x fun o=>iP o fun v=>pG v fun q l=>q == ("tuple":Str) && c.blt q && ak l && zu c F f it y l
 | .forX t it b,x=>yL x fun tg x ys=>vd it tg && gh x && i3 c t tg && vV c it x && g_ c F b ys
 | .setX i f es,x=>BP x fun y g a as=>c.N[i]? == some y && c.loc y && c.fn f g && F.rz.contains f && ak a && as.all ak && eP c es (a::as)
noncomputable def g_ (c:Cfg)(F:Xf):XSs->List Stmt->Bool
 | .nil,x=>x.isEmpty
 | .cons s ss,x=>cR x fun y ys=>uz c F s y && g_ c F ss ys
end
noncomputable def Ka (K:W.Frag)(m:List Addr)(H:Hp)(ca:Nat->Addr)(E:XK):XW:=fun k st'=>∀m' H',Ext K m H m' H'->RH K m' H' st'->E (.ref (ca k)) none H'
noncomputable def jD (K:W.Frag)(ca:Nat->Addr)(sp:FSp):Sp:=fun vs H Q E=>∃m st as,Rs K m H as vs/\RH K m H st/\sp as st (m_ (post K m H Q) (Ka K m H ca E))
structure HasX (P:Program)(w:World)(K:W.Frag)(mg:Str->Option Value)(base:Heap)(k:Nat)(x:Str)(ps:List Str)(sp:Sp):Prop where
 ex:∃(f:Addr) (fd:FuncData),pd P w K mg base (CXe P w) k f fd ps sp/\mg x=some (.ref f)/\W.keepIn K (.ref f)=true/\Binds K fd ps []
structure XG (P:Program)(w:World)(K:W.Frag)(mg:Str->Option Value)(base:Heap)(c:Cfg)(F:Xf)(ΓR:Nat->FSp)(ca:Nat->Addr):Prop where
 fn:∀f x,f<c.lim->c.fns[f]?=some x->F.rz.contains f=true->∃ps,HasX P w K mg base (f+1) x ps (jD K ca (ΓR f))
 cls:∀k x,F.xs[k]?=some x->mg x=some (.ref (ca k))/\W.excIn K (ca k) i6 "ValueError.__new__"=true
 mono:aT ΓR
noncomputable def postW (K:W.Frag)(m:List Addr)(H:Hp)(ca:Nat->Addr)(Wx:Addr->Hp->Prop):XW:=fun k st'=>∀m' H',Ext K m H m' H'->RH K m' H' st'->Wx (ca k) H'
theorem postW.ext {ca:Nat->Addr}(x:Ext K m H m1 H1){k:Nat}(q:postW K m H ca Wx k st):postW K m1 H1 ca Wx k st:=fun m' H' e r=>q m' H' (x.trans e) r
noncomputable abbrev TX:=L2.Ends->(Addr->Hp->Prop)->L2.St->Hp->Prop
noncomputable def TXx (K:W.Frag)(ca:Nat->Addr)(w:Fr->AH->aK->XW->Prop):TX:=fun D Wx σ H=>∃m ρ st,RF K m H ρ σ/\RH K m H st/\w ρ st (AE K m H D) (postW K m H ca Wx)
def PX (X:Cx)(st:Stmt)(t:TX):Prop :=
 ∀(pins:List (Addr × Obj)) (s:Shared) (σ:L2.St) (H:Hp) (D:L2.Ends) (Wx:Addr->Hp->Prop),L2.Inv X pins σ H s->t D Wx σ H->wpAny (model X.prog X.w) X.A (exec st X.env) (SP X pins D) (xp X Wx) s
def PXs (X:Cx)(st:List Stmt)(t:TX):Prop :=
 ∀(pins:List (Addr × Obj)) (s:Shared) (σ:L2.St) (H:Hp) (D:L2.Ends) (Wx:Addr->Hp->Prop),L2.Inv X pins σ H s->t D Wx σ H->wpAny (model X.prog X.w) X.A (execs st X.env) (SP X pins D) (xp X Wx) s
section
variable {X:Cx}{c:Cfg}{F:Xf}{Γ ΓR:Nat->FSp}{ca:Nat->Addr}
theorem PA.to {E:Value->Shared->Prop}(h:PA X.nox es t):PA (X.wish E) es t:=fun pos pins s σ H Q I w =>
 wpAny_mono (h pos pins s σ H Q (I.unwish.wish _) w) (fun _ _ ⟨v,H',I',r,q⟩=>⟨v,H',I'.unwish.wish _,r,q⟩) fun _ _ z=>False.elim z
theorem EB (C:COk X.nox c Γ)(G:XG X.prog X.w X.K X.mg X.base c F ΓR ca)(hex:X.ex=[]){i f:Nat}{as:List Expr}(h:(c.N[i]? == some y && c.loc y && c.fn f g && F.rz.contains f && ak a && as.all ak && eP c es (a::as))=true):PX X (.Assign [.Name y p] (.Call (.Name g gp) (a::as) [] cp) pos) (TXx X.K ca (wpX Γ ΓR (.setX i f es))):=by
 simp only[Bool.and_eq_true] at h;obtain⟨⟨⟨⟨⟨⟨h1,h2⟩,h3⟩,h4⟩,h5⟩,h6⟩,h7⟩:=h;obtain⟨g1,g2⟩:=C.locx h2;obtain⟨k1,k2,k3,_⟩:=C.fnx h3;have h3':=h3;unfold Cfg.fn at h3';simp only[Bool.and_eq_true,beq_iff_eq,decide_eq_true_eq] at h3';obtain⟨ps,HF⟩:=G.fn f g h3'.1.2 h3'.1.1 h4;obtain⟨fa,fd,Fn,fm,fk,fb⟩:=HF.ex;rintro pins s σ H D Wx I ⟨m,ρ,st,rf,rh,w⟩;rw[wpX] at w;have hps:rg (CXe X.prog X.w) (X.wish (xp X Wx)) (fun v _ H'=>∃C,v=.ref C/\Wx C H'):=fun pins σ H s e s' I q=>FI (X:=X) rfl rfl hex I.unwish q;have hE:PE (X.wish (xp X Wx)) (.Call (.Name g gp) (a::as) [] cp) (lj (jD X.K ca (ΓR f)) [] (fun v _ H'=>∃C,v=.ref C/\Wx C H') (TAx X.K (cj Γ es))) :=
  yR (X:=X.wish (xp X Wx)) Fn k3 k1 fm fk fb .nil hps (PA.to (kj es C _ h7)) k2 (aw h5) (g9 h6)
 refine wpAny_mono (kM (X:=X.wish (xp X Wx)) (i:=i) C.ndX (by have:=C.N;exact(PU (fun l=>l[i]?) this).trans (beq_iff_eq.mp h1)) g1 hE (bW rfl) g2 pins s σ H D (I.wish _) ⟨m,ρ,st,rf,rh,aC C.mono es (fun vs st1 k m1 H1 xs1 e1 r1 r2=>⟨m1,st1,vs,kE r2,r1,G.mono _ _ _ _ _ (cC (fun v st2 q m2 H2 x2 e2 r3 r4=>?_) fun k st2 q m2 H2 e2 r3=>?_) k⟩) w⟩) (fun _ _ q=>q.unwish) fun _ _ q=>q
 ·exact q m2 H2 _ (e1.trans e2) r3 (((rf.mono e1).mono e2).set i r4)
 ·exact⟨ca k,rfl,q m2 H2 (e1.trans e2) r3⟩
theorem PI.to {E:Value->Shared->Prop}(h:PI X.nox tg iter wi):PI (X.wish E) tg iter wi:=fun pins s σ H R I w =>
 wpAny_mono (h pins s σ H R (I.unwish.wish _) w) (fun _ _ z=>wpAny_mono z (fun _ _ ⟨it,fp,tn,J,H',e,I',T,z1,z2,z3⟩=>⟨it,fp,tn,J,H',e,I'.unwish.wish _,T,z1,z2,z3⟩) fun _ _ z=>False.elim z) fun _ _ z=>False.elim z
theorem PG.to {E:Value->Shared->Prop}(h:PG X.nox tg t):PG (X.wish E) tg t:=fun pins s σ H v u Q I r w =>
 wpAny_mono (h pins s σ H v u Q (I.unwish.wish _) r w) (fun _ _ ⟨σ',H',I',q⟩=>⟨σ',H',I'.unwish.wish _,q⟩) fun _ _ z=>False.elim z
theorem Cp (G:aT Γ)(G':aT ΓR){D:L2.Ends}(h:TXx X.K ca (wpX Γ ΓR (.forX t it b)) D Wx σ H):HE (TIx X.K (eg Γ it)) (TGx X.K (cX Γ t)) (fun D σ H=>TXx X.K ca (cw Γ ΓR b) D Wx σ H) D σ H:=by
 obtain⟨m,ρ,st,rf,rh,w⟩:=h;rw[wpX] at w;refine⟨m,ρ,st,rf,rh,bL G it (fun xs chk st1 k m1 H1 J e1 r1 W=>?_) w⟩;refine⟨fun i n σ' H'=>n+i=xs.length/\∃m' ρ' st',Ext X.K m1 H1 m' H'/\RH X.K m' H' st'/\RF X.K m' H' ρ' σ'/\m9 chk (fun x ρ' st' D'=>cX Γ t x ρ' st' fun ρ2 st2=>cw Γ ΓR b ρ2 st2 D' (postW X.K m H ca Wx)) (AE X.K m H D) (xs.drop i) ρ' st',
  ⟨xs.length,rfl,m1,ρ,st1,Ext.refl _ _ _,r1,rf.mono e1,by simpa using k⟩,?_⟩
 rintro i n σ' H' ⟨hn,m',ρ',st',x',rh',rf',k'⟩;cases q:xs.drop i with
 | nil =>
  rw[q] at k';have hi:i=xs.length:=by have:=PU List.length q;simp at this;omega
  subst hi;exact .inl ⟨W.stop m' H' st' x' rh' k'.1,k'.2 m' H' σ' (e1.trans x') rh' rf'⟩
 | cons v rest =>
  rw[q] at k';have hi:i<xs.length:=by have:=PU List.length q;simp at this;omega
  have ev:xs[i]?=some v:=by have:=PU List.head? q;rw[SY] at this;exact this
  have er:rest=xs.drop (i+1):=by have:=PU List.tail q;rw[S4] at this;exact this.symm
  subst er;obtain⟨kc,k'⟩:=k';obtain⟨go,yl⟩:=W.item i v m' H' st' x' rh' kc ev;refine .inr ⟨go,fun σ'' H''=>(n-1+(i+1)=xs.length/\∃m' ρ' st',Ext X.K m1 H1 m' H''/\RH X.K m' H'' st'/\RF X.K m' H'' ρ' σ''/\m9 chk (fun x ρ' st' D'=>cX Γ t x ρ' st' fun ρ2 st2=>cw Γ ΓR b ρ2 st2 D' (postW X.K m H ca Wx)) (AE X.K m H D) (xs.drop (i+1)) ρ' st'),fun σ'' H'' z=>⟨n-1,by omega,z⟩,fun y H2 hy=>?_⟩;obtain⟨x2,r2,rv⟩:=yl y H2 hy;refine⟨m',ρ',st',v,rf'.mono x2,r2,rv,aU G t (fun ρ3 st3 k3 m3 H3 σ3 x3 r3 f3=>?_) k'⟩;have xx:Ext X.K m H m3 H3:=((e1.trans x').trans x2).trans x3;refine⟨m3,ρ3,st3,f3,r3,cK G G' b ?_ (fun _ _ q=>q.ext xx) k3⟩;refine⟨fun ρ4 st4 k4 m4 H4 σ4 x4 r4 f4=>⟨by omega,m4,ρ4,st4,((x'.trans x2).trans x3).trans x4,r4,f4,k4⟩,fun v4 st4 k4=>k4.ext xx,fun ρ4 st4 k4=>k4.ext xx,fun ρ4 st4 k4 m4 H4 σ4 x4 r4 f4=>⟨by omega,m4,ρ4,st4,((x'.trans x2).trans x3).trans x4,r4,f4,k4⟩⟩
theorem r_ {R:Result->Shared->Prop}{s:Shared}{acc:Value}(I:Nat->Shared->Prop)(Ex:Value->Shared->Prop)(turn:∀n s,I n s->wpAny (model prog w) A (pyNext it) (fun r s₁=>match r with
   | none=>R (.ok .next) s₁
   | some v=>wpAny (model prog w) A (letOwnedTupleGo target it v) (fun _ s0=>wpAny (model prog w) A (assign target env v) (fun _ s₂ =>
      wpAny (model prog w) A (eval elt env) (fun x s₄ =>
       wpAny (model prog w) A (call (.builtin "list.append") [acc,x]) (fun _ s₅=>∃m,m<n/\I m s₅) (fun _ _=>False) s₄) Ex s₂) (fun _ _=>False) s0) (fun _ _=>False) s₁) (fun _ _=>False) s)(thrown:∀e s',Ex e s'->notedBy (model prog w) A env (fun x s''=>R (.error x) s'') e s')(n:Nat)(h:I n s):codeAny (model prog w) A (.compLoop (.ListComp elt [⟨target,iter,[],0⟩] scope pos) 0 it acc env) R s:=by
 refine codeAny_loop rfl I (fun n s hI=>?_) n h;show wpAny _ A ((compTurn (.ListComp elt [⟨target,iter,[],0⟩] scope pos) 0 it acc env).onRaise (fun x=>do noteFrame x env;theTreesLotGoes x)) _ _ s;refine wpAny_noted ?_;rw[compTurn_list];refine OP (wpAny_standAt (OP (wpAny_mono (turn n s hI) (fun r s₁ h₁=>?_) fun _ _ h'=>h'.elim)));cases r with
 | none=>exact O2 h₁
 | some v =>refine OP (wpAny_mono h₁ (fun _ s0 h₁=>?_) fun _ _ h'=>h'.elim);refine OP (wpAny_mono h₁ (fun _ s₂ h₂=>OP (O2 ?_)) fun _ _ h'=>h'.elim);exact OP (OP (wpAny_mono h₂ (fun x s₄ h₄=>OP (wpAny_mono h₄ (fun _ s₅ h₅=>O2 (O2 ⟨rfl,h₅⟩)) fun _ _ h'=>h'.elim)) thrown))
theorem Fly.but {D:Addr}(f:Fly L h0 H h a C)(sb:Heap.SameBut D h h')(hD:∀o,h.get? D=some o->∀vs,o.data≠.fields vs):Fly L h0 H h' a C:=by
 obtain⟨⟨oe,vs,h1,h2,h3,h4⟩,h5,h6⟩:=f;have ha:a≠D:=fun z=>hD oe (by rw[<-z];exact h1) vs h3;refine⟨⟨oe,vs,(sb.2 a ha).trans h1,h2,h3,?_⟩,h5,h6⟩;rcases h4 with h4|⟨T,oT,ts,a1,a2,a3,a4,a5,a6,a7⟩
 ·exact .inl h4
 ·have hT:T≠D:=fun z=>hD oT (by rw[<-z];exact a5) ts a6;exact .inr ⟨T,oT,ts,a1,a2,a3,a4,(sb.2 T hT).trans a5,a6,a7⟩
theorem Been.but {D:Addr}(f:Been h a)(sb:Heap.SameBut D h h')(hD:∀o,h.get? D=some o->∀vs,o.data≠.fields vs):Been h' a:=by obtain⟨oe,vs,T,h1,h2,h3⟩:=f;have ha:a≠D:=fun z=>hD oe (by rw[<-z];exact h1) vs h2;exact⟨oe,vs,T,(sb.2 a ha).trans h1,h2,h3⟩
section
variable {X:Cx}{Γ ΓR:Nat->FSp}{ca:Nat->Addr}{pins:List (Addr × Obj)}{σ:L2.St}{H:Hp}{s:Shared}
theorem xm {Wo:Addr->Hp->Prop}{use:Option (Value->Sem Unit)}{Qf:Value->Shared->Prop}{N:List Str}{scope:Scope}{s2:Shared}{H2:Hp}{fp:List Addr}{C:Addr}{D:Value}(hpn:X.pn=[])(hex:X.ex=[])(hst:X.stack=X.env::X.outer)(hfr:X.env.frame=some X.env.locals)
  (I2:L2.Inv X pins σ H2 s2) (f2:∀b∈fp,jo X pins H2 b) (hC:s2.heap.objs.size<=C) {pins1:List (Addr × Obj)}{σ1:L2.St}{H1:Hp}{s1:Shared} (I1:L2.Inv (cxC X N s2 H2 fp scope C) pins1 σ1 H1 s1) {e:Value}{s':Shared} (cx:CXe X.prog X.w X.stack H1 s1 (fun v _ H'=>∃C,v=.ref C/\Wo C H') e s') :
  notedBy (model X.prog X.w) X.A (compEnvC scope (ja X.env scope.names []) C X.env) (fun x s''=>compPost (model X.prog X.w) X.A (xp X Wo) use Qf D C (.error x) s'') e s':=by
 obtain⟨a,C0,H',rfl,os,bare,sz,un,hok,fl,C1,hC1,wq⟩:=cx;cases hC1;have IZ:L2.Inv (cxC X N s2 H2 fp scope C) pins1 σ1 H' s':=I1.call' (ch:=[]) os un hok bare fun b z=>by cases z
 have out:∀ {σ':L2.St}{H':Hp}{s':Shared}{ps:List (Addr × Obj)},L2.Inv (cxC X N s2 H2 fp scope C) ps σ' H' s'->L2.Inv X pins σ H' s':=fun {σ' H' s' ps} J=>I2.call' J.os J.base J.hok J.bare fun b hb=>⟨(f2 b hb).2.2.2.1,(f2 b hb).2.1,(f2 b hb).2.2.2.2.1,(f2 b hb).2.2.2.2.2⟩;have IX:=out IZ;have IX1:=out I1;have fX:Fly none X.s₀.heap H' s'.heap a C0:=fl.le fun b o e=>IX1.base.there b o e (by rw[hex];intro z;cases z);obtain⟨m,⟨oC,esC,epC,hoC,hdC,rC⟩,_⟩:=id IZ.loc;have hoC:s'.heap.get? C=some oC:=hoC;show wpAny _ _ (noteFrame (.ref a) X.env) _ _ _;refine t6 (P:=X.prog) (w:=X.w) (n:=X.s₀.heap) (base:=X.base) (outer:=X.outer) (by rw[<-hst];exact IX.ok.frames) (by rw[<-hst];exact IX.stack) hfr (by rw[<-hst];exact IX.stkFree) IX.hok IX.sz fX.up fun h1 nt bn=>?_;rw[<-hst] at nt;have I5:=Inv.noted IX hpn hex hst hfr nt;obtain⟨ch,hch,un5⟩:=id nt.un;have hCc:C ∉ ch:=fun q=>by obtain⟨vs,hv⟩:=(hch C q).2.2 oC hoC;rw[hdC] at hv;cases hv
 have hCH:H' C=none:=IZ.free;obtain⟨sl,hC1⟩:=un5.any hoC hCH hCc;refine⟨m,⟨_,esC,epC,hC1,hdC,rC⟩,fun h' sb cenv _=>?_⟩;have noD:∀o,h1.get? C=some o->∀vs,o.data≠.fields vs:=fun o e vs z=>by rw[hC1] at e;cases e;have z:oC.data=_:=z;rw[hdC] at z;cases z
 have fC:=I2.fpOk (H':=H') hC hCH;have I6:L2.Inv X [] σ H' { s' with heap:=h' }:=I5.turned (t':=s'.toks) (fun b o hb e=>(sb.2 b hb).trans e) fC.1 fC.2.1 fC.2.2.2.1 fC.2.2.2.2.1 fun p hp=>by rw[hpn] at hp;cases hp
 refine ED (P:=X.prog) (w:=X.w) (n:=X.s₀.heap) (s:={ s' with heap:=h' }) (fs:=frs X.stack) (fun b hb=>?_) I6.hok (nt.fly.but sb noD) (bn.but sb noD) fun h2 nt2=>?_
 ·obtain⟨_,o,ho,hnf⟩:=I6.stack.mem hb;exact⟨o,ho,hnf⟩
 ·exact⟨a,C0,[],σ,H',rfl,Inv.noted I6 hpn hex hst hfr nt2,nt2.fly.up,wq⟩
variable {f:Nat}
theorem xg (G:aT Γ)(ms:∀as st Q Q',(∀v st,Q v st->Q' v st)->ΓR f as st Q->ΓR f as st Q')(hcalm:X.calm=true){y:Str}{cn:List Str}{Fin:Addr->Hp->Prop}(hpn:X.pn=[])(hex:X.ex=[])(hst:X.stack=X.env::X.outer)(hfr:X.env.frame=some X.env.locals)(S:CScope X scope)(hcn:cn=([]:List Nat).filterMap (X.N[·]?))(hset:gh iterx=true)(hI:PI X.nox tgx iterx wi)(hG:∀s2 H2 fp C,PG (cxC X ([y]++cn) s2 H2 fp scope C) tgx (TGx X.K (cX Γ (.name 0))))(hE:∀s2 H2 fp C pins s σ H Q (Eq:XK),L2.Inv (cxC X ([y]++cn) s2 H2 fp scope C) pins σ H s->(∃x,σ[0]?=some (some x)/\jD X.K ca (ΓR f) [x] H Q Eq)->wpAny (model X.prog X.w) X.A (eval eltx (compEnvC scope (ja X.env scope.names []) C X.env)) (EP (cxC X ([y]++cn) s2 H2 fp scope C) pins σ Q) (fun e s'=>∃s1 H1 pins1,L2.Inv (cxC X ([y]++cn) s2 H2 fp scope C) pins1 σ H1 s1/\CXe X.prog X.w X.stack H1 s1 Eq e s') s)(I:L2.Inv X pins σ H s)(h:wi σ H fun J H1=>∃m ρ st1 xs chk,RF X.K m H1 ρ σ/\RH X.K m H1 st1/\q9 X.K J xs chk m H1/\xs.length<100000/\ff (ΓR f) chk xs [] st1 (bZ X.K m H1 Fin) (postW X.K m H1 ca Wo))(fin:∀C D H' s' m',L2.Inv X pins σ H' s'->s'.heap.Ns C m'->jo X pins H' C->Fin D H'->compPost (model X.prog X.w) X.A (xp X Wo) use Qf (.ref D) C (.ok .next) s') :
  wpAny (model X.prog X.w) X.A (comprehension (.ListComp eltx [⟨tgx,iterx,[],0⟩] scope pos) scope X.env p0 (newList []) false (eval iterx X.env) use) Qf (xp X Wo) s:=by
 refine wpAny_comprehension_free (use:=use) rfl (md hset) (qZ (S.cells I)) S.kind S.nms ?_;refine wpAny_mono (hI pins s σ H _ (I.wish _) h) (fun v s1 h1=>wpAny_mono h1 (fun itv s2 h2=>?_) fun _ _ z=>False.elim z) fun _ _ z=>False.elim z;obtain⟨it,fp,tn,J,H2,e,I2,T,st2,f2,m,ρ,st1,xs,chk,rf,rh,W,hxs,w⟩:=h2;subst e;have I2:=I2.unwish;have f2:∀b∈fp,jo X pins H2 b:=f2;have fl:∀b∈fp,b<s2.heap.objs.size:=fun b hb=>by obtain⟨o,e,_⟩:=T.obj 0 _ st2 b hb;exact O3 e
 refine wpAny_newObj_type (wpAny_newFunctionEnv S.nocell (by intro y hy;simp at hy) (fun h₁ hns₁ hsb₁=>?_) S.kind);dsimp only at hns₁ hsb₁ |-
 generalize hD:s2.heap.objs.size=D at *;generalize hH3:s2.heap.push { cls:=.type "list",dict:=none,data:=.seq ([]:List Value).toArray }=P3 at hns₁ hsb₁ |-
 generalize hCC:P3.objs.size=C at *;have hC1:C=D+1:=by rw[<-hCC,<-hH3,RI,hD]
 have ltDC:D<C:=by rw[hC1];exact SO D
 have neC:∀b,b<D->b≠C:=fun b hb=>PN (RX hb ltDC);have hDn:H2 D=none:=by rw[<-hD];exact I2.hok.fresh (OX _)
 have hCn:H2 C=none:=I2.hok.fresh (by rw[hD];exact QN ltDC);have old3:∀b o,s2.heap.get? b=some o->P3.get? b=some o:=fun b o e=>hH3 ▸ OR _ e;have old:∀b o,s2.heap.get? b=some o->h₁.get? b=some o:=fun b o e=>hsb₁.extBut b o (neC b (hD ▸ O3 e)) (OR _ (old3 b o e));have newD:h₁.get? D=some { cls:=.type "list",data:=.seq #[] }:=hsb₁.extBut _ _ (PN ltDC) (OR _ (by rw [<-hH3,<-hD];exact O5 _ rfl));have un:Un (frs X.stack) fp H2 (upd H2 D (.lst [])) s2.heap h₁:=Un.laid old (by rw[hD];exact OX _) hDn;have hok:HOk X.prog X.w (upd H2 D (.lst [])) h₁:=I2.hok.laid old (by rw[hD];exact OX _) ⟨P9 _,[],0,.nil,newD⟩;have I4:=wb (nt:=[y]) (tk:=s2.toks+([]:List (Str × Value)).length) S I2 f2 (by rw[hD];exact fl) (C:=C) (by rw[hD];exact QN ltDC) un hok (by simpa using hns₁) (by rw[ao (TK ltDC)];exact hCn) old
  (fun b o e n=>by rw[ao (PN (hD ▸ O3 e))];exact n) hcn (fun i z=>nomatch z) (fun x z=>by rw[hcn] at z;cases z) (fun x z=>by rw[hcn] at z;cases z)
 generalize (([y]:List Str).map (fun _=>none)++([]:List Nat).map fun i=>(σ[i]?).join:L2.St)=σ0 at I4;have hcn0:cn=[]:=hcn;have rfN:∀ {m':List Addr}{H':Hp}{σ':L2.St},σ'.length=([y]++cn).length->RF X.K m' H' [none] σ':=fun {m' H' σ'} e=>⟨by rw[e,hcn0];rfl,fun i v z=>by
  cases i with
  | zero=>cases z
  | succ i=>cases z⟩
 have loop:codeAny (model X.prog X.w) X.A (.compLoop (.ListComp eltx [⟨tgx,iterx,[],0⟩] scope pos) 0 (.ref it) (.ref D) (compEnvC scope (ja X.env scope.names []) C X.env)) (compPost (model X.prog X.w) X.A (xp X Wo) use Qf (.ref D) C)
   { s2 with heap:=h₁,toks:=s2.toks+([]:List (Str × Value)).length }:=by
  refine r_ (fun n s'=>∃(i:Nat),∃σ' H' m' st' acc ys,n+i=xs.length/\L2.Inv (cxC X ([y]++cn) s2 H2 fp scope C) [] σ' H' s'/\tn i s'.heap/\(∀b∈fp,H' b=none)/\Ext X.K m H2 m' H'/\RH X.K m' H' st'/\D ∉ m'/\H' D=some (.lst ys)/\Rs X.K m' H' acc ys/\ys.length<=i /\
   ff (ΓR f) chk (xs.drop i) acc st' (bZ X.K m H2 Fin) (postW X.K m H2 ca Wo)) (fun e s'=>∃s1 H1 pins1 σ1,L2.Inv (cxC X ([y]++cn) s2 H2 fp scope C) pins1 σ1 H1 s1/\CXe X.prog X.w X.stack H1 s1 (fun v _ H'=>∃C,v=.ref C/\Wo C H') e s') ?_ ?_ xs.length
   ⟨0,σ0,_,m,st1,[],[],rfl,I4,T.keep 0 _ _ st2 (fun b _ o e=>old b o e),fun b hb=>by rw[ao (PN (fl b hb))];exact(f2 b hb).1,Ext.newT rh hDn,rh.newT hDn,rh.fresh hDn,bq,Rs_nil.mpr rfl,OX _,by simpa using w⟩
  case refine_2 =>rintro e s' ⟨s1,H1,pins1,σ1,J,cx⟩;exact xm hpn hex hst hfr I2 f2 (by rw[hD];exact QN ltDC) J cx
  rintro n s' ⟨i,σ',H',m',st',acc,ys,hn,I',tni,fpn,x',rh',Dm,hDl,rys,hly,k⟩;have stat:∀ {H'':Hp},(∀b∈fp,H'' b=none)->∀b∈fp,jo (cxC X ([y]++cn) s2 H2 fp scope C) [] H'' b:=fun hz b hb=>⟨hz b hb,(I'.ok.exf b hb).1,I'.ok.exfs b hb,.inl hb,(I'.ok.exf b hb).2,fun p hp=>absurd (show p∈([]:List (Addr × Obj)) from hp) (by simp)⟩;cases q:xs.drop i with
  | nil =>
   rw[q] at k;have hi:i=xs.length:=by have:=PU List.length q;simp at this;omega
   subst hi;refine thn (T.done (cxC X ([y]++cn) s2 H2 fp scope C) rfl rfl rfl hcalm _ [] s' σ' H' (fun _ _=>False) I' (stat fpn) tni (W.stop m' H' st' x' rh' k.1)) fun r s1 ⟨hr,I1⟩=>?_;subst hr;have IX:L2.Inv X pins σ H' s1:=I2.call' I1.os I1.base I1.hok I1.bare fun b hb=>⟨(f2 b hb).2.2.2.1,(f2 b hb).2.1,(f2 b hb).2.2.2.2.1,(f2 b hb).2.2.2.2.2⟩;obtain⟨mm,hns,_⟩:=I1.loc;exact fin C D H' s1 mm IX hns (I2.fpOk (by rw[hD];exact QN ltDC) I1.free) (k.2 m' H' D ys x' rh' Dm hDn hDl rys)
  | cons v rest =>
   rw[q] at k;have hi:i<xs.length:=by have:=PU List.length q;simp at this;omega
   have ev:xs[i]?=some v:=by have:=PU List.head? q;rw[SY] at this;exact this
   have er:rest=xs.drop (i+1):=by have:=PU List.tail q;rw[S4] at this;exact this.symm
   subst er;obtain⟨kc,k⟩:=k;obtain⟨go,yl⟩:=W.item i v m' H' st' x' rh' kc ev;refine thn (T.item (cxC X ([y]++cn) s2 H2 fp scope C) rfl rfl rfl hcalm i [] s' σ' H' (fun _ _=>False) I' (stat fpn) tni go) fun r s4 ⟨u,hr,h4⟩=>?_;subst hr;refine thn h4 fun _ s5 ⟨x,H5,I5,r5,y5,tn5,fr5⟩=>?_;obtain⟨x5,rh5,rv5⟩:=yl x H5 y5;have I5':=I5.pinned (stat fr5) (T.obj _ _ tn5);have again:∀ {σ7:L2.St}{H7:Hp}{s7:Shared}{m7:List Addr}{st7:AH}{acc7:List PV}{ys7:List V},L2.Inv (cxC X ([y]++cn) s2 H2 fp scope C) ([]++nU fp s5.heap) σ7 H7 s7->Ext X.K m H2 m7 H7->RH X.K m7 H7 st7->D ∉ m7->H7 D=some (.lst ys7) ->
     Rs X.K m7 H7 acc7 ys7->ys7.length<=i+1->ff (ΓR f) chk (xs.drop (i+1)) acc7 st7 (bZ X.K m H2 Fin) (postW X.K m H2 ca Wo) ->
     ∃n',n'<n/\∃(i:Nat),∃σ' H' m' st' acc ys,n'+i=xs.length/\L2.Inv (cxC X ([y]++cn) s2 H2 fp scope C) [] σ' H' s7/\tn i s7.heap/\(∀b∈fp,H' b=none)/\Ext X.K m H2 m' H'/\RH X.K m' H' st'/\D ∉ m'/\H' D=some (.lst ys)/\Rs X.K m' H' acc ys/\ys.length<=i /\
      ff (ΓR f) chk (xs.drop i) acc st' (bZ X.K m H2 Fin) (postW X.K m H2 ca Wo):=fun {σ7 H7 s7 m7 st7 acc7 ys7} I7 g1 g2 g4 g5 g6 g7 g8=>by
    refine⟨n-1,by omega,i+1,σ7,H7,m7,st7,acc7,ys7,by omega,I7.unpinned,T.keep _ _ _ tn5 fun b hb o e=>(I7.pin (b,o) (PP _ (PP _ (dW hb e)))).1,fun b hb=>?_,g1,g2,g4,g5,g6,g7,g8⟩;obtain⟨o,e,d⟩:=T.obj _ _ tn5 b hb;exact(I7.pin (b,o) (PP _ (PP _ (dW hb e)))).2.1
   refine thn (hG s2 H2 fp C _ s5 σ' H5 x u (fun σ6 H6=>∃m6 st6 x6,Ext X.K m' H5 m6 H6/\RH X.K m6 H6 st6/\σ6[0]?=some (some x6)/\R X.K m6 H6 v x6/\ΓR f [v] st6 (m_ (fun vv st8=>ff (ΓR f) chk (xs.drop (i+1)) (acc++[vv]) st8 (bZ X.K m H2 Fin) (postW X.K m H2 ca Wo)) (postW X.K m H2 ca Wo))) I5' r5
    ⟨m',[none],st',v,rfN I'.len,rh5,rv5,fun m6 H6 σ6 e6 rh6 rf6=>?_⟩) fun _ s6 ⟨σ6,H6,I6,m6,st6,x6,e6,rh6,hx6,rx6,w6⟩=>?_
   ·obtain⟨x6,hx,rx⟩:=rf6.at_ 0 v rfl;exact⟨m6,st',x6,e6,rh6,hx,rx,k⟩
   have xx6:Ext X.K m' H' m6 H6:=x5.trans e6;refine wpAny_mono (hE s2 H2 fp C _ s6 σ6 H6 (fun yv H8=>∃m8 st8 vv,Ext X.K m6 H6 m8 H8/\RH X.K m8 H8 st8/\R X.K m8 H8 vv yv/\ff (ΓR f) chk (xs.drop (i+1)) (acc++[vv]) st8 (bZ X.K m H2 Fin) (postW X.K m H2 ca Wo)) (fun v _ H'=>∃C,v=.ref C/\Wo C H') I6
    ⟨x6,hx6,m6,st6,[v],Rs_cons'.mpr ⟨rx6,Rs_nil.mpr rfl⟩,rh6,ms _ _ _ _ (cC (fun vv st8 z m8 H8 yv x8 rh8 r8=>⟨m8,st8,vv,x8,rh8,r8,z⟩) fun kk st8 z m8 H8 x8 rh8=>⟨_,rfl,z m8 H8 (((x'.trans xx6)).trans x8) rh8⟩) w6⟩) (fun uy s8 ⟨yv,H8,I8,ry,m8,st8,vv,x8,rh8,r8,w8⟩=>?_) fun e s8 ⟨s1,H1,pins1,J,cx⟩=>⟨s1,H1,pins1,σ6,J,cx⟩
   have xx8:Ext X.K m' H' m8 H8:=xx6.trans x8;have hD8:H8 D=some (.lst ys):=xx8.fr D _ Dm hDl fun _ z=>nomatch z;have Dm8:D ∉ m8:=fun z=>by
    rcases xx8.new D z with z|z
    ·exact Dm z
    ·rw[hDl] at z;cases z
   refine thn (nu (X:=cxC X ([y]++cn) s2 H2 fp scope C) _ s8 σ6 H8 (.ref D) [yv] (.ref D) [uy] (fun _ H9=>H9=upd H8 D (.lst (ys++[yv]))) I8 rfl (.cons ry .nil) ⟨D,ys,yv,rfl,rfl,hD8,pw (by omega),rfl⟩) fun _ s9 ⟨_,H9,I9,_,e9⟩=>?_;subst e9;exact again I9 ((x'.trans xx8).away hDn hD8) (rh8.away Dm8 hD8) Dm8 bq (((rys.mono xx8).app (.one r8)).mono0 (iE hD8) (iC hD8)) (by simp;omega) w8
 exact codeAny_compStart_list loop (T.self X.A 0 _ _ _ (T.keep 0 _ _ st2 fun b _ o e=>old b o e) loop)
end
section
variable {Y:Cx}{CX:CXT}{k:Nat}{f:Addr}{fd:FuncData}{ps:List Str}{sp:Sp}{dvs:List V}{ds:List Value}{Ex:XK}{x:Str}{p pos:Pos}{e:Expr}{es:List Expr}{t:TA}{σ:L2.St}
theorem vS (F:pd Y.prog Y.w Y.K Y.mg Y.base CX k f fd ps sp)(hr:Room k Y.A)(hg:Gl Y x)(hm:Y.mg x=some (.ref f))(hk:W.keepIn Y.K (.ref f)=true)(hb:Binds Y.K fd ps ds)(hd:Vals dvs ds)
  (hx:∀pins H s e s',L2.Inv Y pins σ H s->CX Y.stack H s Ex e s'->Y.xe e s')
  (ha:PA Y (e::es) t) (hdb:(x == ("__debug__":Str))=false) (he:starEach (e::es) Y.env=(false,eval e Y.env)::starEach es Y.env) (hpl:(backTo pos (starEach es Y.env)).any (·.1)=false) :
  PE Y (.Call (.Name x p) (e::es) [] pos) (fun σ' H Q=>σ'=σ/\lj sp dvs Ex t σ' H Q):=by
 rintro pins s σ' H Q I ⟨rfl,h⟩;refine wpAny_Call_Name_kw (jK I hg hm ?_ hdb);refine W.callWith_K (h₀:=Y.base) I.ok.mod.kin hk (thn (ha pos pins s σ' H _ I h) fun us s1 ⟨vs,H1,I1,r,q⟩=>⟨I1.kIn,?_⟩) he hpl;have r2:Vals (vs++dvs) (us++ds):=r.append hd;have hl:(us++ds).length=ps.length:=by rw[<-r2.length];exact F.len _ _ _ _ q
 refine wpAny_call (codeAny_mono (F.run Y.A Y.stack s1 H1 ⟨us,[]⟩ (us++ds) (vs++dvs) Q Ex hr I1.env0 (hb s1 us I1.kIn hl) r2 q) fun r s' hq=>?_);cases r with
 | error e=>exact hx pins H1 s1 e s' I1 hq
 | ok fl =>
  cases fl with
  | ret u=>exact I1.after hq
  | next=>exact False.elim hq
  | brk=>exact False.elim hq
  | cont=>exact False.elim hq
end
theorem IE (C:COk X.nox c Γ)(G:XG X.prog X.w X.K X.mg X.base c F ΓR ca)(hex:X.ex=[])(hpn:X.pn=[])(hst:X.stack=X.env::X.outer)(hfr:X.env.frame=some X.env.locals){f:Nat}(h:zu c F f it y x=true)(Wo:Addr->Hp->Prop) :
  PE (X.wish (xp X Wo)) x (fun σ H Q=>∃m ρ st,RF X.K m H ρ σ/\RH X.K m H st/\eg Γ it ρ st fun xs chk st1=>xs.length<100000/\ff (ΓR f) chk xs [] st1 (fun vs st2=>post X.K m H Q (.ref st2.length) (st2++[.lst vs])) (postW X.K m H ca Wo)):=by
 replace h:=ji h;obtain⟨ex,gs,sc,pos,rfl,h⟩:=h;replace h:=b8 h;obtain⟨g,rfl,h⟩:=h;obtain⟨tx,ix,fx,ia⟩:=g;dsimp only at h;simp only[Bool.and_eq_true,beq_iff_eq] at h;obtain⟨⟨⟨⟨⟨⟨⟨h1,h0⟩,h2⟩,h4⟩,h5⟩,h6⟩,h7⟩,h8⟩:=h;subst h1;cases fx with
 | cons _ _=>cases h7
 | nil =>
 replace h8:=js h8;obtain⟨gn,gp,ax,cp,rfl,h8⟩:=h8;simp only[Bool.and_eq_true] at h8;obtain⟨⟨⟨a1,a2⟩,a3⟩,a4⟩:=h8;replace a4:=ah a4;obtain⟨z,zp,rfl,a4⟩:=a4;obtain⟨S,k1,k2,k3,k4⟩:=mn C h4;have hC:∀s2 H2 fp A,COk (cxC X ([y]++([]:List Nat).filterMap (X.N[·]?)) s2 H2 fp sc A) (c.inner [y] [] sc) Γ:=fun s2 H2 fp A=>xQ C h4;have a1':=a1;unfold Cfg.fn at a1';simp only[Bool.and_eq_true,beq_iff_eq,decide_eq_true_eq] at a1';obtain⟨ps,HF⟩:=G.fn f gn a1'.1.2 a1'.1.1 a2;obtain⟨fa,fd,Fn,fm,fk,fb⟩:=HF.ex;rintro pins s σ H Q I ⟨m,ρ,st,rf,rh,w⟩;rw[eval_ListComp];refine xg (X:=X) (ca:=ca) (f:=f) (y:=y) (use:=none) (Wo:=Wo) (Fin:=fun D H'=>Q (.ref D) H') (wi:=TIx X.K (eg Γ it)) C.mono (fun as st Q Q'=>G.mono f as st Q Q') C.calm hpn hex hst hfr ⟨S.kind,S.nocell,S.nms,S.free⟩ rfl h2 (xc it C ix h0 h5) (fun s2 H2 fp A=>oj (.name 0) (hC s2 H2 fp A) _ h6) ?_ I.unwish ?_ ?_
 ·rintro s2 H2 fp CC pins s σ H Q Eq I ⟨x,hx,q⟩;have CZ:=hC s2 H2 fp CC;obtain⟨b1,b2,b3,_⟩:=CZ.fnx a1;simp only[Bool.and_eq_true,beq_iff_eq] at a4;obtain⟨v1,v2,v3⟩:=CZ.visx a4.2;have hA:PA ((cxC X ([y]++([]:List Nat).filterMap (X.N[·]?)) s2 H2 fp sc CC).wish (fun e s'=>∃s1 H1 pins1,L2.Inv (cxC X ([y]++([]:List Nat).filterMap (X.N[·]?)) s2 H2 fp sc CC) pins1 σ H1 s1/\CXe X.prog X.w X.stack H1 s1 Eq e s')) [.Name z zp] (cy (Ds 0) kb) :=
   pac (n5 (by have:=CZ.N;exact(PU (fun l=>l[0]?) this).trans a4.1) v1 v2 v3) bX a3
  exact wpAny_mono (vS (Y:=(cxC X ([y]++([]:List Nat).filterMap (X.N[·]?)) s2 H2 fp sc CC).wish (fun e s'=>∃s1 H1 pins1,L2.Inv (cxC X ([y]++([]:List Nat).filterMap (X.N[·]?)) s2 H2 fp sc CC) pins1 σ H1 s1/\CXe X.prog X.w X.stack H1 s1 Eq e s')) (σ:=σ) (Ex:=Eq) (p:=gp) (pos:=cp) Fn b3 b1 fm fk fb .nil (fun ps H1 s1 e s' I1 z=>⟨s1,H1,ps,I1.unwish,z⟩) hA b2 (aw a3) rfl pins s σ H Q (I.wish _) ⟨rfl,x,hx,q⟩) (fun _ _ ⟨v,H',I',r,q⟩=>⟨v,H',I'.unwish,r,q⟩) fun _ _ z=>z
 ·refine⟨m,ρ,st,rf,rh,bL C.mono it (fun xs chk st1 z m1 H1 J e1 r1 W=>⟨m1,ρ,st1,xs,chk,rf.mono e1,r1,W,z.1,?_⟩) w⟩;refine d_ (fun as st Q Q'=>G.mono f as st Q Q') (fun vs st2 k m2 H2 D ys e2 r2 Dm hD0 hD ry=>?_) (fun _ _ q=>q.ext e1) z.2;have hD1:H D=none:=by
   cases q:H D with
   | none=>rfl
   | some o =>
    by_cases hm:D∈m
    ·exact absurd ((e1.trans e2).pre.subset hm) Dm
    ·exact absurd hD0 (e1.ne hm q)
  exact k _ _ _ ((e1.trans e2).addD hD1) (r2.addD Dm hD ry) (R.last r2.len)
 ·intro C' D H' s' m' I' ns fp F;refine⟨m',ns,fun h' hs'=>?_⟩;exact⟨.ref D,H',(I'.turned (t':=s'.toks) (fun b o hb e=>hs'.extBut b o hb e) fp.1 fp.2.1 fp.2.2.2.1 fp.2.2.2.2.1 fp.2.2.2.2.2).wish _,rfl,F⟩
theorem BZ (C:COk X.nox c Γ)(G:XG X.prog X.w X.K X.mg X.base c F ΓR ca)(hex:X.ex=[])(hpn:X.pn=[])(hst:X.stack=X.env::X.outer)(hfr:X.env.frame=some X.env.locals){f:Nat}{q:Str}(h:(q == ("tuple":Str) && c.blt q && ak l && zu c F f it y l)=true)(Wo:Addr->Hp->Prop) :
  PE (X.wish (xp X Wo)) (.Call (.Name q qp) [l] [] cp) (fun σ H Q=>∃m ρ st,RF X.K m H ρ σ/\RH X.K m H st/\eg Γ it ρ st fun xs chk st1=>xs.length<100000/\ff (ΓR f) chk xs [] st1 (fun vs st2=>post X.K m H Q (.tup vs) (st2++[.lst vs])) (postW X.K m H ca Wo)):=by
 simp only[Bool.and_eq_true,beq_iff_eq] at h;obtain⟨⟨⟨h1,h2⟩,h3⟩,h4⟩:=h;subst h1;obtain⟨b1,b2,b3,b4⟩:=C.bltx h2;have hA:PA (X.wish (xp X Wo)) [l] (cy _ kb):=pac (IE C G hex hpn hst hfr h4 Wo) bX h3;have hc:=CL (X:=X.wish (xp X Wo)) C.calm C.room.gd C.room.units .tuple1;intro pins s σ H Q I ⟨m,ρ,st,rf,rh,w⟩;refine qT (X:=X.wish (xp X Wo)) hc b1 b4 (Gc .tuple1) hA b3 b2 h3 rfl pins s σ H Q I ?_;refine⟨m,ρ,st,rf,rh,bL C.mono it (fun xs chk st1 z=>⟨z.1,d_ (fun as st Q Q'=>G.mono f as st Q Q') (fun vs st2 k m2 H2 x2 e2 r2 rx=>?_) (fun _ _ q=>q) z.2⟩) w⟩;exact⟨m2,st2++[.lst vs],[.ref st2.length],r2,Rs_cons'.mpr ⟨rx,Rs_nil.mpr rfl⟩,vs,(by simp[bP,bH]),k.ext e2⟩
mutual
theorem NT (C:COk X.nox c Γ)(G:XG X.prog X.w X.K X.mg X.base c F ΓR ca)(hex:X.ex=[])(hc:X.calm=true)(hpn:X.pn=[])(hst:X.stack=X.env::X.outer)(hfr:X.env.frame=some X.env.locals):∀(e:XS) (x:Stmt),uz c F e x=true->PX X x (TXx X.K ca (wpX Γ ΓR e))
 | .st e,x,h=>by rw[uz] at h;rintro pins s σ H D Wx I ⟨m,ρ,st,rf,rh,w⟩;rw[wpX] at w;exact wpAny_mono (GQ C e x h pins s σ H D (I.wish _) ⟨m,ρ,st,rf,rh,w⟩) (fun _ _ q=>q.unwish) fun _ _ z=>False.elim z
 | .ifX t a b,x,h=>by
  rw[uz] at h;replace h:=qR h;obtain⟨x,ys,zs,p,rfl,h⟩:=h;simp only[Bool.and_eq_true] at h;obtain⟨⟨h1,h2⟩,h3⟩:=h;rintro pins s σ H D Wx I ⟨m,ρ,st,rf,rh,w⟩;rw[wpX] at w;refine wpAny_If (wpAny_mono (qo t C _ h1 pins s σ H (fun k H1=>if k=true then TXx X.K ca (cw Γ ΓR a) D Wx σ H1 else TXx X.K ca (cw Γ ΓR b) D Wx σ H1) (I.wish _) ⟨m,ρ,st,rf,rh,aP C.mono t (fun k st1 z m1 H1 e1 r1=>?_) w⟩) (fun d s1 ⟨H1,I1,q1⟩=>?_) fun _ _ z=>False.elim z)
  ·cases k with
   | true=>rw[O0 rfl] at z |-;exact⟨m1,ρ,st1,rf.mono e1,r1,cK C.mono G.mono a (AE.ext e1) (fun _ _ q=>q.ext e1) z⟩
   | false=>rw[OY OS] at z |-;exact⟨m1,ρ,st1,rf.mono e1,r1,cK C.mono G.mono b (AE.ext e1) (fun _ _ q=>q.ext e1) z⟩
  ·cases d with
   | true=>exact vM C G hex hc hpn hst hfr a _ h2 pins s1 σ H1 D Wx I1.unwish q1
   | false=>exact vM C G hex hc hpn hst hfr b _ h3 pins s1 σ H1 D Wx I1.unwish q1
 | .raise k,x,h=>by rw[uz] at h;obtain⟨y,np,t,j,ap,cp,pos,rfl,h⟩:=vG h;have h:=Bool.and_eq_true_iff.mp h;obtain⟨g1,g2,g3⟩:=C.glbx h.2;rintro pins s σ H D Wx I ⟨m,ρ,st,rf,rh,w⟩;rw[wpX] at w;obtain⟨e1,e2⟩:=G.cls k y (beq_iff_eq.mp h.1);exact Bh I hc hex g1 g2 e1 e2 (w m H (Ext.refl _ _ _) rh)
 | .setC i f it y,x,h=>by rw[uz] at h;replace h:=dX h;obtain⟨tg,v,p,rfl,h⟩:=h;replace h:=ah h;obtain⟨z,zp,rfl,h⟩:=h;simp only[Bool.and_eq_true,beq_iff_eq] at h;obtain⟨⟨h1,h2⟩,h3⟩:=h;replace h3:=js h3;obtain⟨q,qp,l,cp,rfl,h3⟩:=h3;obtain⟨g1,g2⟩:=C.locx h2;rintro pins s σ H D Wx I ⟨m,ρ,st,rf,rh,w⟩;rw[wpX] at w;refine wpAny_mono (kM (X:=X.wish (xp X Wx)) (i:=i) C.ndX (by have:=C.N;exact(PU (fun l=>l[i]?) this).trans h1) g1 (BZ C G hex hpn hst hfr h3 Wx) (bW rfl) g2 pins s σ H D (I.wish _) ⟨m,ρ,st,rf,rh,bL C.mono it (fun xs chk st1 z=>⟨z.1,d_ (fun as st Q Q'=>G.mono f as st Q Q') (fun vs st2 k m2 H2 x2 e2 r2 rx=>?_) (fun _ _ q=>q) z.2⟩) w⟩) (fun _ _ q=>q.unwish) fun _ _ q=>q;exact k m2 H2 _ e2 r2 ((rf.mono e2).set i rx)
 | .retC f it y,x,h=>by rw[uz] at h;replace h:=mK h;obtain⟨o,p,rfl,h⟩:=h;replace h:=fT h;obtain⟨v,rfl,h⟩:=h;replace h:=js h;obtain⟨q,qp,l,cp,rfl,h⟩:=h;rintro pins s σ H D Wx I ⟨m,ρ,st,rf,rh,w⟩;rw[wpX] at w;exact wpAny_mono (Bg (X:=X.wish (xp X Wx)) (BZ C G hex hpn hst hfr h Wx) pins s σ H D (I.wish _) ⟨m,ρ,st,rf,rh,w⟩) (fun _ _ q=>q.unwish) fun _ _ q=>q
 | .forX t it b,x,h=>by
  rw[uz] at h;replace h:=sF h;obtain⟨tg,x,ys,p,rfl,h⟩:=h;simp only[Bool.and_eq_true] at h;obtain⟨⟨⟨⟨h0,h1⟩,h2⟩,h3⟩,h4⟩:=h;intro pins s σ H D Wx I w;have hb:PSs (X.wish (xp X Wx)) ys (fun D σ H=>TXx X.K ca (cw Γ ΓR b) D Wx σ H):=fun pins s σ H D I w=>wpAny_mono (vM C G hex hc hpn hst hfr b _ h4 pins s σ H D Wx I.unwish w) (fun f s' q=>by
   cases f with
   | next=>obtain⟨σ',H',I,q⟩:=q;exact⟨σ',H',I.wish _,q⟩
   | brk=>obtain⟨σ',H',I,q⟩:=q;exact⟨σ',H',I.wish _,q⟩
   | cont=>obtain⟨σ',H',I,q⟩:=q;exact⟨σ',H',I.wish _,q⟩
   | ret u=>obtain⟨v,σ',H',I,r,q⟩:=q;exact⟨v,σ',H',I.wish _,r,q⟩) fun _ _ q=>q
  exact wpAny_mono (CV (X:=X.wish (xp X Wx)) (JE hpn hex hst hfr) hc (PI.to (xc it C _ h0 h3)) (PG.to (oj t C _ h2)) hb (md h1) pins s σ H D (I.wish _) (Cp C.mono G.mono w)) (fun _ _ q=>q.unwish) fun _ _ q=>q
 | .setX i f es,x,h=>by rw[uz] at h;obtain⟨y,p,g,gp,a,as,cp,pos,rfl,h⟩:=xq h;exact EB C G hex h
theorem vM (C:COk X.nox c Γ)(G:XG X.prog X.w X.K X.mg X.base c F ΓR ca)(hex:X.ex=[])(hc:X.calm=true)(hpn:X.pn=[])(hst:X.stack=X.env::X.outer)(hfr:X.env.frame=some X.env.locals):∀(e:XSs) (x:List Stmt),g_ c F e x=true->PXs X x (TXx X.K ca (cw Γ ΓR e))
 | .nil,x,h=>by
  rw[g_] at h;cases x with
  | nil =>rintro pins s σ H D Wx I ⟨m,ρ,st,rf,rh,w⟩;rw[cw] at w;exact wpAny_execs_nil ⟨_,_,I,postF.here w rh rf⟩
  | cons _ _=>cases h
 | .cons e es,x,h=>by
  rw[g_] at h;replace h:=ar h;obtain⟨y,ys,rfl,h⟩:=h;simp only[Bool.and_eq_true] at h;rintro pins s σ H D Wx I ⟨m,ρ,st,rf,rh,w⟩;rw[cw] at w;refine wpAny_execs_cons (thn (NT C G hex hc hpn hst hfr e _ h.1 pins s σ H { D with nx:=fun σ1 H1=>TXx X.K ca (cw Γ ΓR es) D Wx σ1 H1 } Wx I ⟨m,ρ,st,rf,rh,vK C.mono G.mono e (D:={ AE X.K m H D with nx:=fun ρ1 st1=>cw Γ ΓR es ρ1 st1 (AE X.K m H D) (postW X.K m H ca Wx) }) (D':=AE X.K m H { D with nx:=fun σ1 H1=>TXx X.K ca (cw Γ ΓR es) D Wx σ1 H1 }) ⟨fun ρ1 st1 k m1 H1 σ1 e1 r1 f1=>⟨m1,ρ1,st1,f1,r1,cK C.mono G.mono es (AE.ext e1) (fun _ _ q=>q.ext e1) k⟩,fun _ _ q=>q,fun _ _ q=>q,fun _ _ q=>q⟩ (fun _ _ q=>q) w⟩) fun f s1 q=>?_);cases f with
  | next =>obtain⟨σ',H',I',q⟩:=q;exact vM C G hex hc hpn hst hfr es _ h.2 pins s1 σ' H' D Wx I' q
  | ret v=>exact q
  | brk=>exact q
  | cont=>exact q
end
end
end FW
namespace FW
open L2 HX
noncomputable def lh (st:AH)(Q:EK):aK:={ nx:=fun _ st'=>Ret st (fun v s=>Q (okR v) s) .non st',rt:=Ret st (fun v s=>Q (okR v) s) }
noncomputable def pR (st:AH)(Q:EK):XW:=fun k st'=>Ret st (fun _ s=>Q (exR k) s) .non st'
def okO (sp:FSp):FSp:=fun as st Q=>sp as st (m_ Q fun _ _=>False)
section
variable {P:Program}{w:World}{K:W.Frag}{mg:Str->Option Value}{base:Heap}{c:Cfg}{F:Xf}{Γ ΓR:Nat->FSp}{ca:Nat->Addr}
theorem E4 {code:XSs}(A0:At K mg x st ps)(S:aj N ps (ae st))(hN:c.N=N)(hn:c.names=(ae st).names)(hc:g_ c F code (af st)=true)(G:GOk P w K mg base c Γ)(GX:XG P w K mg base c F ΓR ca)(len:∀as st Q,sp as st Q->as.length=ps.length)(ms:∀as st Q Q',(∀v st,Q v st->Q' v st)->sp as st Q->sp as st Q')(h:∀as st Q,sp as st Q->cw Γ ΓR code (frame N.length as) st (lh st Q) (pR st Q))(hpc:c.pc=false:=by rfl)(hhm:c.hm=none:=by rfl):HasX P w K mg base (c.lim+1) x ps (jD K ca sp):=by
 obtain⟨f,fd,Ff,fm,fb⟩:=A0.ex;have kp:=Ff.kp;obtain⟨oc,od,kV,doc,pm,an,cdv,ct,osl,rfl,lk,hcd⟩:=Ff.ex;refine⟨f,_,F_ lk hcd S (fun vs H Q E ⟨m,st,as,r1,r2,q⟩=>by rw[<-r1.len];exact len as st _ q) fun A outer s H vs Q E hr ⟨m,st',as,r1,r2,q⟩=>?_,fm,kp,fb⟩;have C:COk (j7 (CXe P w) P w K mg base N x (ae st) f cdv A outer s H E).nox c Γ:=tR (E:=E) (H:=H) (outer:=outer) (Γ:=Γ) S hN hn hr G (fun z=>by rw[hpc] at z;cases z) fun k z=>by rw[hhm] at z;cases z
 refine⟨fun D σ H1=>TXx K ca (cw Γ ΓR code) D (fun C H'=>E (.ref C) none H') σ H1,fun pins s1 σ H1 D I w=>wpAny_mono (vM C GX rfl rfl rfl rfl rfl code _ hc pins s1 σ H1 D _ I w) (fun _ _ q=>q) fun e s' q=>BE q,m,frame N.length as,st',mq r1,r2,cK G.mono GX.mono code ?_ ?_ (h as st' _ q)⟩
 ·exact⟨fun ρ st2 k m' H' σ' e r f=>eR r2 k m' H' .non e r (R_non.mpr rfl),fun v st2 k=>eR r2 k,fun _ _ k=>k.elim,fun _ _ k=>k.elim⟩
 ·intro k st2 z m' H' e r;rcases z with z|z
  ·exact z m' H' e r
  ·obtain⟨st1,q,e2,r3,_⟩:=pI r2 e r (R_non.mpr rfl) z;exact q m H' e2 r3
theorem HasX.ok {k:Nat}{sp:FSp}(ms:∀as st Q Q',(∀v st,Q v st->Q' v st)->sp as st Q->sp as st Q')(h:HasX P w K mg base k x ps (jD K ca sp)):Has P w K mg base k x ps (dP K (okO sp)):=by
 obtain⟨f,fd,Fn,fm,fk,fb⟩:=h.ex;have imp:∀vs H Q E,dP K (okO sp) vs H Q E->jD K ca sp vs H Q E0:=fun vs H Q E ⟨m,st,as,r1,r2,q⟩=>⟨m,st,as,r1,r2,ms _ _ _ _ (cC (fun _ _ z=>z) fun _ _ z=>z.elim) q⟩;refine⟨f,fd,⟨fun vs H Q E q=>Fn.len vs H Q E0 (imp _ _ _ _ q),fun A outer s H args us vs Q E hr he hb hv hs=>codeAny_mono (Fn.run A outer s H args us vs Q E0 hr he hb hv (imp _ _ _ _ hs)) fun r s' z=>?_⟩,fm,fk,fb⟩;cases r with
 | error e =>obtain⟨_,_,_,_,_,_,_,_,_,_,z⟩:=z;exact z
 | ok fl=>cases fl <;> exact z
end
end FW
namespace FW
open L2 HX
noncomputable abbrev Cx.pin (X:Cx)(pins:List (Addr × Obj))(E:Value->Shared->Prop):Cx:={ X with pn:=X.pn++pins,xe:=E }
section
variable {X:Cx}{pins:List (Addr × Obj)}{σ:L2.St}{H:Hp}{s:Shared}{E:Value->Shared->Prop}
theorem Inv.pinned (I:L2.Inv X pins σ H s)(E:Value->Shared->Prop):L2.Inv (Cx.pin X pins E) [] σ H s :=
 ⟨⟨I.ok.mod,I.ok.kind,I.ok.glob,I.ok.blt,I.ok.above,I.ok.inj,I.ok.has,I.ok.cab,I.ok.hd,I.ok.frames,I.ok.stk,I.ok.exf,I.ok.bs,I.ok.bsz,I.ok.noex,I.ok.exfs,I.ok.funs,I.ok.frf⟩,I.os,I.bare,I.base,I.loc,I.cell,I.free,I.freeC,fun p hp=>I.pin p (by rw[Q7] at hp;exact hp),I.hok,I.len⟩
theorem Inv.unpin (I:L2.Inv (Cx.pin X pins E) ps σ H s):L2.Inv X pins σ H s :=
 ⟨⟨I.ok.mod,I.ok.kind,I.ok.glob,I.ok.blt,I.ok.above,I.ok.inj,I.ok.has,I.ok.cab,I.ok.hd,I.ok.frames,I.ok.stk,I.ok.exf,I.ok.bs,I.ok.bsz,I.ok.noex,I.ok.exfs,I.ok.funs,I.ok.frf⟩,I.os,I.bare,I.base,I.loc,I.cell,I.free,I.freeC,fun p hp=>I.pin p (QJ _ hp),I.hok,I.len⟩
theorem SP.unpin {D:L2.Ends}(h:SP (Cx.pin X pins E) ps D f s'):SP X pins D f s':=by
 cases f with
 | next=>obtain⟨σ',H',I,q⟩:=h;exact⟨σ',H',Inv.unpin I,q⟩
 | brk=>obtain⟨σ',H',I,q⟩:=h;exact⟨σ',H',Inv.unpin I,q⟩
 | cont=>obtain⟨σ',H',I,q⟩:=h;exact⟨σ',H',Inv.unpin I,q⟩
 | ret u=>obtain⟨v,σ',H',I,r,q⟩:=h;exact⟨v,σ',H',Inv.unpin I,r,q⟩
noncomputable abbrev Cx.hnd (X:Cx)(pins:List (Addr × Obj))(a:Addr)(o:Obj):Cx:={ X with A:=X.A.mark (some (.ref a)),calm:=false,pn:=(a,o)::(X.pn++pins),xe:=fun _ _=>False }
theorem Inv.hnd (I:L2.Inv X pins σ H s)(e:s.heap.get? a=some o)(n:H a=none)(hl:a≠X.env.locals)(hf:a ∉ X.fs)(hd:∀v,o.data≠.cell v):L2.Inv (Cx.hnd X pins a o) [] σ H s :=
 ⟨⟨I.ok.mod,I.ok.kind,I.ok.glob,I.ok.blt,I.ok.above,I.ok.inj,I.ok.has,I.ok.cab,(fun z=>by cases z),I.ok.frames,I.ok.stk,I.ok.exf,I.ok.bs,I.ok.bsz,I.ok.noex,I.ok.exfs,I.ok.funs,I.ok.frf⟩,I.os,I.bare,I.base,I.loc,I.cell,I.free,I.freeC,fun p hp=>by
  rw[Q7] at hp;rcases PQ.mp hp with rfl|hp
  ·exact⟨e,n,hl,hf,hd⟩
  ·exact I.pin p hp,I.hok,I.len⟩
theorem Inv.unhnd (ok:X.Ok)(I:L2.Inv (Cx.hnd X pins a o) ps σ H s):L2.Inv X pins σ H s :=
 ⟨ok,I.os,I.bare,I.base,I.loc,I.cell,I.free,I.freeC,fun p hp=>I.pin p (QJ _ (OV _ hp)),I.hok,I.len⟩
theorem E1 {M:Model}{i:Nat}{Q:Unit->Shared->Prop}(I:L2.Inv X pins σ H s)(hN:X.N.Nodup)(hi:X.N[i]?=some x)(hk:X.env.scope.names.lookup x=some .local)(hkk:X.env.kindOf x=some .local)(h:∀s',L2.Inv X pins (σ.set i none) H s'->Q () s'):wpAny M A (do bindName X.env x .none;unbindBehindTheSuite X.env x pos) Q E s:=by
 obtain⟨m,hn,hl⟩:=id I.loc;have hcls:(X.env.scope.kind == .class || (X.env.scope.kind == .module && X.env.locals != X.env.globals))=false:=by rw[I.ok.kind];rfl
 have cne:=I.cne;have tracked:∀ {a:Addr}{h':Heap},(∃o,s.heap.get? a=some o/\H a=none)->Heap.SameBut a s.heap h'->HOk X.prog X.w H h':=fun {a h'} ha hs b ob e=>by
  obtain⟨_,_,hfree⟩:=ha;refine(I.hok b ob e).stay (fun c w' hc q=>(hs.2 c ?_).trans q) (fun _ q=>q) fun _ _ q=>q;rintro rfl;rcases hc with rfl|hc
  ·rw[hfree] at e;cases e
  ·rw[hfree] at hc;cases hc
 refine wpAny_nameGoes_keeps hkk hn hcls fun h' v hn' hs=>?_;obtain⟨oL,_,_,hoL,_⟩:=id hn;refine h _ ⟨I.ok,I.os,I.bare,⟨fun b o e n hb hx=>?_,fun b o e n hb hx=>?_,I.base.free,fun b o e hx=>?_,I.base.tups,I.base.frzs,I.base.tbls⟩,⟨_,hn',fun j y v' e1 e2 e3=>?_⟩,fun y c e=>?_,I.free,I.freeC,fun p hp=>?_,tracked ⟨oL,hoL,I.free⟩ hs,by simpa using I.len⟩
 ·exact(hs.2 b (PN (OW (O3 e) I.ok.above))).trans (I.base.keep b o e n hb hx)
 ·obtain⟨sl,e1⟩:=I.base.slot b o e n hb hx;exact⟨sl,(hs.2 b (PN (OW (O3 e) I.ok.above))).trans e1⟩
 ·obtain⟨o',e1⟩:=I.base.there b o e hx;exact⟨o',(hs.2 b (PN (OW (O3 e) I.ok.above))).trans e1⟩
 ·by_cases hj:j=i
  ·subst hj;rw[S_] at e2;split at e2
   ·split at e2 <;> cases e2
   ·rename_i z;exact absurd rfl z
  ·rw[PR (Ne.symm hj)] at e2;obtain⟨u',r',q⟩:=hl j y v' e1 e2 e3;refine⟨u',r',?_⟩;rcases q with⟨k,e⟩|⟨k,c,e,z⟩
   ·refine .inl ⟨k,?_⟩;have:y≠x:=fun e=>hj (qg hN e1 (e ▸ hi));simp[this,e]
   ·exact .inr ⟨k,c,e,z.sameBut hs (cne y c e)⟩
 ·obtain⟨w',z⟩:=I.cell y c e;exact⟨w',z.sameBut hs (cne y c e)⟩
 ·obtain⟨e,n,ne,nf,d⟩:=I.pin p hp;exact⟨(hs.2 p.1 ne).trans e,n,ne,nf,d⟩
end
theorem wg {M:Model}{E:Value->Shared->Prop}{K:W.Frag}{s:Shared}{Q:Bool->Shared->Prop}(O:OwnCls x C i6 "ValueError.__new__" mg s.heap)(O':OwnCls y C' i6 "ValueError.__new__" mg s.heap)(he:s.heap.get? a=some oe)(hcls:oe.cls=.ref C)(hin:∀o cd,s.heap.get? C=some o->o.data=.cls cd->cd.mro.contains (.ref C')=true)(hq:Q true s):wpAny M A (excMatches (.ref a) (.ref C')) Q E s:=by
 obtain⟨bm,N,nm,qn,bs,hdct,sn,sub,ab,col,dd,k0,k1,k2,k3,k5,mN,hC,hN,hni,T⟩:=O.obj;obtain⟨bm',N',nm',qn',bs',hdct',sn',sub',ab',col',dd',l0,l1,l2,l3,l5,mN',hC',hN',hni',T'⟩:=O'.obj;have hcC:=hin _ _ hC rfl;dsimp only at hcC;have hcB:(Value.ref C'::bm').contains (.type "BaseException")=true:=by rw [List.contains_cons,T'.hasType PySem.F.excBase_ValueError.hasBase,Bool.or_true]
 have f:=tc_notTuple;obtain⟨h,g,d,t,os⟩:=s;unfold excMatches
 repeat (first|(with_reducible refine wpAny_loadPart_at he ?_;rw[hcls])|with_reducible refine wpAny_loadPart_at hC' ?_|(with_reducible refine wpAny_isSubtype_exc hC' ?_;rw[hcB])|(with_reducible refine wpAny_isSubtype_exc hC ?_;rw[hcC])|wp_step)
 exact hq
theorem CS {X:Cx}{pins:List (Addr × Obj)}{σ:L2.St}{H1:Hp}{s1 s':Shared}{Wx:Addr->Hp->Prop}{e:Value}{D:L2.Ends}{Ex:Value->Shared->Prop}{y n:Str}{j:Nat}{C':Addr}{b₀:Stmt}{suite:List Stmt}{np pos:Pos}{rest:List ExceptHandler}
  (I:L2.Inv X pins σ H1 s1) (q:CXe X.prog X.w X.stack H1 s1 (fun v _ H'=>∃C,v=.ref C/\Wx C H') e s') (hst:X.stack=X.env::X.outer) (hfr:X.env.frame=some X.env.locals)
  (hg:Gl X y) (hdb:(y == ("__debug__":Str))=false) (hy:X.mg y=some (.ref C')) (hy2:W.excIn X.K C' i6 "ValueError.__new__"=true)
  (hW:∀C H',Wx C H'->∃x,X.mg x=some (.ref C)/\W.excIn X.K C i6 "ValueError.__new__"=true/\∃o cd,X.K.lookup C=some o/\o.data=.cls cd/\cd.mro.contains (.ref C')=true)
  (hN:X.N.Nodup) (hj:X.N[j]?=some n) (hk:X.env.scope.names.lookup n=some .local) (hkk:X.env.kindOf n=some .local)
  (hs:∀a C H' o s2,Wx C H'->o.cls=.ref C->L2.Inv (Cx.hnd X pins a o) [] (σ.set j (some (.ref a))) H' s2->wpAny (model X.prog X.w) (X.A.mark (some (.ref a))) (execs (b₀::suite) X.env) (SP (Cx.hnd X pins a o) [] { nx:=fun σ' H''=>D.nx (σ'.set j none) H'',rt:=fun _ _=>False }) (fun _ _=>False) s2) :
  wpAny (model X.prog X.w) X.A (noteFrame e X.env) (fun _ s₂=>wpAny (model X.prog X.w) X.A (setFlight e none) (fun _ s₃=>wpAny (model X.prog X.w) X.A (handleBy e X.env (.ExceptHandler (some (.Name y np)) (some n) (b₀::suite) pos::rest)) (SP X pins D) Ex s₃) Ex s₂) Ex s':=by
 obtain⟨a,C,H',rfl,os,bare,sz,un,hok,fl,C0,hC0,wq⟩:=q;cases hC0;have I':L2.Inv X pins σ H' s':=I.call' (ch:=[]) os un hok bare fun b z=>by cases z
 have aL:a≠X.env.locals:=fun z=>by obtain⟨m,⟨o,_,_,ho,_⟩,_⟩:=I.loc;have:=fl.ge;rw[z,ho] at this;cases this
 have aF:a ∉ frs X.stack:=fun z=>by obtain⟨_,o,ho,_⟩:=I.stack.mem z;have:=fl.ge;rw[ho] at this;cases this
 have aF':a ∉ X.fs:=fun z=>aF (by rw[hst];exact Q2.mpr (by obtain⟨v,h1,h2⟩:=Q2.mp z;exact⟨v,OV _ h1,h2⟩));refine vJ (P:=X.prog) (w:=X.w) (n:=s1.heap) (base:=X.base) (env:=X.env) (outer:=X.outer) (fv:=none) (by rw[<-hst];exact I'.ok.frames) (by rw[<-hst];exact I'.stack) hfr (by rw[<-hst];exact I'.stkFree) hok sz fl.up fun h2 nt=>?_;obtain⟨⟨ch,hch,un2⟩,hok2,fl2,sz2⟩:=nt;rw[<-hst] at un2;have un3:Un (frs X.stack) [] H1 H' s1.heap h2:=Un.noted un un2 (fun _ _ _ z=>z) (fun _ z=>z) fun c hc=>(hch c hc).1;have I2:L2.Inv X pins σ H' { s' with heap:=h2 }:=I.call' (s':={ s' with heap:=h2 }) (ch:=[]) os un3 hok2 bare fun b z=>by cases z
 obtain⟨oe,vs,he,hc,hd,_⟩:=id fl2.obj;have nc:∀v,oe.data≠.cell v:=fun v z=>by rw[hd] at z;cases z
 have J2:=Inv.hnd I2 he fl2.fr aL aF' nc;obtain⟨x,hx,hx2,o,cd,hKl,hcd,hmro⟩:=hW C H' wq;refine wpAny_handleBy_cons (codeAny_handlers_test (jK (X:=Cx.hnd X pins a oe) J2 hg hy ?_ hdb)) (by intro q;cases q);refine wg (K:=X.K) (mg:=X.mg) (x:=x) (y:=y) (ug I2.kIn hx hx2) (ug I2.kIn hy hy2) he hc (fun o' cd' e1 e2=>?_) ?_
 ·have:=I2.kIn _ _ hKl;rw[this] at e1;cases e1;rw[hcd] at e2;cases e2;exact hmro
 show codeAny _ _ _ _ _;refine codeAny_handlers_suite_as ?_;refine jN (P:=X.prog) (w:=X.w) (fs:=frs X.stack) (n:=s1.heap) (fv:=none) (fun b z=>?_) hok2 fl2 fun h3 nt3=>?_
 ·obtain⟨_,o,ho,hnf⟩:=I2.stack.mem z;exact⟨o,ho,hnf⟩
 obtain⟨⟨ch3,hch3,un4⟩,hok3,fl3,sz3⟩:=nt3;have un5:Un (frs X.stack) [] H1 H' s1.heap h3:=Un.noted un3 un4 (fun _ _ _ z=>z) (fun _ z=>z) fun c hc=>(hch3 c hc).1;have I3:L2.Inv X pins σ H' { s' with heap:=h3 }:=I.call' (s':={ s' with heap:=h3 }) (ch:=[]) os un5 hok3 bare fun b z=>by cases z
 obtain⟨oe3,vs3,he3,hc3,hd3,_⟩:=id fl3.obj;have nc3:∀v,oe3.data≠.cell v:=fun v z=>by rw[hd3] at z;cases z
 have J3:=Inv.hnd I3 he3 fl3.fr aL aF' nc3;refine gj (X:=Cx.hnd X pins a oe3) (v:=.ref a) J3 hN hj (.inl hk) rfl (fun s4 J4=>?_) (.inr hk);refine wpAny_mono (hs a C H' oe3 s4 wq hc3 J4) (fun f s5 z=>?_) fun _ _ z=>False.elim z;cases f with
 | next =>obtain⟨σ5,H5,J5,z⟩:=z;exact E1 (Inv.unhnd I3.ok J5) hN hj hk hkk fun s6 I6=>⟨_,_,I6,z⟩
 | brk=>obtain⟨_,_,_,z⟩:=z;exact False.elim z
 | cont=>obtain⟨_,_,_,z⟩:=z;exact False.elim z
 | ret u=>obtain⟨_,_,_,_,_,z⟩:=z;exact False.elim z
end FW
namespace FW
open L2 HX
open PySem.W (findIn mroIn typeIn clsIn looks_findIn looks_mroIn looks_typeIn)
structure XCl (K:W.Frag)(C:Addr):Prop where
 ga:findIn K (.ref C) "__getattribute__"=some (some (.builtin "BaseException.__getattribute__"))
 gt:findIn K (.ref C) "__getattr__"=some none
 cl:findIn K (.ref C) "__class__"=some (some (.builtin "object.__class__"))
 ob:mroIn K C (.type "object")=some true
 be:mroIn K C (.type "BaseException")=some true
 ty:typeIn K (.ref C)=some (.type "type")
 cd:∃cd,clsIn K C=some cd
section
variable {prog:Program}{w:World}{A:Around}{E:Value->Shared->Prop}{h:Heap}{g:Array GenState}{d:Drawn}{t:Nat}{os:OsState}{a C:Addr}{o:Obj}{K:W.Frag}
theorem EH {R:Result->Shared->Prop}(X:K.In h)(F:XCl K C)(hx:h.get? a=some o)(hc:o.cls=.ref C)(hq:R (.ok (.ret (.ref C))) ⟨h,g,d,t,os⟩) :
  codeAny (model prog w) A (.call (.builtin "getset_descriptor.__get__") ⟨[.builtin "object.__class__",.ref a,.ref C],[]⟩) R ⟨h,g,d,t,os⟩:=by
 have hT5:(⟨h,g,d,t,os⟩:Shared).TypeIs (.builtin "object.__class__") "getset_descriptor":=RT;have L:W.Looks (model prog w) h (isSubtype (.ref C) (.type (".".intercalate ("object.__class__".cutAt '.').dropLast))) true:=by rw [PySem.F.owner_object_class];exact looks_mroIn X F.ob
 refine codeAny_call_builtin PySem.F.slot_gs_get.plain PySem.F.entry_gs_get (PySem.F.slot_gs_get.check _ _ _ _ _ _ _ _ hT5 (PySem.F.args_gs_get _ _ _) ?_)
 repeat (any_goals (first|assumption|(with_reducible refine wpAny_loadPart_at hx ?_;rw[hc])|with_reducible refine QZ L ?_|wp_step))
 refine⟨Code.quiet_builtin _ (by decide +kernel),codeAny_builtin PySem.F.entry_object_class ?_⟩
 repeat (any_goals (first|assumption|(with_reducible refine wpAny_loadPart_at hx ?_;rw[hc])|wp_step))
theorem zZ {Q:Fin->Shared->Prop}(X:K.In h)(F:XCl K C)(hx:h.get? a=some o)(hc:o.cls=.ref C)(hq:Q (.done (.ret (.ref C))) ⟨h,g,d,t,os⟩) :
  wpAny (model prog w) A (Builtin.«object.__getattribute__» ⟨[.ref a,.str "__class__" tk],[]⟩) Q E ⟨h,g,d,t,os⟩:=by
 have hT5:(⟨h,g,d,t,os⟩:Shared).TypeIs (.builtin "object.__class__") "getset_descriptor":=RT;have L:=looks_findIn (M:=model prog w) X F.cl;have f5:=RT;have f6:=PySem.F.slot_gs_get.lookup;have f7:=PySem.F.slot_gs_set.lookup
 repeat (any_goals (first|assumption|(with_reducible refine wpAny_loadPart_at hx ?_;rw[hc])|with_reducible refine QZ L ?_|wp_step))
 refine EH X F hx hc ?_
 repeat (any_goals (first|assumption|wp_step))
theorem Ai {M:Model}{Q:Unit->Shared->Prop}(X:K.In h)(F:XCl K C)(hx:h.get? a=some o)(hc:o.cls=.ref C)(hq:Q () ⟨h,g,d,t,os⟩):wpAny M A (checkBuiltinCall "BaseException.__getattribute__" ⟨[.ref a,nameV],[]⟩) Q E ⟨h,g,d,t,os⟩:=by
 have hk:builtinKind "BaseException.__getattribute__"=some .slot:=by decide +kernel
 have hsplit:splitId "BaseException.__getattribute__"=some ("BaseException","__getattribute__"):=by decide +kernel
 have L:=looks_mroIn (M:=M) X F.be;have ha:=PySem.F.args_bexc_ga (.ref a) nameV;simp only[checkBuiltinCall,hk,hsplit];refine OP ?_;unfold isInstance
 repeat (first|(with_reducible refine wpAny_loadPart_at hx ?_;rw[hc])|with_reducible refine QZ L ?_|wp_step)
 exact hq
theorem BU {R:Result->Shared->Prop}(X:K.In h)(F:XCl K C)(hx:h.get? a=some o)(hc:o.cls=.ref C)(hq:R (.ok (.ret (.ref C))) ⟨h,g,d,t,os⟩) :
  codeAny (model prog w) A (.call (.builtin "BaseException.__getattribute__") ⟨[.ref a,.str "__class__" tk],[]⟩) R ⟨h,g,d,t,os⟩ :=
 codeAny_call_builtin PySem.F.attrBase_ValueError.ga.plain PySem.F.entry_bexc_ga (Ai X F hx hc (zZ X F hx hc hq))
theorem IS {Q:Value->Shared->Prop}(X:K.In h)(F:XCl K C)(hx:h.get? a=some o)(hc:o.cls=.ref C)(hq:Q (.ref C) ⟨h,g,d,t,os⟩) :
  wpAny (model prog w) A (getAttrBy (.ref a) (.str "__class__" tk) false) Q E ⟨h,g,d,t,os⟩:=by
 have f3:=PySem.F.attrBase_ValueError.ga.bind (.ref a);have hx2:(Value.builtin "BaseException.__getattribute__" == Value.builtin "object.__getattribute__")=false:=by decide +kernel
 have hx1:(onTheHeap (Value.ref C) && Value.builtin "BaseException.__getattribute__" == Value.builtin "object.__getattribute__")=false:=by rw [hx2];rfl
 have L1:=looks_findIn (M:=model prog w) X F.ga;have L2:=looks_findIn (M:=model prog w) X F.gt
 repeat (any_goals (first|assumption|(with_reducible refine wpAny_loadPart_at hx ?_;rw[hc])|with_reducible refine QZ L1 ?_|with_reducible refine QZ L2 ?_|wp_step))
 refine BU X F hx hc ?_
 repeat (any_goals (first|assumption|wp_step))
theorem DF {Q:Option Value->Shared->Prop}(X:K.In h)(F:XCl K C)(hx:h.get? a=some o)(hc:o.cls=.ref C)(hq:Q (some (.ref C)) ⟨h,g,d,t+1,os⟩):wpAny (model prog w) A (getAttr? (.ref a) "__class__") Q E ⟨h,g,d,t,os⟩:=by
 unfold getAttr? getAttrBy?
 repeat (any_goals (first|assumption|with_reducible apply IS X F hx hc|wp_step))
theorem sy {dep:Int}{Q:Fin->Shared->Prop}(X:K.In h)(F:XCl K C)(F':XCl K C')(hx:h.get? a=some o)(hc:o.cls=.ref C)(hn:mroIn K C (.ref C')=some false)(hne:C≠C')(hq:Q (.done (.ret (.bool false))) ⟨h,g,d,t+1,os⟩) :
  wpAny (model prog w) A (Builtin.«isinstance.nested» ⟨[.ref a,.ref C',.int dep tk],[]⟩) Q E ⟨h,g,d,t,os⟩:=by
 have hne':(Value.ref C == Value.ref C')=false:=by simpa using hne
 have L1:=looks_typeIn (M:=model prog w) X F'.ty;have L2:=looks_mroIn (M:=model prog w) X hn;obtain⟨cd',e'⟩:=F'.cd;obtain⟨cd,e⟩:=F.cd;unfold clsIn at e e';split at e'
 rotate_left
 ·cases e'
 split at e
 rotate_left
 ·cases e
 rename_i c1 d1 k1 sl1 hl1 _ c2 d2 k2 sl2 hl2;have ho1:=X _ _ hl1;have ho2:=X _ _ hl2
 repeat (any_goals (first|assumption|(with_reducible refine wpAny_loadPart_at hx ?_;rw[hc])|with_reducible refine QZ L1 ?_|with_reducible refine QZ L2 ?_|with_reducible apply DF X F hx hc|wp_step))
theorem wX {dep:Int}{Q:Fin->Shared->Prop}(X:K.In h)(F':XCl K C')(hx:h.get? a=some o)(hc:o.cls=.ref C)(hn:mroIn K C (.ref C')=some true)(hq:Q (.done (.ret (.bool true))) ⟨h,g,d,t,os⟩) :
  wpAny (model prog w) A (Builtin.«isinstance.nested» ⟨[.ref a,.ref C',.int dep tk],[]⟩) Q E ⟨h,g,d,t,os⟩:=by
 have L1:=looks_typeIn (M:=model prog w) X F'.ty;have L2:=looks_mroIn (M:=model prog w) X hn;obtain⟨cd',e'⟩:=F'.cd;unfold clsIn at e';split at e'
 rotate_left
 ·cases e'
 rename_i c1 d1 k1 sl1 hl1;have ho1:=X _ _ hl1;by_cases hne:C=C'
 ·subst hne;have hne':(Value.ref C == Value.ref C)=true:=by simp
  repeat (any_goals (first|assumption|(with_reducible refine wpAny_loadPart_at hx ?_;rw[hc])|wp_step))
 ·have hne':(Value.ref C == Value.ref C')=false:=by simpa using hne
  repeat (any_goals (first|assumption|(with_reducible refine wpAny_loadPart_at hx ?_;rw[hc])|with_reducible refine QZ L1 ?_|with_reducible refine QZ L2 ?_|wp_step))
theorem Cb {T:String}{dep:Int}{Q:Fin->Shared->Prop}(X:K.In h)(hx:h.get? a=some o)(hc:o.cls=.ref C)(hn:mroIn K C (.type T)=some true)(hty:typeOf (.type T)=pure (.type "type"))(hq:Q (.done (.ret (.bool true))) ⟨h,g,d,t,os⟩) :
  wpAny (model prog w) A (Builtin.«isinstance.nested» ⟨[.ref a,.type T,.int dep tk],[]⟩) Q E ⟨h,g,d,t,os⟩:=by
 have L2:=looks_mroIn (M:=model prog w) X hn;have hne':(Value.ref C == Value.type T)=false:=by simp
 repeat (any_goals (first|assumption|(with_reducible refine wpAny_loadPart_at hx ?_;rw[hc])|with_reducible refine QZ L2 ?_|wp_step))
theorem Eu {P:Shared->Prop}(hP:∀s tk,P s->P { s with toks:=tk }){tp:Addr}{n:Nat}{cs:List Value}{s:Shared}{Q:Fin->Shared->Prop}(hx:s.heap.get? a=some o)(hc:o.cls=.ref C)(hne:C≠tp)(htp:s.heap.get? tp=some ob)(hcl:ob.cls=.type "tuple")(hdt:ob.data=.seq cs.toArray n)(ha:AnswersAll P (.ref a) cs vs)(hs:P s)(hq:∀tk',Q (.done (.ret (.bool (vs.any id)))) { s with toks:=tk' }):wpAny (model prog w) A (Builtin.«isinstance.nested» ⟨[.ref a,.ref tp,.int 0 tk],[]⟩) Q E s:=by
 obtain⟨h,g,d,t,os⟩:=s;have hT2:(⟨h,g,d,t,os⟩:Shared).TypeIs (.ref tp) "tuple":=⟨_,htp,hcl⟩;have f1:=PySem.F.isi_sub_tuple;have hne':(Value.ref C == Value.ref tp)=false:=by simpa using hne
 repeat (any_goals (first|assumption|(with_reducible refine wpAny_loadPart_at hx ?_;rw[hc])|with_reducible refine wpAny_seqItems htp hdt ?_|wp_step))
 refine wpAny_arrayLoop ?_;simp only[Option.getD_some,List.toList_toArray];refine isinstance_items (dep:=0) hP cs vs _ _ ha hs fun tk'=>?_;cases hv:vs.any id with
 | true =>
  simp only[if_true]
  repeat (any_goals (first|assumption|wp_step))
  exact hv ▸ hq tk'
 | false =>
  simp only[Bool.false_eq_true,if_false]
  repeat (any_goals (first|assumption|wp_step))
  exact hv ▸ hq tk'
variable {s:Shared}{Q:Value->Shared->Prop}
theorem uv (X:K.In s.heap)(F':XCl K C')(hx:s.heap.get? a=some o)(hc:o.cls=.ref C)(hn:mroIn K C (.ref C')=some true)(hq:Q (.bool true) s):wpAny (model prog w) A (call (.builtin "isinstance") [.ref a,.ref C']) Q E s :=
 call_isinstance (S:=fun _ R s=>(K.In s.heap/\s.heap.get? a=some o)/\R (.ok (.ret (.bool true))) s) (fun _ _ _ _ s hs=>by obtain⟨h,g,d,t,os⟩:=s;exact isinstance_outer (wX hs.1.1 F' hs.1.2 hc hn hs.2) (by intro e;cases e)) ⟨⟨X,hx⟩,hq⟩
theorem rV {T:String}(X:K.In s.heap)(hx:s.heap.get? a=some o)(hc:o.cls=.ref C)(hn:mroIn K C (.type T)=some true)(hty:typeOf (.type T)=pure (.type "type"))(hq:Q (.bool true) s):wpAny (model prog w) A (call (.builtin "isinstance") [.ref a,.type T]) Q E s :=
 call_isinstance (S:=fun _ R s=>(K.In s.heap/\s.heap.get? a=some o)/\R (.ok (.ret (.bool true))) s) (fun _ _ _ _ s hs=>by obtain⟨h,g,d,t,os⟩:=s;exact isinstance_outer (Cb hs.1.1 hs.1.2 hc hn hty hs.2) (by intro e;cases e)) ⟨⟨X,hx⟩,hq⟩
def PIs (K:W.Frag)(a:Addr)(o:Obj)(s:Shared):Prop:=K.In s.heap/\s.heap.get? a=some o
theorem IR (F:XCl K C)(F':XCl K C')(hc:o.cls=.ref C)(hn:mroIn K C (.ref C')=some false)(hne:C≠C'):Answers (PIs K a o) (.ref a) (.ref C') false:=fun _ _ _ _ _ _ s hs=>by obtain⟨h,g,d,t,os⟩:=s;exact sy hs.1.1 F F' hs.1.2 hc hn hne (hs.2 (t+1))
theorem tX {tp:Addr}{n:Nat}{cs:List Value}(X:K.In s.heap)(hx:s.heap.get? a=some o)(hc:o.cls=.ref C)(hne:C≠tp)(htp:s.heap.get? tp=some ob)(hcl:ob.cls=.type "tuple")(hdt:ob.data=.seq cs.toArray n)(ha:AnswersAll (PIs K a o) (.ref a) cs vs)(hq:∀tk,Q (.bool (vs.any id)) { s with toks:=tk }):wpAny (model prog w) A (call (.builtin "isinstance") [.ref a,.ref tp]) Q E s :=
 call_isinstance (S:=fun _ R s=>(PIs K a o s/\s.heap.get? tp=some ob)/\∀tk,R (.ok (.ret (.bool (vs.any id)))) { s with toks:=tk }) (fun _ _ _ _ s hs=>isinstance_outer (Eu (fun _ _ z=>z) hs.1.1.2 hc hne hs.1.2 hcl hdt ha hs.1.1 hs.2) (by intro e;cases e)) ⟨⟨⟨X,hx⟩,htp⟩,hq⟩
end
end FW
namespace FW
open L2 HX
open PySem.W (findIn mroIn typeIn clsIn)
structure XT (K:W.Frag)(mg:Str->Option Value)(xs ys:List Str)(ca da:Nat->Addr)(rel:Nat->Nat->Bool):Prop where
 y:∀i x,ys[i]?=some x->mg x=some (.ref (da i))/\XCl K (da i)
 x:∀k,k<xs.length->XCl K (ca k)/\mroIn K (ca k) (.type "ValueError")=some true
 rl:∀k i,k<xs.length->i<ys.length->mroIn K (ca k) (.ref (da i))=some (rel k i)/\(rel k i=false->ca k≠da i)
inductive HA where
 | str (x:Str)|bl (b:Bool)|var (i:Nat)|isv|iso (i:Nat)|isos (is:List Nat)
inductive HT where
 | is (a:HA)|no (a:HA)|both (a b:HA)
inductive HS where
 | set (i:Nat) (a:HA)|setT (i:Nat) (as:List HA)|guard (t:HT) (a:HS)
noncomputable def hv (rel:Nat->Bool)(ρ:Fr):HA->Option PV
 | .str x=>some (.str x)
 | .bl b=>some (.bl b)
 | .var i=>ρ[i]?.join
 | .isv=>some (.bl true)
 | .iso i=>some (.bl (rel i))
 | .isos is=>some (.bl (is.any rel))
noncomputable def hvs (rel:Nat->Bool)(ρ:Fr):List HA->Option (List PV)
 | []=>some []
 | a::as=>match hv rel ρ a,hvs rel ρ as with
  | some v,some vs=>some (v::vs)
  | _,_=>none
noncomputable def hb (rel:Nat->Bool):HA->Bool
 | .isv=>true
 | .iso i=>rel i
 | .isos is=>is.any rel
 | _=>false
noncomputable def isT:HA->Bool
 | .isv=>true
 | .iso _=>true
 | .isos _=>true
 | _=>false
noncomputable def ht (rel:Nat->Bool):HT->Bool
 | .is a=>hb rel a
 | .no a=>!hb rel a
 | .both a b=>hb rel a && hb rel b
theorem JZ {rel:Nat->Bool}(h:isT a=true):hv rel ρ a=some (.bl (hb rel a)):=by cases a <;> first|rfl|cases h
noncomputable def qP (rel:Nat->Bool):HS->Fr->Option Fr
 | .set i a,ρ=>match hv rel ρ a with
  | some v=>some (ρ.set i (some v))
  | none=>none
 | .setT i as,ρ=>match hvs rel ρ as with
  | some vs=>some (ρ.set i (some (.tup vs)))
  | none=>none
 | .guard t a,ρ=>if ht rel t=true then qP rel a ρ else some ρ
noncomputable def yg (rel:Nat->Bool):List HS->Fr->Option Fr
 | [],ρ=>some ρ
 | a::r,ρ=>match qP rel a ρ with
  | some ρ'=>yg rel r ρ'
  | none=>none
noncomputable def zw (x:Expr)(f:Str->Str->Expr->Bool):Bool:=jQ x fun g as=>on2 as fun e r=>av e fun y _=>f g y r
theorem fN (h:zw x f=true):∃g gp e ep r p,x=.Call (.Name g gp) [.Name e ep,r] [] p/\f g e r=true:=by replace h:=eN h;obtain⟨g,gp,as,cp,rfl,h⟩:=h;replace h:=fw h;obtain⟨a,r,rfl,h⟩:=h;replace h:=ah h;obtain⟨y,q,rfl,h⟩:=h;exact⟨_,_,_,_,_,_,rfl,h⟩
noncomputable def Bk (c:Cfg)(ys:List Str):List Nat->List Expr->Bool
 | [],xs=>xs.isEmpty
 | i::is,xs=>cR xs fun x r=>av x fun z _=>ys[i]? == some z && c.glb z && Bk c ys is r
noncomputable def u9 (c:Cfg)(ys:List Str)(j:Nat):HA->Expr->Bool
 | .str i,x=>oz x fun j=>i == j
 | .bl i,x=>Ja x fun j=>i == j
 | .var i,x=>av x fun y _=>c.N[i]? == some y && c.vis y
 | .isv,x=>zw x fun g e r=>av r fun z _=>g == ("isinstance":Str) && c.blt g && c.N[j]? == some e && c.vis e && z == ("ValueError":Str) && c.blt z
 | .iso i,x=>zw x fun g e r=>av r fun z _=>g == ("isinstance":Str) && c.blt g && c.N[j]? == some e && c.vis e && ys[i]? == some z && c.glb z
 | .isos is,x=>zw x fun g e r=>dN r fun zs=>g == ("isinstance":Str) && c.blt g && c.N[j]? == some e && c.vis e && decide (is.length<=1000) && Bk c ys is zs
noncomputable def B4 (c:Cfg)(ys:List Str)(j:Nat):List HA->List Expr->Bool
 | [],xs=>xs.isEmpty
 | a::as,xs=>cR xs fun x r=>ak x && u9 c ys j a x && B4 c ys j as r
noncomputable def BD (c:Cfg)(ys:List Str)(j:Nat):HT->Expr->Bool
 | .is a,x=>isT a && u9 c ys j a x
 | .no a,x=>yX x fun y=>isT a && u9 c ys j a y
 | .both a b,x=>yW x fun o xs=>o == .And && on2 xs fun y z=>isT a && isT b && u9 c ys j a y && u9 c ys j b z
noncomputable def Dt (c:Cfg)(ys:List Str)(j:Nat):HS->Stmt->Bool
 | .set i a,x=>om x fun t v=>av t fun y _=>c.N[i]? == some y && c.loc y && i != j && nW v && u9 c ys j a v
 | .setT i as,x=>om x fun t v=>av t fun y _=>c.N[i]? == some y && c.loc y && i != j && dN v fun vs=>decide (as.length<=1000) && B4 c ys j as vs
 | .guard t a,x=>Fg x fun y ss zs=>BD c ys j t y && zs.isEmpty && on1 ss fun s=>Dt c ys j a s
noncomputable def u7 (c:Cfg)(ys:List Str)(j:Nat):List HS->List Stmt->Bool
 | [],xs=>xs.isEmpty
 | a::as,xs=>cR xs fun x r=>Dt c ys j a x && u7 c ys j as r
section
variable {X:Cx}{c:Cfg}{Γ:Nat->FSp}{xs ys:List Str}{ca da:Nat->Addr}{rel:Nat->Nat->Bool}{k j:Nat}{pins:List (Addr × Obj)}{ad:Addr}{o:Obj}
theorem KF:typeOf (.type "ValueError")=pure (.type "type"):=by first|rfl|(simp[typeOf];rfl)|kernel_rfl
theorem EZ:bootBuiltins ("ValueError":Str)=some (.type "ValueError"):=by decide +kernel
noncomputable def THx (K:W.Frag)(j:Nat)(ad:Addr)(f:Fr->Option PV):TE:=fun σ H Q=>σ[j]?=some (some (.ref ad))/\∃m ρ st v,RF K m H ρ σ/\RH K m H st/\f ρ=some v/\post K m H Q v st
noncomputable def THs (K:W.Frag)(j:Nat)(ad:Addr)(f:Fr->Option (List PV)):TA:=fun σ H Q=>σ[j]?=some (some (.ref ad))/\∃m ρ st v,RF K m H ρ σ/\RH K m H st/\f ρ=some v/\GB K m H Q v st
theorem GD (C:COk X.nox c Γ)(T:XT X.K X.mg xs ys ca da rel):∀(is:List Nat) (zs:List Expr),Bk c ys is zs=true->PA (Cx.hnd X pins ad o) zs (fun σ H Q=>Q (is.map fun i=>.ref (da i)) H)/\∀i∈is,i<ys.length
 | [],zs,h=>by
  have h:zs.isEmpty=true:=h;cases zs with
  | nil=>exact⟨bX,fun i z=>by cases z⟩
  | cons _ _=>cases h
 | i::is,zs,h=>by
  replace h:=ar h;obtain⟨x,r,rfl,h⟩:=h;replace h:=ah h;obtain⟨z,p,rfl,h⟩:=h;simp only[Bool.and_eq_true,beq_iff_eq] at h;obtain⟨⟨h1,h2⟩,h3⟩:=h;obtain⟨g1,g2,g3⟩:=C.glbx h2;obtain⟨a1,a2⟩:=GD C T is r h3;refine⟨pac (uC (X:=Cx.hnd X pins ad o) (v:=.ref (da i)) g1 (T.y i z h1).1 rfl g2) a1 rfl,fun i' hi=>?_⟩;rcases PQ.mp hi with rfl|hi
  ·exact(OT.mp h1).1
  ·exact a2 i' hi
theorem s_ {f:Nat->Addr}:∀ {is:List Nat}{us:List Value},Vals (is.map fun i=>V.ref (f i)) us->us=is.map fun i=>Value.ref (f i)
 | [],us,r=>by cases r;rfl
 | i::is,us,r=>by
  cases r with
  | cons a b =>rw[s_ b];cases (show _=Value.ref (f i) from a);rfl
theorem qr {f:Nat->Addr}{g:Nat->Bool}(hc:o.cls=.ref C)(F:XCl K C):∀(is:List Nat),(∀i∈is,XCl K (f i)/\mroIn K C (.ref (f i))=some (g i)/\(g i=false->C≠f i))->AnswersAll (PIs K ad o) (.ref ad) (is.map fun i=>.ref (f i)) (is.map g)
 | [],_=>trivial
 | i::is,h=>by
  refine⟨?_,qr hc F is fun i' hi=>h i' (OV _ hi)⟩;obtain⟨h1,h2,h3⟩:=h i (.head _);cases q:g i with
  | false=>rw[q] at h2;exact IR F h1 hc h2 (h3 q)
  | true =>
   rw[q] at h2;exact fun _ _ _ _ _ _ s hs=>by obtain⟨h,g,d,t,os⟩:=s;exact wX hs.1.1 h1 hs.1.2 hc h2 (hs.2 t)
theorem DO (C:COk X.nox c Γ)(T:XT X.K X.mg xs ys ca da rel)(hk:k<xs.length)(hc:o.cls=.ref (ca k)):∀(a:HA) (x:Expr),u9 c ys j a x=true->PE (Cx.hnd X pins ad o) x (THx X.K j ad fun ρ=>hv (rel k) ρ a)
 | .str i,x,h=>by replace h:=iy h;obtain⟨j,q,p,rfl,h⟩:=h;rw[R8] at h;subst h;rintro pins s σ H Q I ⟨_,m,ρ,st,v,rf,rh,e,w⟩;cases e;exact qv pins s σ H Q I (w.here rh (R_str.mpr rfl))
 | .bl i,x,h=>by replace h:=wH h;obtain⟨j,q,p,rfl,h⟩:=h;rw[R8] at h;subst h;rintro pins s σ H Q I ⟨_,m,ρ,st,v,rf,rh,e,w⟩;cases e;exact Gy pins s σ H Q I (w.here rh (R_bl.mpr rfl))
 | .var i,x,h=>by
  replace h:=ah h;obtain⟨y,p,rfl,h⟩:=h;simp only[Bool.and_eq_true,beq_iff_eq] at h;obtain⟨h1,h2,h3⟩:=C.visx h.2;rintro ps s σ H Q I ⟨_,m,ρ,st,v,rf,rh,e,w⟩;have e':ρ[i]?=some (some v):=by
   have e:ρ[i]?.join=some v:=e;cases z:ρ[i]? with
   | none=>rw[z] at e;cases e
   | some u=>rw[z] at e;cases u with
    | none=>cases e
    | some u=>rw[show u=v from P4 e]
  obtain⟨y,e2,r⟩:=rf.at_ i v e';exact n5 (X:=Cx.hnd X pins ad o) (by have:=C.N;exact(PU (fun l=>l[i]?) this).trans h.1) h1 h2 h3 ps s σ H Q I ⟨y,e2,w.here rh r⟩
 | .isv,x,h=>by
  replace h:=fN h;obtain⟨g,gp,e,ep,r,p,rfl,h⟩:=h;replace h:=ah h;obtain⟨z,zp,rfl,h⟩:=h;simp only[Bool.and_eq_true,beq_iff_eq] at h;obtain⟨⟨⟨⟨⟨h1,h2⟩,h3⟩,h4⟩,h5⟩,h6⟩:=h;subst h1 h5;obtain⟨a1,a2,a3,a4⟩:=C.bltx h2;obtain⟨b1,b2,b3,b4⟩:=C.bltx h6;obtain⟨v1,v2,v3⟩:=C.visx h4;rintro ps s σ H Q I ⟨hj,m,ρ,st,v,rf,rh,e,w⟩;cases e;have hA:PA (Cx.hnd X pins ad o) [.Name _ ep,.Name ("ValueError":Str) zp] (cy (Ds j) (cy (tC (.ty "ValueError")) kb)):=pac (n5 (X:=Cx.hnd X pins ad o) (by have:=C.N;exact (PU (fun l=>l[j]?) this).trans h3) v1 v2 v3) (pac (yO (X:=Cx.hnd X pins ad o) b1 b4 EZ rfl b3 b2) bX rfl) rfl;have hC:dG (Cx.hnd X pins ad o) (.builtin "isinstance") (fun xs H Q=>xs=[.ref ad,.ty "ValueError"]/\Q (.bl true) H):=by rintro ps s σ H xs us Q I r ⟨rfl,q⟩;obtain⟨u,v,rfl,ru,rv⟩:=oa r;cases (show u=Value.ref ad from ru);cases (show v=Value.type "ValueError" from rv);exact rV (K:=X.K) I.kIn (I.pin (ad,o) (.head _)).1 hc (T.x k hk).2 KF ⟨.bl true,H,I,rfl,q⟩
  refine iq (X:=Cx.hnd X pins ad o) hC a1 a4 gG hA a3 a2 rfl rfl ps s σ H Q I ?_;exact⟨.ref ad,hj,rfl,w.here rh (R_bl.mpr rfl)⟩
 | .iso i,x,h=>by
  replace h:=fN h;obtain⟨g,gp,e,ep,r,p,rfl,h⟩:=h;replace h:=ah h;obtain⟨z,zp,rfl,h⟩:=h;simp only[Bool.and_eq_true,beq_iff_eq] at h;obtain⟨⟨⟨⟨⟨h1,h2⟩,h3⟩,h4⟩,h5⟩,h6⟩:=h;subst h1;obtain⟨a1,a2,a3,a4⟩:=C.bltx h2;obtain⟨b1,b2,b3⟩:=C.glbx h6;obtain⟨v1,v2,v3⟩:=C.visx h4;have hi:=(OT.mp h5).1;rintro ps s σ H Q I ⟨hj,m,ρ,st,v,rf,rh,e,w⟩;cases e;have hA:PA (Cx.hnd X pins ad o) [.Name _ ep,.Name z zp] (cy (Ds j) (cy (tC (.ref (da i))) kb)):=pac (n5 (X:=Cx.hnd X pins ad o) (by have:=C.N;exact(PU (fun l=>l[j]?) this).trans h3) v1 v2 v3) (pac (uC (X:=Cx.hnd X pins ad o) (v:=.ref (da i)) b1 (T.y i z h5).1 rfl b2) bX rfl) rfl;have hC:dG (Cx.hnd X pins ad o) (.builtin "isinstance") (fun xs H Q=>xs=[.ref ad,.ref (da i)]/\Q (.bl (rel k i)) H):=by
   rintro ps s σ H xs us Q I r ⟨rfl,q⟩;obtain⟨u,v,rfl,ru,rv⟩:=oa r;cases (show u=Value.ref ad from ru);cases (show v=Value.ref (da i) from rv);obtain⟨e1,e2⟩:=T.rl k i hk hi;cases hr:rel k i with
   | true=>rw[hr] at e1 q;exact uv (K:=X.K) I.kIn (T.y i z h5).2 (I.pin (ad,o) (.head _)).1 hc e1 ⟨.bl true,H,I,rfl,q⟩
   | false =>
    rw[hr] at e1 q;exact call_isinstance (S:=fun _ R s=>PIs X.K ad o s/\∀tk,R (.ok (.ret (.bool false))) { s with toks:=tk }) (fun _ _ _ _ s hs=>by obtain⟨h,g,d,t,os⟩:=s;exact isinstance_outer (sy hs.1.1 (T.x k hk).1 (T.y i z h5).2 hs.1.2 hc e1 (e2 hr) (hs.2 (t+1))) (by intro e;cases e)) ⟨⟨I.kIn,(I.pin (ad,o) (.head _)).1⟩,fun tk=>⟨.bl false,H,I.tok tk,rfl,q⟩⟩
  refine iq (X:=Cx.hnd X pins ad o) hC a1 a4 gG hA a3 a2 rfl rfl ps s σ H Q I ?_;exact⟨.ref ad,hj,rfl,w.here rh (R_bl.mpr rfl)⟩
 | .isos is,x,h=>by
  replace h:=fN h;obtain⟨g,gp,e,ep,r,p,rfl,h⟩:=h;replace h:=a9 h;obtain⟨zs,zk,zp,rfl,h⟩:=h;simp only[Bool.and_eq_true,beq_iff_eq,decide_eq_true_eq] at h;obtain⟨⟨⟨⟨⟨h1,h2⟩,h3⟩,h4⟩,h5⟩,h6⟩:=h;subst h1;obtain⟨a1,a2,a3,a4⟩:=C.bltx h2;obtain⟨v1,v2,v3⟩:=C.visx h4;obtain⟨n1,n2⟩:=GD (pins:=pins) (ad:=ad) (o:=o) C T is zs h6;rintro ps s σ H Q I ⟨hj,m,ρ,st,v,rf,rh,e,w⟩;cases e;have hA:PA (Cx.hnd X pins ad o) [.Name _ ep,.Tuple zs zk zp] (cy (Ds j) (cy (Kh fun σ H Q=>Q (is.map fun i=>.ref (da i)) H) kb)):=pac (n5 (X:=Cx.hnd X pins ad o) (by have:=C.N;exact(PU (fun l=>l[j]?) this).trans h3) v1 v2 v3) (pac (ua n1) bX rfl) rfl;have hC:dG (Cx.hnd X pins ad o) (.builtin "isinstance") (fun xs H Q=>∃p,xs=[.ref ad,.ref p]/\H p=some (.tup (is.map fun i=>.ref (da i)))/\Q (.bl (is.any (rel k))) H):=by
   rintro ps s σ H xs us Q I r ⟨p,rfl,hp,q⟩;obtain⟨u,v,rfl,ru,rv⟩:=oa r;cases (show u=Value.ref ad from ru);cases (show v=Value.ref p from rv);obtain⟨_,its,r,ob,e1,e2,n,e3⟩:=I.hok p _ hp;rw[s_ r] at e3;have FC:=(T.x k hk).1;have hne:ca k≠p:=fun z=>by
    obtain⟨cd,ec⟩:=FC.cd;unfold clsIn at ec;split at ec
    ·rename_i hl;have:=I.kIn _ _ hl;rw[z,e1] at this;cases this;cases e3
    ·cases ec
   refine tX (K:=X.K) (vs:=is.map (rel k)) I.kIn (I.pin (ad,o) (.head _)).1 hc hne e1 e2 e3 (qr hc FC is fun i hi=>?_) fun tk=>⟨.bl _,H,I.tok tk,rfl,?_⟩
   ·obtain⟨r1,r2⟩:=T.rl k i hk (n2 i hi);exact⟨(T.y i _ (O6 (n2 i hi))).2,r1,r2⟩
   ·rw[List.any_map];exact q
  refine iq (X:=Cx.hnd X pins ad o) hC a1 a4 gG hA a3 a2 rfl rfl ps s σ H Q I ?_;refine⟨.ref ad,hj,?_,fun p hp=>⟨p,rfl,bq,?_⟩⟩
  ·rw[O1];exact O7 h5 (by decide)
  ·exact w m _ _ (Ext.newT rh hp) (rh.newT hp) (R_bl.mpr rfl)
theorem Bm (C:COk X.nox c Γ)(T:XT X.K X.mg xs ys ca da rel)(hk:k<xs.length)(hc:o.cls=.ref (ca k)):∀(as:List HA) (zs:List Expr),B4 c ys j as zs=true->PA (Cx.hnd X pins ad o) zs (THs X.K j ad fun ρ=>hvs (rel k) ρ as)
 | [],zs,h=>by
  have h:zs.isEmpty=true:=h;cases zs with
  | nil =>rintro pos ps s σ H Q I ⟨_,m,ρ,st,v,rf,rh,e,w⟩;cases e;exact bX pos ps s σ H Q I (w m H [] (Ext.refl _ _ _) rh (Rs_nil.mpr rfl))
  | cons _ _=>cases h
 | a::as,zs,h=>by
  replace h:=ar h;obtain⟨x,r,rfl,h⟩:=h;simp only[Bool.and_eq_true] at h;obtain⟨⟨h1,h2⟩,h3⟩:=h;rintro pos ps s σ H Q I ⟨hj,m,ρ,st,v,rf,rh,e,w⟩;have e:(match hv (rel k) ρ a,hvs (rel k) ρ as with
   | some v,some vs=>some (v::vs)
   | _,_=>none)=some v:=e
  cases e1:hv (rel k) ρ a with
  | none=>rw[e1] at e;cases e
  | some u =>
   cases e2:hvs (rel k) ρ as with
   | none=>rw[e1,e2] at e;cases e
   | some us =>rw[e1,e2] at e;cases e;refine pac (DO C T hk hc a x h2) (Bm C T hk hc as r h3) h1 pos ps s σ H Q I ⟨hj,m,ρ,st,u,rf,rh,e1,fun m1 H1 y x1 r1 r2=>⟨hj,m1,ρ,st,us,rf.mono x1,r1,e2,fun m2 H2 ys x2 r3 r4=>?_⟩⟩;exact w m2 H2 _ (x1.trans x2) r3 (Rs_cons'.mpr ⟨r2.mono x2,r4⟩)
theorem BF {j:Nat}(h:isT a=true)(h2:u9 c ys j a x=true)(env:Env):∀whole,isTrue x env whole=(do let v <-whole;standAt x.pos;holding [v] (truthy v)):=by
 cases a with
 | isv=>obtain⟨g,gp,e,ep,r,p,rfl,_⟩:=fN h2;intro _;rfl
 | iso i=>obtain⟨g,gp,e,ep,r,p,rfl,_⟩:=fN h2;intro _;rfl
 | isos is=>obtain⟨g,gp,e,ep,r,p,rfl,_⟩:=fN h2;intro _;rfl
 | _=>cases h
noncomputable def THt (K:W.Frag)(j:Nat)(ad:Addr)(b:Bool):TT:=fun σ H Q=>σ[j]?=some (some (.ref ad))/\∃m ρ st,RF K m H ρ σ/\RH K m H st/\∀m' H',Ext K m H m' H'->RH K m' H' st->Q b H'
theorem yI (C:COk X.nox c Γ)(T:XT X.K X.mg xs ys ca da rel)(hk:k<xs.length)(hc:o.cls=.ref (ca k))(h1:isT a=true)(h2:u9 c ys j a x=true):PT (Cx.hnd X pins ad o) x (THt X.K j ad (hb (rel k) a)):=by rintro ps s σ H Q I ⟨hj,m,ρ,st,rf,rh,w⟩;refine Hj (X:=Cx.hnd X pins ad o) (DO C T hk hc a x h2) (BF h1 h2 _) ps s σ H Q I ?_;refine⟨hj,m,ρ,st,_,rf,rh,JZ h1,fun m1 H1 y e1 r1 r2=>⟨_,R_bl.mp r2,w m1 H1 e1 r1⟩⟩
theorem MD (C:COk X.nox c Γ)(T:XT X.K X.mg xs ys ca da rel)(hk:k<xs.length)(hc:o.cls=.ref (ca k)):∀(t:HT) (x:Expr),BD c ys j t x=true->PT (Cx.hnd X pins ad o) x (THt X.K j ad (ht (rel k) t))
 | .is a,x,h=>by rw[BD,OU] at h;exact yI C T hk hc h.1 h.2
 | .no a,x,h=>by replace h:=nH h;obtain⟨y,p,rfl,h⟩:=h;rw[OU] at h;exact Dh (yI C T hk hc h.1 h.2)
 | .both a b,x,h=>by
  replace h:=iw h;obtain⟨op,xs',p,rfl,h⟩:=h;rw[OU,R8] at h;obtain⟨rfl,h⟩:=h;replace h:=fw h;obtain⟨y,z,rfl,h⟩:=h;simp only[Bool.and_eq_true] at h;obtain⟨⟨⟨h1,h2⟩,h3⟩,h4⟩:=h;have hw:=DZ (pos:=p) (yI (pins:=pins) (ad:=ad) (o:=o) C T hk hc h1 h3) (zJ (yI (pins:=pins) (ad:=ad) (o:=o) C T hk hc h2 h4));rintro ps s σ H Q I ⟨hj,m,ρ,st,rf,rh,w⟩;refine hw _ ps s σ H Q I ⟨hj,m,ρ,st,rf,rh,fun m1 H1 e1 r1=>?_⟩;have w:∀m' H',Ext X.K m H m' H'->RH X.K m' H' st->Q (hb (rel k) a && hb (rel k) b) H':=w;cases q:hb (rel k) a with
  | true =>show (if true=true then THt X.K j ad (hb (rel k) b) σ H1 Q else Q false H1);rw[O0 rfl];rw[q,Bool.true_and] at w;exact⟨hj,m1,ρ,st,rf.mono e1,r1,fun m2 H2 e2 r2=>w m2 H2 (e1.trans e2) r2⟩
  | false =>show (if false=true then THt X.K j ad (hb (rel k) b) σ H1 Q else Q false H1);rw[OY OS];rw[q,SE] at w;exact w m1 H1 e1 r1
theorem Dq (C:COk X.nox c Γ)(T:XT X.K X.mg xs ys ca da rel)(hk:k<xs.length)(hc:o.cls=.ref (ca k)):∀(a:HS) (x:Stmt),Dt c ys j a x=true ->
  PS (Cx.hnd X pins ad o) x (fun D σ H=>σ[j]?=some (some (.ref ad))/\∃m ρ st ρ',RF X.K m H ρ σ/\RH X.K m H st/\qP (rel k) a ρ=some ρ'/\∀m' H' σ',Ext X.K m H m' H'->RH X.K m' H' st->RF X.K m' H' ρ' σ'->σ'[j]?=some (some (.ref ad))->D.nx σ' H')
 | .set i a,x,h=>by
  replace h:=dX h;obtain⟨tg,v,pos,rfl,h⟩:=h;replace h:=ah h;obtain⟨y,yp,rfl,h⟩:=h;simp only[Bool.and_eq_true,beq_iff_eq,bne_iff_ne,ne_eq] at h;obtain⟨⟨⟨⟨h1,h2⟩,h3⟩,h4⟩,h5⟩:=h;obtain⟨g1,g2⟩:=C.locx h2;rintro ps s σ H D I ⟨hj,m,ρ,st,ρ',rf,rh,e,w⟩;rw[qP] at e;cases e1:hv (rel k) ρ a with
  | none=>rw[e1] at e;cases e
  | some u =>rw[e1] at e;cases e;refine kM (X:=Cx.hnd X pins ad o) (i:=i) C.ndX (by have:=C.N;exact(PU (fun l=>l[i]?) this).trans h1) g1 (DO C T hk hc a v h5) (bW h4) g2 ps s σ H D I ⟨hj,m,ρ,st,u,rf,rh,e1,fun m1 H1 z x1 r1 r2=>?_⟩;exact w m1 H1 _ x1 r1 ((rf.mono x1).set i r2) (by rw[PR h3];exact hj)
 | .setT i as,x,h=>by
  replace h:=dX h;obtain⟨tg,v,pos,rfl,h⟩:=h;replace h:=ah h;obtain⟨y,yp,rfl,h⟩:=h;simp only[Bool.and_eq_true,beq_iff_eq,bne_iff_ne,ne_eq] at h;obtain⟨⟨⟨h1,h2⟩,h3⟩,h5⟩:=h;replace h5:=a9 h5;obtain⟨vs,vk,vp,rfl,h5⟩:=h5;rw[OU,decide_eq_true_eq] at h5;obtain⟨h4,h5⟩:=h5;obtain⟨g1,g2⟩:=C.locx h2;rintro ps s σ H D I ⟨hj,m,ρ,st,ρ',rf,rh,e,w⟩;rw[qP] at e;cases e1:hvs (rel k) ρ as with
  | none=>rw[e1] at e;cases e
  | some u =>
   rw[e1] at e;cases e;have hl:∀(as:List HA) (u:List PV),hvs (rel k) ρ as=some u->u.length=as.length:=by
    intro as
    induction as with
    | nil=>intro u e;cases e;rfl
    | cons a as ih =>
     intro u e;rw[hvs] at e;cases q1:hv (rel k) ρ a with
     | none=>rw[q1] at e;cases e
     | some v1 =>
      cases q2:hvs (rel k) ρ as with
      | none=>rw[q1,q2] at e;cases e
      | some v2=>rw[q1,q2] at e;cases e;rw[QK,ih _ q2,QK]
   refine kM (X:=Cx.hnd X pins ad o) (i:=i) C.ndX (by have:=C.N;exact(PU (fun l=>l[i]?) this).trans h1) g1 (ua (Bm C T hk hc as vs h5)) (bW rfl) g2 ps s σ H D I ⟨hj,m,ρ,st,u,rf,rh,e1,fun m1 H1 z x1 r1 r2=>⟨?_,fun p hp=>?_⟩⟩
   ·rw[<-r2.len,hl as u e1];exact O7 h4 (by decide)
   ·have x2:=Ext.newT (o:=.tup z) r1 hp;exact w m1 _ _ (x1.trans x2) (r1.newT hp) ((rf.mono (x1.trans x2)).set i (R_tup.mpr ⟨p,z,rfl,SqT.of bq,r2.mono x2⟩)) (by rw[PR h3];exact hj)
 | .guard t a,x,h=>by
  replace h:=qR h;obtain⟨y,ss,zs,p,rfl,h⟩:=h;simp only[Bool.and_eq_true] at h;obtain⟨⟨h1,h2⟩,h3⟩:=h;obtain rfl:=List.isEmpty_iff.mp h2;replace h3:=b8 h3;obtain⟨s1,rfl,h3⟩:=h3;rintro ps s σ H D I ⟨hj,m,ρ,st,ρ',rf,rh,e,w⟩;rw[qP] at e;refine wpAny_If (thn (MD (pins:=pins) (ad:=ad) (o:=o) C T hk hc t y h1 ps s σ H (fun b H1=>b=ht (rel k) t/\∃m1,Ext X.K m H m1 H1/\RH X.K m1 H1 st) I ⟨hj,m,ρ,st,rf,rh,fun m1 H1 e1 r1=>⟨rfl,m1,e1,r1⟩⟩) fun d s2 ⟨H1,I1,hd,m1,e1,r1⟩=>?_);cases d with
  | true =>rw[O0 hd.symm] at e;exact qu (Dq C T hk hc a s1 h3) pK ps s2 σ H1 D I1 ⟨hj,m1,ρ,st,ρ',rf.mono e1,r1,e,fun m2 H2 σ2 e2 r2 f2 hj2=>w m2 H2 σ2 (e1.trans e2) r2 f2 hj2⟩
  | false =>rw[OY (by rw[<-hd];exact OS)] at e;cases e;exact pK ps s2 σ H1 D I1 (w m1 H1 σ e1 r1 (rf.mono e1) hj)
theorem Gm (C:COk X.nox c Γ)(T:XT X.K X.mg xs ys ca da rel)(hk:k<xs.length)(hc:o.cls=.ref (ca k)):∀(l:List HS) (zs:List Stmt),u7 c ys j l zs=true ->
  PSs (Cx.hnd X pins ad o) zs (fun D σ H=>σ[j]?=some (some (.ref ad))/\∃m ρ st ρ',RF X.K m H ρ σ/\RH X.K m H st/\yg (rel k) l ρ=some ρ'/\postF X.K m H D.nx ρ' st)
 | [],zs,h=>by
  have h:zs.isEmpty=true:=h;cases zs with
  | nil =>rintro ps s σ H D I ⟨hj,m,ρ,st,ρ',rf,rh,e,w⟩;cases e;exact pK ps s σ H D I (w.here rh rf)
  | cons _ _=>cases h
 | a::l,zs,h=>by
  replace h:=ar h;obtain⟨x,r,rfl,h⟩:=h;rw[OU] at h;rintro ps s σ H D I ⟨hj,m,ρ,st,ρ',rf,rh,e,w⟩;rw[yg] at e;cases e1:qP (rel k) a ρ with
  | none=>rw[e1] at e;cases e
  | some ρ1 =>rw[e1] at e;exact qu (Dq C T hk hc a x h.1) (Gm C T hk hc l r h.2) ps s σ H D I ⟨hj,m,ρ,st,ρ1,rf,rh,e1,fun m1 H1 σ1 x1 r1 f1 hj1=>⟨hj1,m1,ρ1,st,ρ',f1,r1,e,w.ext x1⟩⟩
end
end FW
namespace FW
open L2 HX
open PySem.W (findIn mroIn typeIn clsIn)
inductive TSs where
 | nil|st (s:S) (r:TSs)|tr (i:Nat) (w:Str) (f:Nat) (es:Es) (j:Nat) (hs:List HS) (r:TSs)
noncomputable def eQ (Γ ΓR:Nat->FSp)(n:Nat)(rel:Nat->Nat->Bool):TSs->Fr->AH->aK->Prop
 | .nil,ρ,st,D=>D.nx ρ st
 | .st s r,ρ,st,D=>wpS Γ s ρ st { D with nx:=fun ρ1 st1=>eQ Γ ΓR n rel r ρ1 st1 D }
 | .tr i w f es j hs r,ρ,st,D=>cj Γ es ρ st fun vs st1=>ΓR f vs st1 (m_ (fun v st2=>eQ Γ ΓR n rel r (ρ.set i (some (.tup [.str w,v]))) st2 D)
   fun k st2=>k<n/\rel k 0=true/\∃ρ',yg (rel k) hs (ρ.set j none)=some ρ'/\eQ Γ ΓR n rel r (ρ'.set j none) st2 D)
theorem dR {Γ ΓR:Nat->FSp}{n:Nat}{rel:Nat->Nat->Bool}(G:aT Γ)(G':aT ΓR):∀(s:TSs) {ρ:Fr}{st:AH}{D D':aK},i2 D D'->eQ Γ ΓR n rel s ρ st D->eQ Γ ΓR n rel s ρ st D'
 | .nil,ρ,st,D,D',hD,h=>hD.nx _ _ h
 | .st s r,ρ,st,D,D',hD,h=>by
  rw[eQ] at h |-
  exact jC G s (D:={ D with nx:=fun ρ1 st1=>eQ Γ ΓR n rel r ρ1 st1 D }) (D':={ D' with nx:=fun ρ1 st1=>eQ Γ ΓR n rel r ρ1 st1 D' }) ⟨fun _ _ z=>dR G G' r hD z,hD.rt,hD.bk,hD.ct⟩ h
 | .tr i w f es j hs r,ρ,st,D,D',hD,h=>by
  rw[eQ] at h |-
  exact aC G es (fun vs st1 z=>G' _ _ _ _ _ (cC (fun v st2 z=>dR G G' r hD z) fun k st2 ⟨a,b,ρ',c,d⟩=>⟨a,b,ρ',c,dR G G' r hD d⟩) z) h
noncomputable def BI (x:Stmt)(f:List Stmt->List ExceptHandler->Bool):Bool:=match x with | .Try b hs [] [] _=>f b hs|_=>false
theorem AV (h:BI x f=true):∃b hs p,x=.Try b hs [] [] p/\f b hs=true:=by
 unfold BI at h;split at h
 ·exact⟨_,_,_,rfl,h⟩
 ·cases h
noncomputable def Jw (x:ExceptHandler)(f:Expr->Option Str->List Stmt->Bool):Bool:=match x with | .ExceptHandler (some e) n ss _=>f e n ss|_=>false
theorem C7 (h:Jw x f=true):∃e n ss p,x=.ExceptHandler (some e) n ss p/\f e n ss=true:=by
 unfold Jw at h;split at h
 ·exact⟨_,_,_,_,rfl,h⟩
 ·cases h
noncomputable def Gj (x:Stmt)(f:Stmt->Expr->Str->Stmt->List Stmt->Bool):Bool:=BI x fun b hs=>on1 b fun b=>on1 hs fun k=>Jw k fun e n ss=>iP n fun n=>cR ss fun s₀ s=>f b e n s₀ s
theorem Aw (h:Gj x f=true):∃b e n s₀ s hp pos,x=.Try [b] [.ExceptHandler (some e) (some n) (s₀::s) hp] [] [] pos/\f b e n s₀ s=true:=by replace h:=AV h;obtain⟨b,hs,p,rfl,h⟩:=h;replace h:=b8 h;obtain⟨b,rfl,h⟩:=h;replace h:=b8 h;obtain⟨k,rfl,h⟩:=h;replace h:=C7 h;obtain⟨e,n,ss,q,rfl,h⟩:=h;replace h:=fT h;obtain⟨n,rfl,h⟩:=h;replace h:=ar h;obtain⟨s,r,rfl,h⟩:=h;exact⟨_,_,_,_,_,_,_,rfl,h⟩
noncomputable def yM (x:Expr)(f:Str->Expr->List Expr->Bool):Bool:=jQ x fun g as=>cR as fun a r=>f g a r
theorem xb (h:yM x f=true):∃g gp a as p,x=.Call (.Name g gp) (a::as) [] p/\f g a as=true:=by replace h:=eN h;obtain⟨g,gp,as,cp,rfl,h⟩:=h;replace h:=ar h;obtain⟨a,r,rfl,h⟩:=h;exact⟨_,_,_,_,_,rfl,h⟩
noncomputable def KQ (c:Cfg)(F:Xf)(w:Str)(f:Nat)(es:Es)(vs:List Expr):Bool :=
 cR vs fun v1 r1=>oz v1 (fun q=>q == w) && cR r1 fun v2 r2=>r2.isEmpty && yM v2 fun g a as=>c.fn f g && F.rz.contains f && ak a && as.all ak && eP c es (a::as)
noncomputable def ma (c:Cfg)(F:Xf)(ys:List Str):TSs->List Stmt->Bool
 | .nil,x=>x.isEmpty
 | .st s r,x=>cR x fun y z=>EE c s y && ma c F ys r z
 | .tr i w f es j hs r,x=>cR x fun y z=>Gj y (fun b e n s₀ s=>av e (fun q _=>ys[0]? == some q && c.glb q) && c.N[j]? == some n && c.names.lookup n == some .local && u7 c ys j hs (s₀::s)
   && om b fun t v=>av t fun y _=>c.N[i]? == some y && c.loc y && dN v fun vs=>KQ c F w f es vs) && ma c F ys r z
section
variable {X:Cx}{c:Cfg}{F:Xf}{Γ ΓR:Nat->FSp}{ca da:Nat->Addr}{rel:Nat->Nat->Bool}{ys:List Str}{pins:List (Addr × Obj)}{E:Value->Shared->Prop}
theorem Inv.pinTo {ps:List (Addr × Obj)}{σ:L2.St}{H:Hp}{s:Shared}(I:L2.Inv (Cx.pin X pins E) ps σ H s):L2.Inv X.nox (pins++ps) σ H s :=
 ⟨⟨I.ok.mod,I.ok.kind,I.ok.glob,I.ok.blt,I.ok.above,I.ok.inj,I.ok.has,I.ok.cab,I.ok.hd,I.ok.frames,I.ok.stk,I.ok.exf,I.ok.bs,I.ok.bsz,I.ok.noex,I.ok.exfs,I.ok.funs,I.ok.frf⟩,I.os,I.bare,I.base,I.loc,I.cell,I.free,I.freeC,fun p hp=>I.pin p (by rw[PY];exact hp),I.hok,I.len⟩
theorem Inv.pinOf {ps:List (Addr × Obj)}{σ:L2.St}{H:Hp}{s:Shared}(I:L2.Inv X.nox (pins++ps) σ H s):L2.Inv (Cx.pin X pins E) ps σ H s :=
 ⟨⟨I.ok.mod,I.ok.kind,I.ok.glob,I.ok.blt,I.ok.above,I.ok.inj,I.ok.has,I.ok.cab,I.ok.hd,I.ok.frames,I.ok.stk,I.ok.exf,I.ok.bs,I.ok.bsz,I.ok.noex,I.ok.exfs,I.ok.funs,I.ok.frf⟩,I.os,I.bare,I.base,I.loc,I.cell,I.free,I.freeC,fun p hp=>I.pin p (by rw[<-PY];exact hp),I.hok,I.len⟩
theorem PA.pin (h:PA X.nox es t):PA (Cx.pin X pins E) es t:=fun pos ps s σ H Q I w =>
 wpAny_mono (h pos (pins++ps) s σ H Q (Inv.pinTo I) w) (fun _ _ ⟨v,H',I',r,q⟩=>⟨v,H',Inv.pinOf I',r,q⟩) fun _ _ z=>False.elim z
theorem RF.setN (h:RF K m H ρ σ)(j:Nat)(x:Option V):RF K m H (ρ.set j none) (σ.set j x):=by
 refine⟨by simp[h.len],fun i v e=>?_⟩;by_cases hj:j=i
 ·subst hj;rw[S_] at e;split at e
  ·split at e <;> cases e
  ·rename_i z;exact absurd rfl z
 ·rw[PR hj] at e |-
  exact h.at_ i v e
theorem JM (C:COk X.nox c Γ)(G:XG X.prog X.w X.K X.mg X.base c F ΓR ca)(T:XT X.K X.mg F.xs ys ca da rel)(hE:W.excIn X.K (da 0) i6 "ValueError.__new__"=true)(hst:X.stack=X.env::X.outer)(hfr:X.env.frame=some X.env.locals){i f j:Nat}{s₀:Stmt}{sr:List Stmt}{k1:Nat}(h0:ys[0]?=some q)(h1:c.glb q=true)(h2:c.N[j]?=some n)(h3:c.names.lookup n=some .local)(h4:u7 c ys j hs (s₀::sr)=true)(h5:c.N[i]?=some y)(h6:c.loc y=true)(h7:KQ c F w f es vs=true) :
  ∀(pins:List (Addr × Obj)) (s:Shared) (σ:L2.St) (H:Hp) (D:L2.Ends),L2.Inv X pins σ H s->(∃m ρ st,RF X.K m H ρ σ/\RH X.K m H st/\cj Γ es ρ st fun vs st1=>ΓR f vs st1 (m_ (fun v st2=>postF X.K m H D.nx (ρ.set i (some (.tup [.str w,v]))) st2)
   fun k st2=>k<F.xs.length/\rel k 0=true/\∃ρ',yg (rel k) hs (ρ.set j none)=some ρ'/\postF X.K m H D.nx (ρ'.set j none) st2)) ->
   wpAny (model X.prog X.w) X.A (exec (.Try [.Assign [.Name y p1] (.Tuple vs k1 p2) p3] [.ExceptHandler (some (.Name q p4)) (some n) (s₀::sr) p5] [] [] p6) X.env) (SP X pins D) E s:=by
 rintro pins s σ H D I ⟨m,ρ,st,rf,rh,wq⟩;replace h7:=ar h7;obtain⟨v1,r1,rfl,h7⟩:=h7;rw[OU] at h7;obtain⟨h8,h7⟩:=h7;replace h8:=iy h8;obtain⟨w',wk,wp,rfl,h8⟩:=h8;rw[R8] at h8;subst h8;replace h7:=ar h7;obtain⟨v2,r2,rfl,h7⟩:=h7;rw[OU] at h7;obtain⟨h9,h7⟩:=h7;obtain rfl:=List.isEmpty_iff.mp h9;replace h7:=xb h7;obtain⟨g,gp,a,as,cp,rfl,h7⟩:=h7;simp only[Bool.and_eq_true] at h7;obtain⟨⟨⟨⟨a1,a2⟩,a3⟩,a4⟩,a5⟩:=h7;obtain⟨g1,g2⟩:=C.locx h6;obtain⟨k1',k2,k3,_⟩:=C.fnx a1;have a1':=a1;unfold Cfg.fn at a1';simp only[Bool.and_eq_true,beq_iff_eq,decide_eq_true_eq] at a1';obtain⟨ps,HF⟩:=G.fn f g a1'.1.2 a1'.1.1 a2;obtain⟨fa,fd,Fn,fm,fk,fb⟩:=HF.ex;obtain⟨q1,q2,q3⟩:=C.glbx h1;let Wx:Addr->Hp->Prop:=fun Cl H'=>∃k m' st',Cl=ca k/\k<F.xs.length/\rel k 0=true/\Ext X.K m H m' H'/\RH X.K m' H' st'/\∃ρ',yg (rel k) hs (ρ.set j none)=some ρ'/\postF X.K m H D.nx (ρ'.set j none) st';let Xe:Value->Shared->Prop:=fun e s'=>∃s1 H1,L2.Inv X pins σ H1 s1/\CXe X.prog X.w X.stack H1 s1 (fun v _ H'=>∃C,v=.ref C/\Wx C H') e s';have hy:=T.y 0 q h0;have hN:X.N=c.N:=C.N;refine wpAny_Try_except (wpAny_mono (wpAny_execs_cons (thn (Q:=SP (Cx.pin X pins Xe) [] D) (E:=Xe) ?_ fun fl s1 z=>?_)) (fun _ _ z=>z) fun e s1 z=>?_)
 ·have hE1:PE (Cx.pin X pins Xe) (.Call (.Name g gp) (a::as) [] cp) (fun σ' H Q=>σ'=σ/\lj (jD X.K ca (ΓR f)) [] (fun v _ H'=>∃C,v=.ref C/\Wx C H') (TAx X.K (cj Γ es)) σ' H Q) :=
   vS (Y:=Cx.pin X pins Xe) Fn k3 k1' fm fk fb .nil (fun ps H1 s1 e s' I1 z=>⟨s1,H1,Inv.unpin I1,z⟩) (PA.pin (kj es C _ a5)) k2 (aw a3) (g9 a4)
  have hE2:PE (Cx.pin X pins Xe) (.Tuple [.Constant (.str w') wk wp,.Call (.Name g gp) (a::as) [] cp] k1 p2) _:=ua (pac qv (pac hE1 bX rfl) rfl);refine kM (X:=Cx.pin X pins Xe) (i:=i) C.ndX (by rw[hN];exact h5) g1 hE2 (bW rfl) g2 [] s σ H D (Inv.pinned I _) ?_;refine⟨rfl,m,ρ,st,rf,rh,aC C.mono es (fun vs st1 k m1 H1 xs1 e1 r1 r2=>⟨m1,st1,vs,kE r2,r1,G.mono _ _ _ _ _ (cC (fun v st2 z m2 H2 x2 e2 r3 r4=>?_) fun k st2 ⟨z1,z2,ρ',z3,z4⟩ m2 H2 e2 r3=>?_) k⟩) wq⟩
  ·refine⟨show 2<=sizeLine from by decide,fun p hp=>?_⟩;have x3:=Ext.newT (o:=.tup [.str w',x2]) r3 hp;exact z m2 _ _ ((e1.trans e2).trans x3) (r3.newT hp) (((rf.mono (e1.trans e2)).mono x3).set i (R_tup.mpr ⟨p,_,rfl,SqT.of bq,Rs_cons'.mpr ⟨R_str.mpr rfl,Rs_cons'.mpr ⟨r4.mono x3,Rs_nil.mpr rfl⟩⟩⟩))
  ·exact⟨ca k,rfl,k,m2,st2,rfl,z1,z2,e1.trans e2,r3,ρ',z3,z4⟩
 ·cases fl with
  | next=>exact wpAny_execs_nil (wpAny_execs_nil (SP.unpin z))
  | brk=>exact SP.unpin z
  | cont=>exact SP.unpin z
  | ret u=>exact SP.unpin z
 ·obtain⟨s2,H2,I2,cx⟩:=z;refine CS (Wx:=Wx) I2 cx hst hfr q1 q2 hy.1 hE (fun Cl H' z=>?_) C.ndX (by rw[hN];exact h2) (C.lcl n h3) (C.lcl n h3) fun ad Cl H' o s3 z oc J=>?_
  ·obtain⟨k,m',st',rfl,z1,z2,_⟩:=z;obtain⟨e1,e2⟩:=G.cls k _ (O6 z1);refine⟨_,e1,e2,?_⟩;have hr:=(T.rl k 0 z1 (OT.mp h0).1).1;rw[z2] at hr;unfold mroIn at hr;obtain⟨cd,e3,e4⟩:=Option.bind_eq_some_iff.mp hr;unfold clsIn at e3;split at e3
   ·rename_i ho;cases e3;refine⟨_,_,ho,rfl,?_⟩;split at e4
    ·cases e4
    ·exact P4 e4
   ·cases e3
  ·obtain⟨k,m',st',rfl,z1,z2,z3,z4,ρ',z5,z6⟩:=z;refine Gm C T z1 oc hs _ h4 [] s3 _ H' _ J ⟨?_,m',ρ.set j none,st',ρ',(rf.mono z3).setN j _,z4,z5,fun m2 H3 σ' x2 r2 f2=>z6 m2 H3 _ (z3.trans x2) r2 (f2.setN j none)⟩;have hl:=I2.len;rw[S_];rw[O0 rfl,O0];rw[hl,hN];exact(OT.mp h2).1
theorem Dv (C:COk X.nox c Γ)(G:XG X.prog X.w X.K X.mg X.base c F ΓR ca)(T:XT X.K X.mg F.xs ys ca da rel)(hE:W.excIn X.K (da 0) i6 "ValueError.__new__"=true)(hst:X.stack=X.env::X.outer)(hfr:X.env.frame=some X.env.locals) :
  ∀(e:TSs) (x:List Stmt),ma c F ys e x=true->PSs X.nox x (TSx X.K (eQ Γ ΓR F.xs.length rel e))
 | .nil,x,h=>by
  rw[ma] at h;cases x with
  | nil =>rintro pins s σ H D I ⟨m,ρ,st,rf,rh,w⟩;exact wpAny_execs_nil ⟨_,_,I,postF.here w rh rf⟩
  | cons _ _=>cases h
 | .st e es,x,h=>by
  rw[ma] at h;replace h:=ar h;obtain⟨y,ys,rfl,h⟩:=h;simp only[Bool.and_eq_true] at h;rintro pins s σ H D I ⟨m,ρ,st,rf,rh,w⟩;rw[eQ] at w;refine wpAny_execs_cons (thn (GQ C e _ h.1 pins s σ H { D with nx:=fun σ1 H1=>TSx X.K (eQ Γ ΓR F.xs.length rel es) D σ1 H1 } I ⟨m,ρ,st,rf,rh,jC C.mono e (D:={ AE X.K m H D with nx:=fun ρ1 st1=>eQ Γ ΓR F.xs.length rel es ρ1 st1 (AE X.K m H D) }) (D':=AE X.K m H { D with nx:=fun σ1 H1=>TSx X.K (eQ Γ ΓR F.xs.length rel es) D σ1 H1 }) ⟨fun ρ1 st1 k m1 H1 σ1 e1 r1 f1=>⟨m1,ρ1,st1,f1,r1,dR C.mono G.mono es (AE.ext e1) k⟩,fun _ _ q=>q,fun _ _ q=>q,fun _ _ q=>q⟩ w⟩) fun f s1 q=>?_);cases f with
  | next =>obtain⟨σ',H',I',q⟩:=q;exact Dv C G T hE hst hfr es _ h.2 pins s1 σ' H' D I' q
  | ret v=>exact q
  | brk=>exact q
  | cont=>exact q
 | .tr i w f es j hs r,x,h=>by
  rw[ma] at h;replace h:=ar h;obtain⟨y,zs,rfl,h⟩:=h;rw[OU] at h;obtain⟨h,hr⟩:=h;replace h:=Aw h;obtain⟨b,e,n,s₀,sr,hp,pos,rfl,h⟩:=h;simp only[Bool.and_eq_true,beq_iff_eq] at h;obtain⟨⟨⟨⟨h1,h2⟩,h3⟩,h4⟩,h5⟩:=h;replace h1:=ah h1;obtain⟨q,qp,rfl,h1⟩:=h1;rw[OU,R8] at h1;replace h5:=dX h5;obtain⟨tg,v,ap,rfl,h5⟩:=h5;replace h5:=ah h5;obtain⟨yn,yp,rfl,h5⟩:=h5;simp only[Bool.and_eq_true,beq_iff_eq] at h5;obtain⟨⟨h5,h6⟩,h7⟩:=h5;replace h7:=a9 h7;obtain⟨vs,vk,vp,rfl,h7⟩:=h7;rintro pins s σ H D I ⟨m,ρ,st,rf,rh,wq⟩;rw[eQ] at wq;refine wpAny_execs_cons (thn (JM (X:=X.nox) (E:=fun _ _=>False) C G T hE hst hfr h1.1 h1.2 h2 h3 h4 h5 h6 h7 pins s σ H { D with nx:=fun σ1 H1=>TSx X.K (eQ Γ ΓR F.xs.length rel r) D σ1 H1 } I ⟨m,ρ,st,rf,rh,aC C.mono es (fun vs st1 z=>G.mono _ _ _ _ _ (cC (fun v st2 z m1 H1 σ1 e1 r1 f1=>?_) fun k st2 ⟨z1,z2,ρ',z3,z4⟩=>⟨z1,z2,ρ',z3,fun m1 H1 σ1 e1 r1 f1=>?_⟩) z) wq⟩) fun fl s1 q=>?_)
  ·exact⟨m1,_,st2,f1,r1,dR C.mono G.mono r (AE.ext e1) z⟩
  ·cases fl with
   | next =>obtain⟨σ',H',I',q⟩:=q;exact Dv C G T hE hst hfr r _ hr pins s1 σ' H' D I' q
   | ret v=>exact q
   | brk=>exact q
   | cont=>exact q
  ·exact⟨m1,_,st2,f1,r1,dR C.mono G.mono r (AE.ext e1) z4⟩
end
theorem E7 {code:TSs}{c:Cfg}{Γ ΓR:Nat->FSp}{ca da:Nat->Addr}{rel:Nat->Nat->Bool}(F:At K mg x st ps)(S:aj N ps (ae st))(hN:c.N=N)(hn:c.names=(ae st).names)(hc:ma c Fx ys code (af st)=true)(G:GOk P w K mg base c Γ)(GX:XG P w K mg base c Fx ΓR ca)(T:XT K mg Fx.xs ys ca da rel)(hE:W.excIn K (da 0) i6 "ValueError.__new__"=true)(len:∀as st Q,sp as st Q->as.length=ps.length)(h:∀as st Q,sp as st Q->eQ Γ ΓR Fx.xs.length rel code (frame N.length as) st (ag st Q))(hpc:c.pc=false:=by rfl)(hhm:c.hm=none:=by rfl):Has P w K mg base (c.lim+1) x ps (dP K sp):=by
 refine F.ok S (fun vs H Q E ⟨m,st,as,r1,r2,q⟩=>by rw[<-r1.len];exact len as st _ q) fun f cdv A outer s H vs Q E hr ⟨m,st',as,r1,r2,q⟩=>?_;have C:=tR (E:=E) (H:=H) (outer:=outer) (Γ:=Γ) S hN hn hr G (fun z=>by rw[hpc] at z;cases z) fun k z=>by rw[hhm] at z;cases z
 refine⟨_,Dv C GX T hE rfl rfl code _ hc,m,frame N.length as,st',mq r1,r2,dR G.mono GX.mono code ?_ (h as st' _ q)⟩;exact⟨fun ρ st2 k m' H' σ' e r f=>eR r2 k m' H' .non e r (R_non.mpr rfl),fun v st2 k=>eR r2 k,fun _ _ k=>k.elim,fun _ _ k=>k.elim⟩
end FW
namespace FW
open L2 HX
open PySem.W (findIn mroIn typeIn clsIn)
structure JX (P:Program)(w:World)(K:W.Frag)(mg:Str->Option Value)(base:Heap)(c:Cfg)(F:Xf)(Γ ΓR:Nat->FSp)(ca:Nat->Addr):Prop where
 g:GOk P w K mg base c Γ
 x:XG P w K mg base c F ΓR ca
section
variable {P:Program}{w:World}{K:W.Frag}{mg:Str->Option Value}{base h:Heap}{Γ ΓR:Nat->FSp}{c c':Cfg}{F:Xf}{ca da:Nat->Addr}{rel:Nat->Nat->Bool}{ys:List Str}{x:Str}{st:Stmt}{N ps:List Str}{sp:FSp}
theorem XG.skip (G:XG P w K mg base c F ΓR ca)(h1:c'.fns=c.fns)(h2:c'.lim=c.lim+1)(hr:F.rz.contains c.lim=false):XG P w K mg base c' F ΓR ca :=
 ⟨fun f x hf e r=>by
  rw[h2] at hf;rw[h1] at e;by_cases z:f=c.lim
  ·subst z;rw[hr] at r;cases r
  ·exact G.fn f x (by omega) e r,G.cls,G.mono⟩
theorem XG.next (G:XG P w K mg base c F ΓR ca)(h1:c'.fns=c.fns)(h2:c'.lim=c.lim+1)(hx:c.fns[c.lim]?=some x)(H:HasX P w K mg base (c.lim+1) x ps (jD K ca (ΓR c.lim))):XG P w K mg base c' F ΓR ca :=
 ⟨fun f y hf e r=>by
  rw[h2] at hf;rw[h1] at e;by_cases z:f=c.lim
  ·subst z;rw[hx] at e;cases e;exact⟨ps,H⟩
  ·exact G.fn f y (by omega) e r,G.cls,G.mono⟩
theorem JX.nx {code:Ss}(J:JX P w K mg base c F Γ ΓR ca)(X:K.In h)(Gn:h.Ns mainGlobals mg)(d:DI K x st)(S:aj N ps (ae st))(hc:aE c code (af st)=true)
  (len:∀ {as st Q},sp as st Q->as.length=ps.length) (hw:∀ {as st Q},sp as st Q->aG Γ code (frame N.length as) st (ag st Q))
  (hb:∀(kV doc pm:Value) (an:Option Addr) (cdv ct:Value) (us:List Value),us.length=ps.length->bindArgs (W.fnOf x x (cH st) (af st) (ae st) .none kV doc pm an cdv ct) ⟨us,[]⟩=pure (ps.zip us))
  (hN:c.N=N:=by rfl) (hn:c.names=(ae st).names:=by rfl) (hpc:c.pc=false:=by rfl) (hhm:c.hm=none:=by rfl) (h1:c'.fns=c.fns:=by rfl) (h2:c'.lim=c.lim+1:=by rfl) (h3:c'.blts=c.blts:=by rfl) (h4:c'.gl=c.gl:=by rfl) (hx:c.fns[c.lim]?=some x:=by rfl) (hs:Γ c.lim=sp:=by rfl) (hr:F.rz.contains c.lim=false:=by rfl):JX P w K mg base c' F Γ ΓR ca :=
 ⟨J.g.nx X Gn d S hc len hw hb hN hn hpc hhm h1 h2 h3 h4 hx hs,J.x.skip h1 h2 hr⟩
theorem JX.nxX {code:XSs}(J:JX P w K mg base c F Γ ΓR ca)(X:K.In h)(Gn:h.Ns mainGlobals mg)(d:DI K x st)(S:aj N ps (ae st))(hc:g_ c F code (af st)=true)
  (len:∀ {as st Q},sp as st Q->as.length=ps.length) (ms:∀ {as st Q Q'},(∀v st,Q v st->Q' v st)->sp as st Q->sp as st Q') (hw:∀ {as st Q},sp as st Q->cw Γ ΓR code (frame N.length as) st (lh st Q) (pR st Q))
  (hb:∀(kV doc pm:Value) (an:Option Addr) (cdv ct:Value) (us:List Value),us.length=ps.length->bindArgs (W.fnOf x x (cH st) (af st) (ae st) .none kV doc pm an cdv ct) ⟨us,[]⟩=pure (ps.zip us))
  (hN:c.N=N:=by rfl) (hn:c.names=(ae st).names:=by rfl) (hpc:c.pc=false:=by rfl) (hhm:c.hm=none:=by rfl) (h1:c'.fns=c.fns:=by rfl) (h2:c'.lim=c.lim+1:=by rfl) (h3:c'.blts=c.blts:=by rfl) (h4:c'.gl=c.gl:=by rfl) (hx:c.fns[c.lim]?=some x:=by rfl) (hs:Γ c.lim=okO sp:=by rfl) (hs2:ΓR c.lim=sp:=by rfl):JX P w K mg base c' F Γ ΓR ca:=by
 obtain⟨f,oc,od,kV,dc,pm,an,cd,ct,sl,a,l,cc,k⟩:=d;have HX:=E4 (sp:=sp) (At.mk' X Gn hb a l cc k) S hN hn hc J.g J.x (fun as st Q z=>len z) (fun as st Q Q' z z2=>ms z z2) (fun as st Q z=>hw z) hpc hhm;refine⟨J.g.next h1 h2 h3 h4 hx (by rw[hs];exact HX.ok fun _ _ _ _ z z2=>ms z z2),J.x.next h1 h2 hx (by rw[hs2];exact HX)⟩
theorem JX.nxT {code:TSs}(J:JX P w K mg base c F Γ ΓR ca)(T:XT K mg F.xs ys ca da rel)(hE:W.excIn K (da 0) i6 "ValueError.__new__"=true)(X:K.In h)(Gn:h.Ns mainGlobals mg)(d:DI K x st)(S:aj N ps (ae st))(hc:ma c F ys code (af st)=true)
  (len:∀ {as st Q},sp as st Q->as.length=ps.length) (hw:∀ {as st Q},sp as st Q->eQ Γ ΓR F.xs.length rel code (frame N.length as) st (ag st Q))
  (hb:∀(kV doc pm:Value) (an:Option Addr) (cdv ct:Value) (us:List Value),us.length=ps.length->bindArgs (W.fnOf x x (cH st) (af st) (ae st) .none kV doc pm an cdv ct) ⟨us,[]⟩=pure (ps.zip us))
  (hN:c.N=N:=by rfl) (hn:c.names=(ae st).names:=by rfl) (hpc:c.pc=false:=by rfl) (hhm:c.hm=none:=by rfl) (h1:c'.fns=c.fns:=by rfl) (h2:c'.lim=c.lim+1:=by rfl) (h3:c'.blts=c.blts:=by rfl) (h4:c'.gl=c.gl:=by rfl) (hx:c.fns[c.lim]?=some x:=by rfl) (hs:Γ c.lim=sp:=by rfl) (hr:F.rz.contains c.lim=false:=by rfl):JX P w K mg base c' F Γ ΓR ca:=by
 obtain⟨f,oc,od,kV,dc,pm,an,cd,ct,sl,a,l,cc,k⟩:=d;subst hs;exact⟨J.g.next h1 h2 h3 h4 hx (E7 (At.mk' X Gn hb a l cc k) S hN hn hc J.g J.x T hE (fun _ _ _=>len) (fun _ _ _=>hw) hpc hhm),J.x.skip h1 h2 hr⟩
abbrev CI (K:W.Frag)(x:Str)(C:Addr):Prop:=W.nsIn K mainGlobals x=some (some (.ref C))/\findIn K (.ref C) "__getattribute__"=some (some (.builtin "BaseException.__getattribute__"))/\findIn K (.ref C) "__getattr__"=some none/\findIn K (.ref C) "__class__"=some (some (.builtin "object.__class__"))/\mroIn K C (.type "object")=some true/\mroIn K C (.type "BaseException")=some true/\typeIn K (.ref C)=some (.type "type")/\(∃cd,clsIn K C=some cd)
theorem CI_mk (a:W.nsIn K mainGlobals x=some (some (.ref C)))(b:findIn K (.ref C) "__getattribute__"=some (some (.builtin "BaseException.__getattribute__")))(c:findIn K (.ref C) "__getattr__"=some none)(d:findIn K (.ref C) "__class__"=some (some (.builtin "object.__class__")))(e:mroIn K C (.type "object")=some true)(f:mroIn K C (.type "BaseException")=some true)(g:typeIn K (.ref C)=some (.type "type"))(h:clsIn K C=some cd):CI K x C:=⟨a,b,c,d,e,f,g,cd,h⟩
theorem CI.cl (c:CI K x C):XCl K C:=⟨c.2.1,c.2.2.1,c.2.2.2.1,c.2.2.2.2.1,c.2.2.2.2.2.1,c.2.2.2.2.2.2.1,c.2.2.2.2.2.2.2⟩
end
end FW
namespace FW
open PySem L2 HX
noncomputable def F3 (Γ ΓR:Nat->FSp)(ss:XSs)(D:aK)(Wx:XW):aK:={ D with nx:=fun ρ1 st1=>cw Γ ΓR ss ρ1 st1 D Wx }
noncomputable def ES (Γ ΓR:Nat->FSp)(n:Nat)(rel:Nat->Nat->Bool)(ss:TSs)(D:aK):aK:={ D with nx:=fun ρ1 st1=>eQ Γ ΓR n rel ss ρ1 st1 D }
section
variable {Γ ΓR:Nat->FSp}{ρ:Fr}{st:AH}{D:aK}{Wx:XW}{Q:EK}{n:Nat}{rel:Nat->Nat->Bool}
theorem Kc:(F3 Γ ΓR ss D Wx).nx ρ st=cw Γ ΓR ss ρ st D Wx:=rfl
theorem Ld:(F3 Γ ΓR ss D Wx).rt v st=D.rt v st:=rfl
theorem JA:(F3 Γ ΓR ss D Wx).rt=D.rt:=rfl
theorem Ll:(ES Γ ΓR n rel ss D).nx ρ st=eQ Γ ΓR n rel ss ρ st D:=rfl
theorem J0:(ES Γ ΓR n rel ss D).rt v st=D.rt v st:=rfl
theorem HI:(ES Γ ΓR n rel ss D).rt=D.rt:=rfl
theorem Ko:cw Γ ΓR .nil ρ st D Wx=D.nx ρ st:=rfl
theorem JW:cw Γ ΓR (.cons s ss) ρ st D Wx=wpX Γ ΓR s ρ st (F3 Γ ΓR ss D Wx) Wx:=rfl
theorem MU:wpX Γ ΓR (.st s) ρ st D Wx=wpS Γ s ρ st D:=rfl
theorem Nw:wpX Γ ΓR (.ifX t a b) ρ st D Wx=wpT Γ t ρ st fun k st1=>if k=true then cw Γ ΓR a ρ st1 D Wx else cw Γ ΓR b ρ st1 D Wx:=rfl
theorem MI:wpX Γ ΓR (.forX t it b) ρ st D Wx=eg Γ it ρ st fun xs chk st1=>m9 chk (fun x ρ' st' D'=>cX Γ t x ρ' st' fun ρ2 st2=>cw Γ ΓR b ρ2 st2 D' Wx) D xs ρ st1:=rfl
theorem IM {i f:Nat}:wpX Γ ΓR (.setC i f it y) ρ st D Wx=eg Γ it ρ st fun xs chk st1=>xs.length<100000/\ff (ΓR f) chk xs [] st1 (fun vs st2=>D.nx (ρ.set i (some (.tup vs))) (st2++[.lst vs])) Wx:=rfl
theorem Ha {f:Nat}:wpX Γ ΓR (.retC f it y) ρ st D Wx=eg Γ it ρ st fun xs chk st1=>xs.length<100000/\ff (ΓR f) chk xs [] st1 (fun vs st2=>D.rt (.tup vs) (st2++[.lst vs])) Wx:=rfl
theorem FE {k:Nat}:wpX Γ ΓR (.raise k) ρ st D Wx=Wx k st:=rfl
theorem Ls {i f:Nat}:wpX Γ ΓR (.setX i f es) ρ st D Wx=cj Γ es ρ st fun vs st1=>ΓR f vs st1 (m_ (fun v st2=>D.nx (ρ.set i (some v)) st2) Wx):=rfl
theorem KU:(lh st0 Q).nx ρ st=Ret st0 (fun v s=>Q (okR v) s) .non st:=rfl
theorem Lu {v:PV}:(lh st0 Q).rt v st=Ret st0 (fun v s=>Q (okR v) s) v st:=rfl
theorem JV:(lh st0 Q).rt=Ret st0 (fun v s=>Q (okR v) s):=rfl
theorem Lh {k:Nat}:pR st0 Q k st=Ret st0 (fun _ s=>Q (exR k) s) .non st:=rfl
theorem Hf:eQ Γ ΓR n rel .nil ρ st D=D.nx ρ st:=rfl
theorem L8:eQ Γ ΓR n rel (.st s r) ρ st D=wpS Γ s ρ st (ES Γ ΓR n rel r D):=rfl
theorem Mr {i f j:Nat}:eQ Γ ΓR n rel (.tr i w f es j hs r) ρ st D=cj Γ es ρ st fun vs st1=>ΓR f vs st1 (m_ (fun v st2=>eQ Γ ΓR n rel r (ρ.set i (some (.tup [.str w,v]))) st2 D)
   fun k st2=>k<n/\rel k 0=true/\∃ρ',yg (rel k) hs (ρ.set j none)=some ρ'/\eQ Γ ΓR n rel r (ρ'.set j none) st2 D):=rfl
end
theorem lN {sp:FSp}(ms:∀ {as st Q Q'},(∀v st,Q v st->Q' v st)->sp as st Q->sp as st Q'){st:AH}{Q':EK}(h:∀v st,Q v st->Q' v st)(q:okO sp as st Q):okO sp as st Q':=ms (cC h fun _ _ z=>z) q
end FW
namespace My
open PySem L2 HX FW
noncomputable def top (i:Nat):Stmt:=PySem.Challenge.pw_hourstairs_k26_whole_no_texts.main.body.getD i (.Pass ⟨0,0,0,0⟩)
theorem bu {st:AH}{v:PV}(h:v.bel st.length=true):∃n,bT st v=some n:=by
 cases v with
 | ref k =>
  rw[PV.bel] at h;have hk:=P2 h;have e:st[k]?=some st[k]:=O6 hk;cases q:st[k] with
  | lst xs=>exact ⟨"list",by simp [bT,e,q]⟩
  | dk xs=>exact ⟨"dict",by simp [bT,e,q]⟩
  | fz xs=>exact ⟨"dict",by simp [bT,e,q]⟩
 | fn a=>rw[PV.bel] at h;cases h
 | _=>exact⟨_,rfl⟩
noncomputable def gL:PV->Bool
 | .int _=>true
 | _=>false
theorem qG {n:String}(h:bT st v=some n):gL v=(bI "int" n && !bI "bool" n):=by
 cases v with
 | ref k =>unfold bT at h;simp only at h;split at h <;> cases h <;> rfl
 | fn a=>cases h
 | _=>cases h;rfl
noncomputable def bt:PV->Bool
 | .tup [.int n,.int d]=>decide (0<=n/\1<=d/\Nat.gcd n.natAbs d.natAbs=1)
 | _=>false
theorem qy {n:String}(h:bT st v=some n):(bI "tuple" n=true->∃xs,v=.tup xs)/\(bI "tuple" n=false->bt v=false):=by
 cases v with
 | tup xs=>cases h;exact⟨fun _=>⟨xs,rfl⟩,fun z=>absurd z (by decide)⟩
 | ref k =>unfold bT at h;simp only at h;split at h <;> cases h <;> exact⟨fun z=>absurd z (by decide),fun _=>rfl⟩
 | fn a=>cases h
 | _=>cases h;exact⟨fun z=>absurd z (by decide),fun _=>rfl⟩
theorem jg {x:PV}:bt (.tup [x,y])=(match x,y with | .int n,.int d=>decide (0<=n/\1<=d/\Nat.gcd n.natAbs d.natAbs=1)|_,_=>false):=by cases x <;> cases y <;> rfl
theorem wU {xs:List PV}(hl:xs.length≠2):bt (.tup xs)=false:=by
 match xs,hl with
 | [],_=>rfl
 | [x],_=>cases x <;> rfl
 | [_,_],hl=>exact absurd rfl hl
 | x::y::_::_,_=>cases x <;> cases y <;> rfl
theorem jw {k:Nat}:∀ {xs:List PV}{x:PV},PV.bels k xs=true->x∈xs->x.bel k=true
 | [],x,_,h=>nomatch h
 | y::ys,x,z,h=>by
  rw[PV.bels,OU] at z;rcases PQ.mp h with rfl|h
  ·exact z.1
  ·exact jw z.2 h
theorem wI {n d:Int}(h0:0<=n)(h1:1<=d):decide (((Nat.gcd n.toNat d.toNat:Nat):Int)=1)=decide (0<=n/\1<=d/\Nat.gcd n.natAbs d.natAbs=1):=by
 have e1:n.natAbs=n.toNat:=by omega
 have e2:d.natAbs=d.toNat:=by omega
 rw[e1,e2];simp[h0,h1];omega
theorem pv {n d:Nat}(h:0<d)(h2:d<2 ^ 8000):CBig (Nat.gcd n d:Nat):=by have h3:0<Nat.gcd n d:=R5 _ h;have h4:Nat.gcd n d<=d:=Nat.gcd_le_right _ h;refine⟨by omega,?_⟩;have h5:((Nat.gcd n d:Nat):Int).natAbs=Nat.gcd n d:=rfl;rw[h5];have:Nat.gcd n d<2 ^ 8000:=R9 h4 h2;have:=(S8 (by omega)).mpr this;omega
noncomputable abbrev pc (q r:Int):Cell:=.lst [.int q,.int r]
theorem II {q r:Int}{k:Nat}:(pc q r).bel k=true:=by simp[pc,Cell.bel,PV.bels,PV.bel]
theorem Lc:yt 10 12:=⟨by decide,by decide,by decide⟩
theorem K4:yt 10 18:=⟨by decide,by decide,by decide⟩
theorem zK {j:Int}(h:0<j)(h2:j<2 ^ 200):CBig j:=CBig.of h (Int.lt_of_lt_of_le h2 (by
 have:((2:Int) ^ 200)=((2 ^ 200:Nat):Int):=by rw[TQ];rfl
 have e2:((2:Int) ^ 8999)=((2 ^ 8999:Nat):Int):=by rw[TQ];rfl
 rw[this,e2];exact Int.ofNat_le.mpr (P5 (by decide) (by decide))))
theorem zL {i j:Int}(h1:-(2 ^ 64)<i)(h2:i<2 ^ 64):CMB i j:=.inr (.inl ⟨h1,h2⟩)
theorem oo {i j:Int}(h1:-(2 ^ 64)<j)(h2:j<2 ^ 64):CMB i j:=.inr (.inr ⟨h1,h2⟩)
theorem L6 {ns:List Int}(h:ns.length<=63):jc (ns.map PV.int) none (some 63)=ns.map PV.int:=by
 unfold jc;have e:HT.sIx (ns.map PV.int).length (ns.map PV.int).length (some (63:Int))=(ns.map PV.int).length:=by have:=HT.sIx_nat (ns.map PV.int).length (ns.map PV.int).length 63;rw[show ((63:Nat):Int)=(63:Int) from rfl] at this;rw[this,O1];omega
 rw[HT.sIx_none,e,SG,Nat.sub_zero,RG]
theorem BY {ns:List Int}{k:Nat}(h:k<ns.length):atI (ns.map PV.int) (k:Int)=some (.int (ns.getD k 0)):=by refine cB ?_;rw[PC,List.getD_eq_getElem?_getD,O6 h];rfl
theorem Lp:(10:Nat) ^ 12<2 ^ 8000:=OW (by decide:(10:Nat) ^ 12<2 ^ 64) (P5 (by decide) (by decide))
theorem FY {n d:Nat}(h:0<d):Nat.gcd (n/Nat.gcd n d) (d/Nat.gcd n d)=1:=Nat.gcd_div_gcd_div_gcd_of_pos_right h
theorem Ed {n d:Nat}(h:0<d):0<d/Nat.gcd n d:=Nat.div_pos (Nat.gcd_le_right _ h) (R5 _ h)
theorem xZ (n d:Nat):n/Nat.gcd n d*d=n*(d/Nat.gcd n d):=by
 obtain⟨a,ha⟩:=Nat.gcd_dvd_left n d;obtain⟨b,hb⟩:=Nat.gcd_dvd_right n d;by_cases h:Nat.gcd n d=0
 ·rw[h,Nat.div_zero,Nat.div_zero,T2,Nat.mul_zero]
 ·have e1:n/Nat.gcd n d=a:=by rw[Nat.div_eq_of_eq_mul_right (by omega) ha]
  have e2:d/Nat.gcd n d=b:=by rw[Nat.div_eq_of_eq_mul_right (by omega) hb]
  rw[e1,e2];generalize Nat.gcd n d=g at *;subst ha hb;rw[<-Nat.mul_assoc,S1 a g]
theorem AZ {i:Int}(h0:-1000000000001<i)(h1:i<1000000000001):i.natAbs.log2<1920:=by
 by_cases h:i.natAbs=0
 ·rw[h];decide
 ·have:i.natAbs<2 ^ 64:=by omega
  have:=(S8 h).mpr this;omega
theorem xX {n i:Nat}(h:(bY 0 ((n:Int).toNat))[i]?=some v):v=.int i/\i<n:=by
 unfold bY at h;rw[PC] at h;have hi:i<n:=by
  by_cases hi:i<n
  ·exact hi
  ·rw[QU (by simp;omega)] at h;cases h
 rw[RD (by simpa using hi)] at h;cases h;exact⟨by simp,hi⟩
theorem sV {a b:Int}:lP st (.tup [.int a,.int b])=some (.tuple [.int a,.int b]):=by simp[lP,PV.toD,PV.toDs]
theorem ow (a b:Int):SeqAt.shaped (.tuple [.int a,.int b])=true:=by simp[SeqAt.shaped,PyData.canLay0,PyData.canLayAll0,PyData.depth,PyData.depthAll]
theorem B9 (a b c d:Int):PyData.eqv (.tuple [.int a,.int b]) (.tuple [.int c,.int d])=(decide (a=c) && decide (b=d)):=by simp[PyData.eqv,PyData.eqvAll,Bool.beq_eq_decide_eq]
theorem wD {a b c d:Int}{k:Bool->Prop}(h:k (decide (a=c) && decide (b=d))):eqW st (.tup [.int a,.int b]) (.tup [.int c,.int d]) k :=
 ⟨_,_,sV,sV,ow _ _,ow _ _,by rw[B9];exact h⟩
def a_:FSp:=fun as st Q=>∃v,as=[v]/\v.bel st.length=true/\Q (.bl (gL v)) st
theorem kr {as st Q Q'}(h:∀v st,Q v st->Q' v st)(q:a_ as st Q):a_ as st Q':=by obtain⟨v,e,b,q⟩:=q;exact⟨v,e,b,h _ _ q⟩
theorem lK {as st Q}(q:a_ as st Q):as.length=1:=by obtain⟨v,rfl,_⟩:=q;rfl
noncomputable abbrev cM:=a_
theorem kG {as st Q Q'}(h:∀v st,Q v st->Q' v st)(q:a_ as st Q):a_ as st Q':=kr h q
theorem lF {as st Q}(q:a_ as st Q):as.length=1:=lK q
def aQ:FSp:=fun as st Q=>∃n d:Nat,as=[.int n,.int d]/\Q (.int (Nat.gcd n d:Nat)) st
theorem j9 {as st Q Q'}(h:∀v st,Q v st->Q' v st)(q:aQ as st Q):aQ as st Q':=by obtain⟨n,d,e,q⟩:=q;exact⟨n,d,e,h _ _ q⟩
theorem kP {as st Q}(q:aQ as st Q):as.length=2:=by obtain⟨n,d,rfl,_⟩:=q;rfl
def bE:FSp:=fun as st Q=>∃v,as=[v]/\v.bel st.length=true/\Q (.bl (bt v)) st
theorem nO {as st Q Q'}(h:∀v st,Q v st->Q' v st)(q:bE as st Q):bE as st Q':=by obtain⟨v,e,b,q⟩:=q;exact⟨v,e,b,h _ _ q⟩
theorem pe {as st Q}(q:bE as st Q):as.length=1:=by obtain⟨v,rfl,_⟩:=q;rfl
noncomputable abbrev low (n d:Nat):PV:=.tup [.int (n/Nat.gcd n d:Nat),.int (d/Nat.gcd n d:Nat)]
def cz:FSp:=fun as st Q=>∃n d:Nat,as=[.int n,.int d]/\0<d/\d<2 ^ 8000/\Q (low n d) st
theorem se {as st Q Q'}(h:∀v st,Q v st->Q' v st)(q:cz as st Q):cz as st Q':=by obtain⟨n,d,e,h1,h2,q⟩:=q;exact⟨n,d,e,h1,h2,h _ _ q⟩
theorem vb {as st Q}(q:cz as st Q):as.length=2:=by obtain⟨n,d,rfl,_⟩:=q;rfl
noncomputable abbrev fr (p:Nat × Nat):PV:=.tup [.int p.1,.int p.2]
noncomputable def bV (n d:Nat):Nat × Nat:=(n/Nat.gcd n d,d/Nat.gcd n d)
theorem xC (n d:Nat):(bV n d).1*d=n*(bV n d).2:=xZ n d
theorem pQ {n d:Nat}(h:0<d):0<(bV n d).2:=Ed h
theorem DV {n d:Nat}(h:0<d):Nat.gcd (bV n d).1 (bV n d).2=1:=FY h
theorem ly (n d:Nat):(bV n d).1<=n:=Nat.div_le_self _ _
theorem mC (n d:Nat):(bV n d).2<=d:=Nat.div_le_self _ _
theorem IG {a b c d:Nat}(h1:Nat.gcd a b=1)(h2:Nat.gcd c d=1)(hb:0<b)(hd:0<d)(h:a*d=c*b):a=c/\b=d:=by
 have hbd:b ∣ d:=by have:b ∣ a*d:=⟨c,by rw[h,S1]⟩;exact Nat.Coprime.dvd_of_dvd_mul_left (show Nat.Coprime b a by unfold Nat.Coprime;rw[SI];exact h1) this
 have hdb:d ∣ b:=by have:d ∣ c*b:=⟨a,by rw[<-h,S1]⟩;exact Nat.Coprime.dvd_of_dvd_mul_left (show Nat.Coprime d c by unfold Nat.Coprime;rw[SI];exact h2) this
 have e:b=d:=Nat.dvd_antisymm hbd hdb;subst e;exact⟨Nat.eq_of_mul_eq_mul_right hb h,rfl⟩
noncomputable def bG (p q:Nat × Nat):Nat × Nat:=bV (p.1*q.2-q.1*p.2) (p.2*q.2)
noncomputable def zV (p q:Nat × Nat):Nat × Nat:=bV (p.1*q.1) (p.2*q.2)
noncomputable def gJ (p q:Nat × Nat):Nat × Nat:=bV (p.1*q.2) (p.2*q.1)
structure Cop (p:Nat × Nat):Prop where
 pos:0<p.2
 one:Nat.gcd p.1 p.2=1
theorem Cop.low {n d:Nat}(h:0<d):Cop (bV n d):=⟨pQ h,DV h⟩
theorem Cop.ext (h1:Cop p)(h2:Cop q)(h:p.1*q.2=q.1*p.2):p=q:=by obtain⟨e1,e2⟩:=IG h1.one h2.one h1.pos h2.pos h;exact Prod.ext e1 e2
theorem Cop.isFr (h:Cop p):bt (fr p)=true:=by show bt (.tup [.int _,.int _])=true;rw[jg];refine PJ ⟨Int.natCast_nonneg _,Int.ofNat_le.mpr h.pos,?_⟩;rw[Int.natAbs_natCast,Int.natAbs_natCast];exact h.one
theorem dE {p q:Nat × Nat}(hp:0<p.2)(hq:0<q.2):Cop (bG p q):=.low (QR hp hq)
theorem vn {p q:Nat × Nat}(hp:0<p.2)(hq:0<q.2):Cop (zV p q):=.low (QR hp hq)
theorem vE {p q:Nat × Nat}(hp:0<p.2)(hq:0<q.1):Cop (gJ p q):=.low (QR hp hq)
structure Sz (k:Nat)(p:Nat × Nat):Prop where
 a:p.1<2 ^ k
 b:p.2<2 ^ k
 pos:0<p.2
theorem Sz.mono {j k:Nat}(h:Sz j p)(hk:j<=k):Sz k p:=⟨OW h.a (P5 (by decide) hk),OW h.b (P5 (by decide) hk),h.pos⟩
theorem xG {a b j k:Nat}(h1:a<2 ^ j)(h2:b<2 ^ k):a*b<2 ^ (j+k):=by
 rw[Nat.pow_add];by_cases hb:b=0
 ·subst hb;simp only[Nat.mul_zero];exact QR (by omega) (by omega)
 ·exact OW (Nat.mul_lt_mul_of_pos_right h1 (by omega)) (Nat.mul_le_mul_left _ (QN h2))
theorem jI {j k:Nat}(hp:Sz j p)(hq:Sz k q):Sz (j+k) (bG p q):=by have h1:=xG hp.a hq.b;have h3:=xG hp.b hq.b;refine⟨R9 (ly _ _) (by omega),R9 (mC _ _) (by omega),pQ (QR hp.pos hq.pos)⟩
def M_ (p q:Nat × Nat):Prop:=p.1*q.2<q.1*p.2
noncomputable instance (p q:Nat × Nat):Decidable (M_ p q):=inferInstanceAs (Decidable (_<_))
mutual
noncomputable def aW:Nat->PV->Bool
 | _,.int _=>true
 | _,.non=>true
 | 0,.tup _=>false
 | n+1,.tup xs=>dh n xs
 | _,.bl _=>false
 | _,.str _=>false
 | _,.ref _=>false
 | _,.rdl _=>false
 | _,.fn _=>false
noncomputable def dh:Nat->List PV->Bool
 | _,[]=>true
 | n,x::xs=>aW n x && dh n xs
end
mutual
theorem iu:∀ {n:Nat}{v:PV},aW n v=true->∃d,v.toD=some d/\d.canLay0=true/\d.depth<=n+1
 | n,.int i,_=>⟨.int i,by simp[PV.toD],by simp[PyData.canLay0],by simp[PyData.depth]⟩
 | n,.non,_=>⟨.none,by simp[PV.toD],by simp[PyData.canLay0],by simp[PyData.depth]⟩
 | 0,.tup xs,h=>by simp[aW] at h
 | n+1,.tup xs,h=>by rw[aW] at h;obtain⟨ds,e,h1,h2⟩:=b_ h;exact⟨.tuple ds,by simp[PV.toD,e],by simp[PyData.canLay0,h1],by simp[PyData.depth];omega⟩
 | n,.bl _,h=>by cases n <;> simp[aW] at h
 | n,.str _,h=>by cases n <;> simp[aW] at h
 | n,.ref _,h=>by cases n <;> simp[aW] at h
 | n,.rdl _,h=>by cases n <;> simp[aW] at h
 | n,.fn _,h=>by cases n <;> simp[aW] at h
theorem b_:∀ {n:Nat}{vs:List PV},dh n vs=true->∃ds,PV.toDs vs=some ds/\PyData.canLayAll0 ds=true/\PyData.depthAll ds<=n+1
 | n,[],_=>⟨[],by simp[PV.toDs],by simp[PyData.canLayAll0],by simp[PyData.depthAll]⟩
 | n,x::xs,h=>by rw[dh,OU] at h;obtain⟨d,e1,h1,h2⟩:=iu h.1;obtain⟨ds,e2,h3,h4⟩:=b_ h.2;exact⟨d::ds,by simp[PV.toDs,e1,e2],by simp[PyData.canLayAll0,h1,h3],by simp[PyData.depthAll];omega⟩
end
mutual
theorem sN:∀ {n:Nat}{v w:PV}{d e:PyData},aW n v=true->aW n w=true->v.toD=some d->w.toD=some e->PyData.eqv d e=v.same w
 | n,.int i,w,d,e,_,hw,hd,he=>by
  simp[PV.toD] at hd;subst hd;cases w with
  | int j=>simp[PV.toD] at he;subst he;simp[PyData.eqv,PV.same,Bool.beq_eq_decide_eq]
  | non=>simp[PV.toD] at he;subst he;simp[PyData.eqv,PV.same]
  | tup ys =>
   cases n with
   | zero=>simp[aW] at hw
   | succ n =>rw[aW] at hw;obtain⟨ds,e1,h1,h2⟩:=b_ hw;simp[PV.toD,e1] at he;subst he;simp[PyData.eqv,PV.same]
  | _=>cases n <;> simp[aW] at hw
 | n,.non,w,d,e,_,hw,hd,he=>by
  simp[PV.toD] at hd;subst hd;cases w with
  | int j=>simp[PV.toD] at he;subst he;simp[PyData.eqv,PV.same]
  | non=>simp[PV.toD] at he;subst he;simp[PyData.eqv,PV.same]
  | tup ys =>
   cases n with
   | zero=>simp[aW] at hw
   | succ n =>rw[aW] at hw;obtain⟨ds,e1,h1,h2⟩:=b_ hw;simp[PV.toD,e1] at he;subst he;simp[PyData.eqv,PV.same]
  | _=>cases n <;> simp[aW] at hw
 | 0,.tup xs,w,d,e,hv,_,_,_=>by simp[aW] at hv
 | n+1,.tup xs,w,d,e,hv,hw,hd,he=>by
  rw[aW] at hv;obtain⟨ds,e1,h1,h2⟩:=b_ hv;simp[PV.toD,e1] at hd;subst hd;cases w with
  | int j=>simp[PV.toD] at he;subst he;simp[PyData.eqv,PV.same]
  | non=>simp[PV.toD] at he;subst he;simp[PyData.eqv,PV.same]
  | tup ys =>rw[aW] at hw;obtain⟨es,e2,h3,h4⟩:=b_ hw;simp[PV.toD,e2] at he;subst he;simp only[PyData.eqv,PV.same];exact qe hv hw e1 e2
  | _=>simp[aW] at hw
 | n,.bl _,_,_,_,h,_,_,_=>by cases n <;> simp[aW] at h
 | n,.str _,_,_,_,h,_,_,_=>by cases n <;> simp[aW] at h
 | n,.ref _,_,_,_,h,_,_,_=>by cases n <;> simp[aW] at h
 | n,.rdl _,_,_,_,h,_,_,_=>by cases n <;> simp[aW] at h
 | n,.fn _,_,_,_,h,_,_,_=>by cases n <;> simp[aW] at h
theorem qe:∀ {n:Nat}{vs ws:List PV}{ds es:List PyData},dh n vs=true->dh n ws=true->PV.toDs vs=some ds->PV.toDs ws=some es->PyData.eqvAll ds es=PV.sames vs ws
 | n,[],ws,ds,es,_,hw,hd,he=>by
  simp[PV.toDs] at hd;subst hd;cases ws with
  | nil=>simp[PV.toDs] at he;subst he;simp[PyData.eqvAll,PV.sames]
  | cons y ys =>
   obtain⟨zs,e1,h1,h2⟩:=b_ hw;rw[e1] at he;cases he;cases es with
   | nil =>rw[PV.toDs] at e1;split at e1 <;> simp at e1
   | cons=>simp[PyData.eqvAll,PV.sames]
 | n,x::xs,ws,ds,es,hv,hw,hd,he=>by
  rw[dh,OU] at hv;obtain⟨d1,a1,b1,c1⟩:=iu hv.1;obtain⟨ds1,a2,b2,c2⟩:=b_ hv.2;simp[PV.toDs,a1,a2] at hd;subst hd;cases ws with
  | nil=>simp[PV.toDs] at he;subst he;simp[PyData.eqvAll,PV.sames]
  | cons y ys =>rw[dh,OU] at hw;obtain⟨d3,a3,b3,c3⟩:=iu hw.1;obtain⟨ds4,a4,b4,c4⟩:=b_ hw.2;simp[PV.toDs,a3,a4] at he;subst he;rw[PyData.eqvAll,PV.sames,sN hv.1 hw.1 a1 a3,qe hv.2 hw.2 a2 a4]
end
theorem qh {v:PV}(h:v.toD=some d):lP st v=some d:=by
 cases v with
 | ref n=>simp[PV.toD] at h
 | _=>exact h
theorem uG {n:Nat}{k:Bool->Prop}(hn:n<=60)(hv:aW n v=true)(hw:aW n w=true)(h:k (v.same w)):eqW st v w k:=by
 obtain⟨d,e1,h1,h2⟩:=iu hv;obtain⟨e,e2,h3,h4⟩:=iu hw;have big:∃d e,lP st v=some d/\lP st w=some e/\SeqAt.shaped d=true/\SeqAt.shaped e=true/\k (PyData.eqv d e):=by
  refine⟨d,e,qh e1,qh e2,?_,?_,?_⟩
  ·simp[SeqAt.shaped,h1];omega
  ·simp[SeqAt.shaped,h3];omega
  ·rw[sN hv hw e1 e2];exact h
 cases v with
 | int i =>
  cases w with
  | int j =>show k (decide (i=j));simp only[PV.same,Bool.beq_eq_decide_eq] at h;exact h
  | _=>exact big
 | bl i=>cases n <;> simp[aW] at hv
 | str i=>cases n <;> simp[aW] at hv
 | _=>exact big
mutual
theorem oh:∀(v:PV),v.same v=true
 | .non=>by simp[PV.same]
 | .bl _=>by simp[PV.same]
 | .int _=>by simp[PV.same]
 | .str _=>by simp[PV.same]
 | .ref _=>by simp[PV.same]
 | .fn _=>by simp[PV.same]
 | .tup xs=>by rw[PV.same];exact iJ xs
 | .rdl xs=>by rw[PV.same];exact iJ xs
theorem iJ:∀(vs:List PV),PV.sames vs vs=true
 | []=>by simp[PV.sames]
 | x::xs=>by rw[PV.sames,oh x,iJ xs];rfl
end
theorem jY {n:Nat}:∀ {vs:List PV},(∀v∈vs,aW n v=true)->dh n vs=true
 | [],_=>by rw[dh]
 | x::xs,h=>by rw[dh,h x (by simp),jY fun v hv=>h v (by simp[hv])];rfl
theorem nQ {n:Nat}{vs:List PV}(h:∀v∈vs,aW n v=true):aW (n+1) (.tup vs)=true:=by rw[aW];exact jY h
def dH:FSp:=fun as st Q=>∃p q,as=[fr p,fr q]/\Sz 3000 p/\Sz 3000 q/\q.1*p.2<=p.1*q.2/\Q (fr (bG p q)) st
theorem sZ {as st Q Q'}(h:∀v st,Q v st->Q' v st)(q:dH as st Q):dH as st Q':=by obtain⟨a,b,e,h1,h2,h3,q⟩:=q;exact⟨a,b,e,h1,h2,h3,h _ _ q⟩
theorem wm {as st Q}(q:dH as st Q):as.length=2:=by obtain⟨n,d,rfl,_⟩:=q;rfl
def gc:FSp:=fun as st Q=>∃p q,as=[fr p,fr q]/\Sz 3000 p/\Sz 3000 q/\Q (fr (zV p q)) st
theorem xF {as st Q Q'}(h:∀v st,Q v st->Q' v st)(q:gc as st Q):gc as st Q':=by obtain⟨a,b,e,h1,h2,q⟩:=q;exact⟨a,b,e,h1,h2,h _ _ q⟩
theorem Ab {as st Q}(q:gc as st Q):as.length=2:=by obtain⟨n,d,rfl,_⟩:=q;rfl
def iI:FSp:=fun as st Q=>∃p q,as=[fr p,fr q]/\Sz 3000 p/\Sz 3000 q/\0<q.1/\Q (fr (gJ p q)) st
theorem AF {as st Q Q'}(h:∀v st,Q v st->Q' v st)(q:iI as st Q):iI as st Q':=by obtain⟨a,b,e,h1,h2,h3,q⟩:=q;exact⟨a,b,e,h1,h2,h3,h _ _ q⟩
theorem Dw {as st Q}(q:iI as st Q):as.length=2:=by obtain⟨n,d,rfl,_⟩:=q;rfl
def a8:FSp:=fun as st Q=>∃p q,as=[fr p,fr q]/\Sz 3000 p/\Sz 3000 q/\Q (.bl (decide (p.1*q.2<q.1*p.2))) st
theorem kh {as st Q Q'}(h:∀v st,Q v st->Q' v st)(q:a8 as st Q):a8 as st Q':=by obtain⟨a,b,e,h1,h2,q⟩:=q;exact⟨a,b,e,h1,h2,h _ _ q⟩
theorem lS {as st Q}(q:a8 as st Q):as.length=2:=by obtain⟨n,d,rfl,_⟩:=q;rfl
theorem ux {j k:Nat}(h:j<=k):(2:Nat) ^ j<=2 ^ k:=P5 (by decide) h
theorem lM {a b:Nat}(h1:a<2 ^ 3000)(h2:b<2 ^ 3000):CMB (a:Int) (b:Int):=.inl ⟨OW h1 (ux (by decide)),OW h2 (ux (by decide))⟩
theorem Eh {a b:Nat}(h1:a<2 ^ 3000)(h2:b<2 ^ 3000):a*b<2 ^ 8000:=OW (xG h1 h2) (ux (by decide))
theorem Bp {k:Nat}:(fr p).bel k=true:=by simp[fr,PV.bel,PV.bels]
theorem jk {p q:Nat × Nat}{k:Bool->Prop}(h:k (decide (p=q))):eqW st (fr p) (fr q) k:=by
 refine wD ?_;have:(decide ((p.1:Int)=q.1) && decide ((p.2:Int)=q.2))=decide (p=q):=by
  rw[RN];simp only[Bool.and_eq_true,decide_eq_true_eq];constructor
  ·rintro⟨h1,h2⟩;exact Prod.ext (by omega) (by omega)
  ·rintro rfl;exact⟨rfl,rfl⟩
 rw[this];exact h
def PK (q r:Int):Prop:=0<=q/\0<=r/\r<8589934592
def Pot (st:AH)(p:Nat):Prop:=∃q r,st[p]?=some (pc q r)/\PK q r
theorem Pot.lt {p:Nat}(h:Pot st p):p<st.length:=by obtain⟨q,r,e,_⟩:=h;exact eh e
theorem Pot.app {g:AH}{p:Nat}(h:Pot st p):Pot (st++g) p:=by obtain⟨q,r,e,z⟩:=h;exact⟨q,r,fj e,z⟩
structure Gr (st:AH)(p:Nat)(st':AH):Prop where
 len:st.length<=st'.length
 old:∀i,i<st.length->i≠p->st'[i]?=st[i]?
 pot:Pot st' p
 was:p<st.length
theorem Gr.refl {p:Nat}(h:Pot st p):Gr st p st:=⟨OX _,fun _ _ _=>rfl,h,h.lt⟩
theorem Gr.trans {p:Nat}(a:Gr st p s1)(b:Gr s1 p s2):Gr st p s2:=⟨O7 a.len b.len,fun i h1 h2=>(b.old i (OW h1 a.len) h2).trans (a.old i h1 h2),b.pot,a.was⟩
theorem Gr.app {g:AH}{p:Nat}(a:Gr st p s1):Gr st p (s1++g) :=
 ⟨by rw[PL];exact O7 a.len (Q1 _ _),fun i h1 h2=>by rw[O_ (OW h1 a.len)];exact a.old i h1 h2,a.pot.app,a.was⟩
theorem Gr.set {p:Nat}(a:Gr st p s1){q r:Int}(z:PK q r):Gr st p (s1.set p (pc q r)) :=
 ⟨by rw[SU];exact a.len,fun i h1 h2=>by rw[PR (Ne.symm h2)];exact a.old i h1 h2,⟨q,r,P0 a.pot.lt,z⟩,a.was⟩
theorem Gr.setN {p n:Nat}(a:Gr st p s1)(h:st.length<=n):Gr st p (s1.set n c):=by
 have hn:n≠p:=fun e=>by have:=a.was;omega
 refine⟨by rw[SU];exact a.len,fun i h1 h2=>by rw[PR (by omega)];exact a.old i h1 h2,?_,a.was⟩;obtain⟨q,r,e,z⟩:=a.pot;exact⟨q,r,by rw[PR hn];exact e,z⟩
theorem Gr.get {p n:Nat}(a:Gr st p s1)(h:st[n]?=some c)(hn:n≠p):s1[n]?=some c:=(a.old n (eh h) hn).trans h
theorem Gr.tmp {p:Nat}{v:PV}{Q:EK}(a:Gr st p s1)(hv:v.bel st.length=true)(k:∀s2,Gr st p s2->s2.length=st.length->Q v s2):Tmp st Q v s1:=by
 have hl:(s1.take st.length).length=st.length:=by rw[P8];exact Nat.min_eq_left a.len
 have hg:∀i,i<st.length->(s1.take st.length)[i]?=s1[i]?:=fun i hi=>by rw[RB hi]
 obtain⟨q,r,e,z⟩:=a.pot;refine⟨s1.take st.length,s1.drop st.length,(RR _ _).symm,hl,fun i hi=>?_,hv,k _ ⟨by omega,fun i h1 h2=>(hg i h1).trans (a.old i h1 h2),⟨q,r,(hg p a.was).trans e,z⟩,a.was⟩ hl⟩;by_cases hp:i=p
 ·subst hp;exact .inr ⟨pc q r,(hg i a.was).trans e,II⟩
 ·exact .inl ((hg i hi).trans (a.old i hi hp))
theorem LV:yt 10 9:=⟨by decide,by decide,by decide⟩
theorem Gx {L:List PV}{P:PV->Prop}(h:∀v∈L,P v){y:Int}(y0:0<=y)(y1:y<L.length):∃v,atI L y=some v/\P v:=by
 obtain⟨m,rfl⟩:∃m:Nat,y=m:=⟨y.toNat,by omega⟩;have hm:m<L.length:=by omega
 exact⟨L[m],cB (O6 hm),h _ (TJ hm)⟩
theorem Gr.ne {p:Nat}(a:Gr st p s1):s1.length≠p:=fun e=>by have:=a.pot.lt;omega
theorem eS {xs:List PV}{v:PV}:atI (xs++[v]) (-1)=some v:=by
 have e:(-1+((xs.length:Int)+1)).toNat=xs.length:=by omega
 simp only[atI,ixN,List.length_append,List.length_singleton];simp;rw[O0 (by omega),e];simp
theorem fU {n:Nat}:gW st (.ref n) st'=(st'[n]?=st[n]?):=rfl
theorem Nl {L:List PV}:jc L (some 1) none=L.drop 1:=by
 unfold jc;have:=HT.sIx_nat L.length 0 1;rw[show ((1:Nat):Int)=(1:Int) from rfl] at this;rw[HT.sIx_none,this];cases L with
 | nil=>rfl
 | cons x xs =>
  have:min 1 (x::xs).length=1:=by simp only[List.length_cons];omega
  rw[this];exact RM (by simp)
theorem Ej {v:PV}(h:v∈jc L lo hi):v∈L:=List.mem_of_mem_drop (RW h)
theorem Bb (h:bt v=true):∃n d:Nat,v=fr (n,d)/\0<d:=by
 unfold bt at h;split at h
 ·rename_i n d;have:=P2 h;refine⟨n.toNat,d.toNat,?_,by omega⟩;show PV.tup [.int n,.int d]=PV.tup [.int (n.toNat:Int),.int (d.toNat:Int)];rw[QI this.1,QI (by omega)]
 ·cases h
noncomputable def val (p:Nat × Nat):Rat:=(p.1:Rat)/(p.2:Rat)
theorem dI {d:Nat}(h:0<d):(0:Rat)<(d:Rat):=by have:((0:Nat):Rat)<(d:Rat):=SJ.mpr h;simpa using this
theorem bj {n d:Nat}(h:0<d):val (bV n d)=(n:Rat)/(d:Rat):=by
 have c:=xC n d;have p:=pQ (n:=n) h;unfold val;generalize bV n d=z at *;have e:(z.1:Rat)*d=n*z.2:=by have:=PU (fun k:Nat=>(k:Rat)) c;simpa using this
 have p1:=dI p;have p2:=dI h;grind
theorem kI {p:Nat × Nat}(hp:0<p.2):0<=val p:=by unfold val;rw[<-Q4,S5 (dI hp),Rat.zero_mul,Q4];exact Rat.natCast_nonneg
theorem zq {p q:Nat × Nat}(hp:0<p.2)(hq:0<q.2):val (zV p q)=val p*val q:=by unfold zV;rw[bj (QR hp hq)];unfold val;have p1:=dI hp;have p2:=dI hq;simp only[Rat.natCast_mul];grind
theorem gT {p q:Nat × Nat}(hp:0<p.2)(hq:0<q.2):p.1*q.2<q.1*p.2↔val p<val q:=by
 have p1:=dI hp;have p2:=dI hq;have e:(p.1*q.2<q.1*p.2)↔((p.1:Rat)*q.2<q.1*p.2):=by rw[<-SJ];simp
 rw[e];unfold val;rw[S5 p1];have e2:(q.1:Rat)/q.2*p.2=q.1*p.2/q.2:=by grind
 rw[e2,Rat.lt_div_iff p2]
theorem t7 {p q:Nat × Nat}(hp:0<p.2)(hq:0<q.2):p.1*q.2<=q.1*p.2↔val p<=val q:=by rw[<-TL,<-Q4,gT hq hp]
theorem fo {p q:Nat × Nat}(hp:0<p.2)(hq:0<q.2)(h:val q<=val p):val (bG p q)=val p-val q:=by
 have h':=(t7 hq hp).mpr h;unfold bG;rw[bj (QR hp hq)];unfold val;have p1:=dI hp;have p2:=dI hq;obtain⟨e,he⟩:∃e,p.1*q.2=q.1*p.2+e:=⟨p.1*q.2-q.1*p.2,by omega⟩;have e2:p.1*q.2-q.1*p.2=e:=by omega
 rw[e2];have e3:(p.1:Rat)*q.2=q.1*p.2+e:=by have:=PU (fun k:Nat=>(k:Rat)) he;simpa using this
 simp only[Rat.natCast_mul];grind
theorem pB {p:Nat × Nat}(hp:0<p.2):0<p.1↔0<val p:=by
 have:=gT (p:=(0,1)) (q:=p) (by decide) hp;simp only[Nat.zero_mul,Nat.mul_one] at this;rw[this];have e:val (0,1)=0:=by unfold val;grind
 rw[e]
theorem zl {p q:Nat × Nat}(hp:0<p.2)(hq:0<q.2)(h:0<val q):val (gJ p q)=val p/val q:=by have h0:=(pB hq).mpr h;unfold gJ;rw[bj (QR hp h0)];unfold val;have p1:=dI hp;have p2:=dI hq;have p3:=dI h0;simp only[Rat.natCast_mul];grind
theorem jW (hp:Cop p)(hq:Cop q)(h:val p=val q):p=q:=by refine hp.ext hq ?_;have a:=(t7 hp.pos hq.pos).mpr (by rw[h];exact TC);have b:=(t7 hq.pos hp.pos).mpr (by rw[h];exact TC);omega
theorem bF:val (0,1)=0:=by unfold val;grind
structure Pc where
 e:Nat × Nat
 l:Nat × Nat
 h:Nat × Nat
noncomputable abbrev Pc.E (p:Pc):Rat:=val p.e
noncomputable abbrev Pc.L (p:Pc):Rat:=val p.l
noncomputable abbrev Pc.H (p:Pc):Rat:=val p.h
noncomputable abbrev Pc.mg (a p:Pc):Pc:=⟨p.e,a.l,p.h⟩
noncomputable def gB (b:Nat × Nat)(a p:Pc):Bool:=decide (p.l=a.h) && decide (zV (bG a.h a.l) (bG p.e a.e)=zV (bG p.h p.l) (bG a.e b))
noncomputable def gf (b:Nat × Nat)(a:Pc):List Pc->List Pc
 | []=>[a]
 | p::r=>if gB b a p=true then gf b (a.mg p) r else a::gf a.e p r
noncomputable def sY:List Pc->List Pc
 | []=>[]
 | p::r=>gf (0,1) p r
structure Pc.Ok (p:Pc):Prop where
 e:Cop p.e
 l:Cop p.l
 h:Cop p.h
noncomputable def Ch (b:Rat):List Pc->Prop
 | []=>True
 | p::r=>p.Ok/\b<p.E/\p.L<=p.H/\Ch p.E r
def Sl (b:Rat)(p:Pc)(s:Rat):Prop:=p.H-p.L=s*(p.E-b)
theorem Sl.ex {b:Rat}{p:Pc}(h:b<p.E):∃s,Sl b p s:=⟨(p.H-p.L)/(p.E-b),by unfold Sl;grind⟩
theorem nL {a p:Pc}{s:Rat}(hb:Cop b)(ha:a.Ok)(hp:p.Ok)(h1:val b<=a.E)(h2:a.E<p.E)(h3:a.L<=a.H)(h4:p.L<=p.H)(hs:Sl a.E p s):gB b a p=true↔p.l=a.h/\Sl (val b) a s:=by
 have q1:=fo ha.h.pos ha.l.pos h3;have q2:=fo hp.e.pos ha.e.pos (QW h2);have q3:=fo hp.h.pos hp.l.pos h4;have q4:=fo ha.e.pos hb.pos h1;have c1:=dE ha.h.pos ha.l.pos;have c2:=dE hp.e.pos ha.e.pos;have c3:=dE hp.h.pos hp.l.pos;have c4:=dE ha.e.pos hb.pos;have e1:=zq c1.pos c2.pos;have e2:=zq c3.pos c4.pos;rw[q1,q2] at e1;rw[q3,q4] at e2;unfold gB;rw[OU,decide_eq_true_eq,decide_eq_true_eq];unfold Sl at *;constructor
 ·rintro⟨g1,g2⟩;refine⟨g1,?_⟩;have:=PU val g2;rw[e1,e2] at this;have w:p.E-a.E≠0:=by grind
  have:(a.H-a.L-s*(a.E-val b))*(p.E-a.E)=0:=by grind
  have:=Rat.mul_eq_zero.mp this;grind
 ·rintro⟨g1,g2⟩;refine⟨g1,jW (vn c1.pos c2.pos) (vn c3.pos c4.pos) ?_⟩;rw[e1,e2];grind
theorem Ge {a p:Pc}(ha:a.Ok)(hp:p.Ok):(a.mg p).Ok:=⟨hp.e,ha.l,hp.h⟩
noncomputable def NG:Nat × Nat->List Pc->Prop
 | _,[]=>True
 | _,[_]=>True
 | b,a::p::r=>gB b a p=false/\NG a.e (p::r)
theorem ze:∀ {b:Nat × Nat}{a:Pc}{r:List Pc},NG b (a::r)->gf b a r=a::r
 | b,a,[],h=>rfl
 | b,a,p::r,h=>by rw[gf,OY (by rw[h.1];decide),ze h.2]
theorem zB:∀ {b:Nat × Nat}{a:Pc}{r:List Pc},Cop b->a.Ok->val b<a.E->a.L<=a.H->Ch a.E r->∃e' h' r',gf b a r=⟨e',a.l,h'⟩::r'/\Cop e'/\Cop h'/\a.E<=val e'/\a.L<=val h'/\∀s,Sl (val b) a s->val h'-a.L=s*(val e'-val b)
 | b,a,[],hb,ha,h1,h3,_=>⟨a.e,a.h,[],rfl,ha.e,ha.h,TC,h3,fun s hs=>hs⟩
 | b,a,p::r,hb,ha,h1,h3,⟨hp,h2,h4,hr⟩=>by
  rw[gf];by_cases g:gB b a p=true
  ·rw[O0 g];obtain⟨s,hs⟩:=Sl.ex h2;obtain⟨g1,g2⟩:=(nL hb ha hp (QW h1) h2 h3 h4 hs).mp g;have ev:p.L=a.H:=by unfold Pc.L Pc.H;rw[g1]
   obtain⟨e',h',r',k1,k2,k3,k4,k5,k6⟩:=zB (a:=a.mg p) hb (Ge ha hp) (by show val b<p.E;grind) (by show a.L<=p.H;grind) hr;refine⟨e',h',r',k1,k2,k3,?_,k5,fun t ht=>?_⟩
   ·show a.E<=val e';have:p.E<=val e':=k4;grind
   ·refine k6 t ?_;unfold Sl at *;show p.H-a.L=t*(p.E-val b);have:(s-t)*(a.E-val b)=0:=by grind
    have:=Rat.mul_eq_zero.mp this;grind
  ·rw[OY g];exact⟨a.e,a.h,_,rfl,ha.e,ha.h,TC,h3,fun s hs=>hs⟩
theorem Dk:∀ {b:Nat × Nat}{a:Pc}{r:List Pc},Cop b->a.Ok->val b<=a.E->a.L<=a.H->Ch a.E r->NG b (gf b a r)
 | b,a,[],hb,ha,h1,h3,_=>trivial
 | b,a,p::r,hb,ha,h1,h3,⟨hp,h2,h4,hr⟩=>by
  rw[gf];by_cases g:gB b a p=true
  ·rw[O0 g];obtain⟨s,hs⟩:=Sl.ex h2;obtain⟨g1,g2⟩:=(nL hb ha hp h1 h2 h3 h4 hs).mp g;have ev:p.L=a.H:=by unfold Pc.L Pc.H;rw[g1]
   exact Dk hb (Ge ha hp) (by show val b<=p.E;grind) (by show a.L<=p.H;grind) hr
  ·rw[OY g];have ng:=Dk (b:=a.e) (a:=p) ha.e hp (QW h2) h4 hr;obtain⟨e',h',r',k1,k2,k3,k4,k5,k6⟩:=zB (b:=a.e) (a:=p) ha.e hp h2 h4 hr;rw[k1] at ng |-
   refine⟨?_,ng⟩;rw[RV];intro z;obtain⟨s,hs⟩:=Sl.ex h2;have hs':Sl a.E ⟨e',p.l,h'⟩ s:=k6 s hs;obtain⟨z1,z2⟩:=(nL (p:=⟨e',p.l,h'⟩) hb ha ⟨k2,hp.l,k3⟩ h1 (show a.E<val e' by grind) h3 k5 hs').mp z;exact g ((nL hb ha hp h1 h2 h3 h4 hs).mpr ⟨z1,z2⟩)
inductive Co:Nat × Nat->List Pc->List Pc->Prop
 | nil {b}:Co b [] []
 | keep {b p r' r}:Co p.e r' r->Co b (p::r') (p::r)
 | cut {b p m c s r' r}:Cop m->Cop c->val b<val m->val m<p.E->p.L<=val c->val c<=p.H->Sl (val b) p s->val c-p.L=s*(val m-val b)->p.H-val c=s*(p.E-val m)->Co p.e r' r->Co b (⟨m,p.l,c⟩::⟨p.e,c,p.h⟩::r') (p::r)
noncomputable def Rt (b hh:Rat):List Pc->Prop
 | []=>True
 | p::r=>p.Ok/\b<p.E/\hh<=p.L/\p.L<=p.H/\p.E<=p.H/\Rt p.E p.H r
theorem Rt.ch:∀ {r:List Pc}{b hh:Rat},Rt b hh r->Ch b r
 | [],_,_,_=>trivial
 | p::r,b,hh,⟨h1,h2,h3,h4,h5,h6⟩=>⟨h1,h2,h4,h6.ch⟩
noncomputable def RtF:List Pc->Prop
 | []=>True
 | p::r=>p.Ok/\p.L<=p.H/\p.E<=p.H/\(0=p.E->p.L=p.H)/\Rt p.E p.H r
theorem Cy:Cop (0,1):=⟨by decide,by decide⟩
theorem CQ (h:RtF L):NG (0,1) (sY L):=by
 cases L with
 | nil=>trivial
 | cons a r =>have e0:0<=a.E:=kI h.1.e.pos;exact Dk Cy h.1 (by rw[bF];exact e0) h.2.1 h.2.2.2.2.ch
theorem Dz (h:NG (0,1) L):sY L=L:=by
 cases L with
 | nil=>rfl
 | cons a r=>exact ze h
theorem B0 {as st Q Q'}(h:∀v st,Q v st->Q' v st)(q:km as st Q):km as st Q':=by obtain⟨n,e,h1,q⟩:=q;exact⟨n,e,h1,fun z=>h _ _ (q z)⟩
theorem FS {as st Q}(q:km as st Q):as.length=1:=by obtain⟨n,rfl,_⟩:=q;rfl
noncomputable abbrev pcV (p:Pc):PV:=.tup [fr p.e,fr p.l,fr p.h]
noncomputable abbrev gk (L:List Pc):PV:=.tup (L.map pcV)
structure Pc.Sz (k:Nat)(p:Pc):Prop where
 e:My.Sz k p.e
 l:My.Sz k p.l
 h:My.Sz k p.h
def SzL (k:Nat)(L:List Pc):Prop:=∀p∈L,p.Sz k
theorem Pc.Sz.mono {j k:Nat}{p:Pc}(h:p.Sz j)(hk:j<=k):p.Sz k:=⟨h.e.mono hk,h.l.mono hk,h.h.mono hk⟩
theorem SzL.mono {j k:Nat}(h:SzL j L)(hk:j<=k):SzL k L:=fun p hp=>(h p hp).mono hk
noncomputable def LOk:List Pc->Prop
 | []=>True
 | p::r=>p.Ok/\p.L<=p.H/\Ch p.E r
theorem RtF.lok (h:RtF L):LOk L:=by
 cases L with
 | nil=>trivial
 | cons a r=>exact⟨h.1,h.2.1,h.2.2.2.2.ch⟩
noncomputable abbrev Un3:=Nat × Nat × Nat
noncomputable abbrev uV (u:Un3):PV:=.tup [.int u.1,.int u.2.1,.int u.2.2]
noncomputable def RU (b hh:Nat):List Un3->Prop
 | []=>True
 | u::r=>b<u.1/\hh<=u.2.1/\u.2.1<=u.2.2/\u.1<=u.2.2/\RU u.1 u.2.2 r
noncomputable def RUF:List Un3->Prop
 | []=>True
 | u::r=>u.2.1<=u.2.2/\u.1<=u.2.2/\(u.1=0->u.2.1=u.2.2)/\RU u.1 u.2.2 r
def BdU (N:Nat)(U:List Un3):Prop:=∀u∈U,u.1<=N/\u.2.1<=N/\u.2.2<=N
structure App (U:List Un3)(u:Un3):Prop where
 fst:U=[]->u.2.1<=u.2.2/\u.1<=u.2.2/\(u.1=0->u.2.1=u.2.2)
 nxt:∀v,U.getLast?=some v->v.1<u.1/\v.2.2<=u.2.1/\u.2.1<=u.2.2/\u.1<=u.2.2
noncomputable abbrev A9 (d:Nat)(u:Un3):Pc:=⟨bV u.1 d,bV u.2.1 d,bV u.2.2 d⟩
noncomputable abbrev fD:=dH
theorem pW {as st Q Q'}(h:∀v st,Q v st->Q' v st)(q:dH as st Q):dH as st Q':=sZ h q
theorem sv {as st Q}(q:dH as st Q):as.length=2:=wm q
noncomputable abbrev fF:=iI
theorem rD {as st Q Q'}(h:∀v st,Q v st->Q' v st)(q:iI as st Q):iI as st Q':=AF h q
theorem rN {as st Q}(q:iI as st Q):as.length=2:=Dw q
noncomputable abbrev eD:=a8
theorem ph {as st Q Q'}(h:∀v st,Q v st->Q' v st)(q:a8 as st Q):a8 as st Q':=kh h q
theorem qw {as st Q}(q:a8 as st Q):as.length=2:=lS q
abbrev Mo (s:FSp):Prop:=∀ {as:List PV}{st:AH}{Q Q':EK},(∀v st,Q v st->Q' v st)->s as st Q->s as st Q'
abbrev Ln (s:FSp)(n:Nat):Prop:=∀ {as:List PV}{st:AH}{Q:EK},s as st Q->as.length=n
local macro_rules | `(tactic| walk_at "MO")=>`(tactic| (intro as st Q Q' h q;repeat (first|exact h _ _ q|(obtain ⟨a,q⟩:=q;first|refine Exists.intro a ?_|refine And.intro a ?_)|(intro a;replace q:=q a))))
local macro_rules | `(tactic| walk_at "LN")=>`(tactic| (intro as st Q q;repeat (obtain ⟨a,q⟩:=q;try exact congrArg List.length a)))
def ee:FSp:=fun as st Q=>∃b a p,as=[fr b,pcV a,pcV p]/\Sz 600 b/\a.Sz 600/\p.Sz 600/\val b<=a.E/\a.E<p.E/\a.L<=a.H/\p.L<=p.H/\Q (.bl (gB b a p)) st
theorem u5:Mo ee:=by walk_at "MO"
theorem wA:Ln ee 3:=by walk_at "LN"
def jH:FSp:=fun as st Q=>∃L,as=[gk L]/\SzL 600 L/\LOk L/\L.length<1000/\Q (gk (sY L)) st
theorem Ae:Mo jH:=by walk_at "MO"
theorem CW:Ln jH 1:=by walk_at "LN"
def dv:FSp:=fun as st Q=>∃(ns:List Int) (k:Nat),as=[.rdl (ns.map .int),.int k]/\ns.length<=63/\k<9/\∀p s,(∃g,s=st++g)->st.length<=p->Pot s p->Q (.ref p) s
theorem sf:Mo dv:=by walk_at "MO"
theorem u_:Ln dv 2:=by walk_at "LN"
def cg:FSp:=fun as st Q=>∃(p:Nat) (many:Int),as=[.ref p,.int many]/\Pot st p/\0<many/\many<2 ^ 200/\∀x st',0<=x->x<many->Gr st p st'->Q (.int x) st'
theorem oJ:Mo cg:=by walk_at "MO"
theorem rk:Ln cg 2:=by walk_at "LN"
def dw:FSp:=fun as st Q=>∃n d:Nat,as=[.int n,.int d]/\0<d/\d<2 ^ 8000/\Q (low n d) st
theorem rT:Mo dw:=by walk_at "MO"
theorem uK:Ln dw 2:=by walk_at "LN"
def cE:FSp:=fun as st Q=>∃(p n:Nat) (far:Int) (U:List Un3),as=[.ref p,.ref n,.int far]/\Pot st p/\n≠p/\st[n]?=some (.lst (U.map uV))/\0<far/\far<=10 ^ 8/\RUF U/\U.length<=60/\BdU (4*10 ^ 9+3*10 ^ 8*U.length) U/\∀u st',App U u->BdU (4*10 ^ 9+3*10 ^ 8*(U.length+1)) [u]->Gr st p st'->Q (uV u) st'
theorem qH:Mo cE:=by walk_at "MO"
theorem sd:Ln cE 3:=by walk_at "LN"
def bw:FSp:=fun as st Q=>∃(p n:Nat) (U:List Un3) (v:Un3),as=[.ref p,.ref n]/\Pot st p/\n≠p/\st[n]?=some (.lst ((U++[v]).map uV))/\v.1<10 ^ 9/\v.2.2<10 ^ 9/\v.2.1<=v.2.2/\(∀w,U.getLast?=some w->w.1<v.1)/\U.length<=60/\∀u st',v.1<u.1->v.2.2<=u.2.1->u.2.1<=u.2.2->BdU (4*10 ^ 9) [u]->Gr st p st'->Q (uV u) st'
theorem kR:Mo bw:=by walk_at "MO"
theorem mF:Ln bw 2:=by walk_at "LN"
def cf:FSp:=fun as st Q=>∃(p:Nat) (most:Nat),as=[.ref p,.int most]/\Pot st p/\most<=40/\∀n U st',Gr st p st'->st.length<=n->st'[n]?=some (.lst (U.map uV))->RUF U->U.length<=most->BdU (10 ^ 11) U->Q (.ref n) st'
theorem o_:Mo cf:=by walk_at "MO"
theorem qK:Ln cf 2:=by walk_at "LN"
def bU:FSp:=fun as st Q=>∃p:Nat,as=[.ref p]/\Pot st p/\∀(d:Nat) st',0<d->d<10 ^ 12->Gr st p st'->Q (.int d) st'
theorem nV:Mo bU:=by walk_at "MO"
theorem oH:Ln bU 1:=by walk_at "LN"
def dA:FSp:=fun as st Q=>∃(x:PV) (d:Nat) (U:List Un3),as=[x,.int d]/\bP st x=some (U.map uV)/\(x=.tup (U.map uV)\/∃n,x=.ref n)/\0<d/\d<10 ^ 12/\U.length<1000/\Q (gk (U.map (A9 d))) st
theorem rQ:Mo dA:=by walk_at "MO"
theorem t5:Ln dA 2:=by walk_at "LN"
noncomputable def frP (v:PV):Option (Nat × Nat) :=
 match v with
 | .tup [.int n,.int d]=>if bt (.tup [.int n,.int d])=true then some (n.toNat,d.toNat) else none
 | _=>none
noncomputable def pcP (v:PV):Option Pc :=
 match v with
 | .tup [a,b,c]=>(frP a).bind fun x=>(frP b).bind fun y=>(frP c).map fun z=>⟨x,y,z⟩
 | _=>none
noncomputable def fR (v:PV):Option (List Pc) :=
 match v with
 | .tup xs=>bQ (xs.map pcP)
 | _=>none
theorem pM (h:frP v=some p):v=fr p/\Cop p:=by
 unfold frP at h;split at h
 ·rename_i n d;by_cases q:bt (.tup [.int n,.int d])=true
  ·rw[O0 q] at h;cases h;rw[jg] at q;obtain⟨h0,h1,h2⟩:=P2 q;refine⟨?_,by dsimp only;omega,?_⟩
   ·show PV.tup [.int n,.int d]=PV.tup [.int (n.toNat:Int),.int (d.toNat:Int)];rw[QI h0,QI (by omega)]
   ·have e1:n.natAbs=n.toNat:=by omega
    have e2:d.natAbs=d.toNat:=by omega
    rw[e1,e2] at h2;exact h2
  ·rw[OY q] at h;cases h
 ·cases h
theorem x9 (h:Cop p):frP (fr p)=some p:=by show (if bt (fr p)=true then some ((p.1:Int).toNat,(p.2:Int).toNat) else none)=some p;rw[O0 h.isFr];rfl
theorem yd:(frP v).isSome=bt v:=by
 unfold frP;split
 ·rename_i n d;by_cases q:bt (.tup [.int n,.int d])=true
  ·rw[O0 q,q];rfl
  ·rw[OY q,RV.mpr q];rfl
 ·rename_i h;symm;show bt v=false;cases e:bt v with
  | false=>rfl
  | true =>obtain⟨n,d,rfl,_⟩:=Bb e;exact absurd rfl (h _ _)
theorem C6 (h:pcP v=some p):v=pcV p/\p.Ok:=by
 unfold pcP at h;split at h
 ·rename_i a b c;cases ea:frP a with
  | none=>rw[ea] at h;cases h
  | some x =>
   cases eb:frP b with
   | none=>rw[ea,eb] at h;cases h
   | some y =>
    cases ec:frP c with
    | none=>rw[ea,eb,ec] at h;cases h
    | some z =>rw[ea,eb,ec] at h;cases h;obtain⟨rfl,h1⟩:=pM ea;obtain⟨rfl,h2⟩:=pM eb;obtain⟨rfl,h3⟩:=pM ec;exact⟨rfl,h1,h2,h3⟩
 ·cases h
theorem tQ {p:Pc}(h:p.Ok):pcP (pcV p)=some p:=by show (frP (fr p.e)).bind _=_;rw[x9 h.e,x9 h.l,x9 h.h];rfl
theorem wd {f:PV->Option Pc}:∀ {xs:List PV}{L:List Pc},(∀v p,f v=some p->v=pcV p/\p.Ok)->bQ (xs.map f)=some L->xs=L.map pcV/\∀p∈L,p.Ok
 | [],L,_,h=>by cases h;exact⟨rfl,fun p hp=>(nomatch hp)⟩
 | x::xs,L,hf,h=>by
  obtain⟨d,es,h1,h2,rfl⟩:=Bd h;obtain⟨e1,e2⟩:=hf x d h1;obtain⟨e3,e4⟩:=wd hf h2;refine⟨by rw[e1,e3];rfl,fun p hp=>?_⟩;rcases PQ.mp hp with rfl|hp
  ·exact e2
  ·exact e4 p hp
theorem iR (h:fR v=some L):v=gk L/\∀p∈L,p.Ok:=by
 unfold fR at h;split at h
 ·rename_i xs;obtain⟨e1,e2⟩:=wd (fun v p=>C6) h;exact⟨by rw[e1],e2⟩
 ·cases h
theorem tw:∀ {L:List Pc},(∀p∈L,p.Ok)->fR (gk L)=some L
 | [],_=>rfl
 | p::L,h=>by have ih:=tw (L:=L) fun q hq=>h q (OV _ hq);show bQ (pcP (pcV p)::(L.map pcV).map pcP)=_;have ih:bQ ((L.map pcV).map pcP)=some L:=ih;rw[tQ (h p PD),bQ,ih];rfl
theorem jP:∀ {xs:List PV},(xs.all fun x=>(pcP x).isSome)=(bQ (xs.map pcP)).isSome
 | []=>rfl
 | x::xs=>by
  rw[QM,O8,jP (xs:=xs)];cases pcP x with
  | none=>rfl
  | some p=>rw[bQ];cases bQ (xs.map pcP) <;> rfl
open Classical in
noncomputable def hV (L:List Pc):Bool:=decide (RtF L)
open Classical in
noncomputable def stB (L:List Pc):Bool:=decide (NG (0,1) L)
noncomputable def iO (v:PV):Bool :=
 match fR v with
 | some L=>hV L
 | none=>false
noncomputable def ir (v:PV):Bool :=
 match fR v with
 | some L=>hV L && stB L
 | none=>false
def VSz (v:PV):Prop:=∀xs,v=.tup xs->xs.length<1000/\∀x∈xs,∀ys,x=.tup ys->∀y∈ys,∀n d,y=.tup [.int n,.int d]->n.natAbs<2 ^ 600/\d.natAbs<2 ^ 600
noncomputable def smB (v:PV):Bool :=
 match v with
 | .tup [.int n,.int d]=>decide (n.natAbs<=100) && decide (d.natAbs<=100)
 | _=>true
noncomputable def elB (v:PV):Bool :=
 match v with
 | .tup ys=>ys.all smB
 | _=>true
noncomputable def smV (v:PV):Bool :=
 match v with
 | .tup xs=>decide (xs.length<1000) && xs.all elB
 | _=>true
theorem wV {n:Int}(h:n.natAbs<=100):n.natAbs<2 ^ 600:=R9 h (OW (by decide:100<2 ^ 7) (P5 (by decide) (by decide)))
theorem Hq (h:smB v=true){n d:Int}(e:v=.tup [.int n,.int d]):n.natAbs<2 ^ 600/\d.natAbs<2 ^ 600:=by subst e;unfold smB at h;simp only[Bool.and_eq_true,decide_eq_true_eq] at h;exact⟨wV h.1,wV h.2⟩
theorem HN (h:elB v=true)(e:v=.tup ys):∀y∈ys,∀n d,y=.tup [.int n,.int d]->n.natAbs<2 ^ 600/\d.natAbs<2 ^ 600:=by subst e;intro y hy n d e;exact Hq (QF.mp h y hy) e
theorem Hg (h:smV v=true):VSz v:=by intro xs e;subst e;unfold smV at h;simp only[Bool.and_eq_true,decide_eq_true_eq] at h;exact⟨h.1,fun x hx ys e=>HN (QF.mp h.2 x hx) e⟩
def dz:FSp:=fun as st Q=>∃v,as=[v]/\v.bel st.length=true/\Q (.bl (pcP v).isSome) st
theorem rY:Mo dz:=by walk_at "MO"
theorem uJ:Ln dz 1:=by walk_at "LN"
def bf:FSp:=fun as st Q=>∃p:Pc,as=[pcV p]/\p.Sz 600/\∀c:Bool,(c=true↔p.L<=p.H/\p.E<=p.H)->Q (.bl c) st
theorem j':Mo bf:=by walk_at "MO"
theorem kD:Ln bf 1:=by walk_at "LN"
def bp:FSp:=fun as st Q=>∃p:Pc,as=[pcV p]/\p.Ok/\p.Sz 600/\∀c:Bool,(c=true↔(0=p.E->p.L=p.H))->Q (.bl c) st
theorem ka:Mo bp:=by walk_at "MO"
theorem kU:Ln bp 1:=by walk_at "LN"
def aV:FSp:=fun as st Q=>∃a p:Pc,as=[pcV a,pcV p]/\a.Sz 600/\p.Sz 600/\∀c:Bool,(c=true↔a.E<p.E/\a.H<=p.L)->Q (.bl c) st
theorem jA:Mo aV:=by walk_at "MO"
theorem kd:Ln aV 2:=by walk_at "LN"
def fL:FSp:=fun as st Q=>∃v,as=[v]/\v.bel st.length=true/\VSz v/\Q (.bl (iO v)) st
theorem vz:Mo fL:=by walk_at "MO"
theorem yb:Ln fL 1:=by walk_at "LN"
def dB:FSp:=fun as st Q=>∃v,as=[v]/\v.bel st.length=true/\VSz v/\Q (.bl (ir v)) st
theorem rP:Mo dB:=by walk_at "MO"
theorem uc:Ln dB 1:=by walk_at "LN"
def bo:FSp:=fun as st Q=>∃v,as=[v]/\v.bel st.length=true/\(∀n d,v=.tup [.int n,.int d]->n.natAbs<2 ^ 600/\d.natAbs<2 ^ 600)/\Q (.bl (bt v)) st
theorem kg:Mo bo:=by walk_at "MO"
theorem kz:Ln bo 1:=by walk_at "LN"
def bD:FSp:=fun as st Q=>∃L,as=[gk L]/\(∀p∈L,p.Ok)/\SzL 600 L/\Q (.bl (hV L)) st
theorem ky:Mo bD:=by walk_at "MO"
theorem lI:Ln bD 1:=by walk_at "LN"
def bR:FSp:=fun as st Q=>∃v,as=[v]/\v.bel st.length=true/\VSz v/\Q (.bl (iO v)) st
theorem nk:Mo bR:=by walk_at "MO"
theorem oO:Ln bR 1:=by walk_at "LN"
def bJ:FSp:=fun as st Q=>∃L,as=[gk L]/\RtF L/\SzL 600 L/\L.length<1000/\Q (.bl (stB L)) st
theorem k_:Mo bJ:=by walk_at "MO"
theorem nF:Ln bJ 1:=by walk_at "LN"
noncomputable def dg (n:Nat):List Nat:=(Nat.toDigits 10 n).map Char.toNat
noncomputable abbrev nt (n:Nat):Str:=Str.ofString (toString ((n:Nat):Int))
theorem pC (n:Nat):(nt n).cps.toList=dg n:=W.KIN.signs_num n
theorem eO {n:Nat}(h:n<10):dg n=[48+n]:=by
 unfold dg;rw[Nat.toDigits_of_lt_base h];have:∀d:Nat,d<10->(Nat.digitChar d).toNat=48+d:=by decide
 show [(Nat.digitChar n).toNat]=_;rw[this n h]
theorem pF {n:Nat}(h:¬n<10):dg n=dg (n/10)++[48+n % 10]:=by
 have hm:n % 10<10:=T9 n (by decide);have t:Nat.toDigits 10 (n/10)++Nat.toDigits 10 (n % 10)=Nat.toDigits 10 (10*(n/10)+n % 10):=Nat.toDigits_append_toDigits (by decide) (by omega) hm;rw[Nat.div_add_mod] at t;have e:=eO hm;unfold dg at e |-
 rw[<-t,Q8,e]
theorem JT (n:Nat):∀c∈dg n,48<=c/\c<=57:=by
 induction n using Nat.strongRecOn with
 | _ n ih =>
  by_cases h:n<10
  ·rw[eO h];intro c hc;rw[PM] at hc;omega
  ·rw[pF h];intro c hc;rcases P7.mp hc with hc|hc
   ·exact ih _ (by omega) c hc
   ·rw[PM] at hc;omega
theorem FM (n:Nat):∃c r,dg n=c::r/\(c=48->n=0):=by
 induction n using Nat.strongRecOn with
 | _ n ih =>
  by_cases h:n<10
  ·exact⟨_,_,eO h,fun e=>by omega⟩
  ·obtain⟨c,r,e,k⟩:=ih (n/10) (by omega);refine⟨c,r++[48+n % 10],by rw[pF h,e];rfl,fun z=>?_⟩;have:=k z;omega
theorem DC:∀(k n:Nat),n<10 ^ (k+1)->(dg n).length<=k+1
 | 0,n,h=>by rw[eO h];exact OX _
 | k+1,n,h=>by
  by_cases h1:n<10
  ·rw[eO h1];simp
  ·rw[pF h1,PL];have:n/10<10 ^ (k+1):=by rw[T3] at h;omega
   have:=DC k _ this;simp only[List.length_singleton];omega
theorem l_ {x y:Str}(h:x.cps.toList=y.cps.toList):x=y:=by obtain⟨⟨a⟩⟩:=x;obtain⟨⟨b⟩⟩:=y;cases h;rfl
theorem aY (x y:Str):(x++y).cps.toList=x.cps.toList++y.cps.toList:=by show (x.cps++y.cps).toList=_;rw[Array.toList_append]
theorem aq (x:Str):x.length=x.cps.toList.length:=by simp[Str.length]
theorem uW {n:Nat}(h:n<10 ^ 12):(nt n).length<=12:=by rw[aq,pC];exact DC 11 n h
theorem Bs (cs:List Nat):PySem.NumText.digitsVal (48::cs)=PySem.NumText.digitsVal cs:=by unfold PySem.NumText.digitsVal;rw[R7]
theorem qJ {x y:Str}(h:47 ∉ x.cps.toList)(h2:47 ∉ y.cps.toList):oG (x++("/":Str)++y) "/"=[.str x,.str "/",.str y]:=by
 have el:(x++("/":Str)++y).cps.toList=x.cps.toList++47::y.cps.toList:=by rw[aY,aY,PY];rfl
 generalize x++("/":Str)++y=z at el;have f:=SA z 47;rw[PJ (by rw[el];simp)] at f;unfold oG;cases e:Builtin.Str.occurrences z "/" 0 z.length 1 with
 | nil =>have e':Builtin.Str.occurrences z ⟨#[47]⟩ 0 z.length 1=[]:=e;rw[e'] at f;cases f
 | cons i r =>
  have e':Builtin.Str.occurrences z ⟨#[47]⟩ 0 z.length 1=i::r:=e;have sp:=(RJ z 47 i).mp (PySem.StrLaws.occ_spec z ⟨#[47]⟩ 0 z.length 1 i (by rw[e'];exact PD ..));rw[el] at sp;have hi:i=x.cps.toList.length:=by
   by_cases h3:i<x.cps.toList.length
   ·rw[O_ h3] at sp;exact absurd (OZ sp) h
   ·rw[PB (by omega)] at sp;cases q:i-x.cps.toList.length with
    | zero=>omega
    | succ k =>rw[q,SB] at sp;exact absurd (OZ sp) h2
  subst hi;have s1:Builtin.Str.strSub z 0 x.cps.toList.length=x:=l_ (by rw[QA,el];simp);have s2:Builtin.Str.strSub z (x.cps.toList.length+1) z.length=y:=l_ (by rw[QA,aq,el];rw[List.drop_append,List.drop_eq_nil_of_le (by omega),SV,show x.cps.toList.length+1-x.cps.toList.length=1 by omega,List.drop_succ_cons,SG];exact RM (by simp;omega))
  show [PV.str (Builtin.Str.strSub z 0 x.cps.toList.length),PV.str "/",PV.str (Builtin.Str.strSub z (x.cps.toList.length+1) z.length)]=_;rw[s1,s2]
theorem Cs {n:Nat}:47 ∉ (nt n).cps.toList:=fun h=>by rw[pC] at h;have:=JT n _ h;omega
noncomputable def ft (n d:Nat):Str:=if d=1 then nt n else nt n++("/":Str)++nt d
theorem x_ {n d:Nat}(hn:n<10 ^ 12)(hd:d<10 ^ 12):(ft n d).length<=25:=by
 unfold ft;have:=uW hn;have:=uW hd;split
 ·omega
 ·rw[aq,aY,aY,PL,PL,<-aq,<-aq,<-aq];show (nt n).length+1+(nt d).length<=25;omega
noncomputable def bN (z:Str):Bool:=!z.cps.toList.isEmpty && z.cps.toList.all (fun c=>decide (48<=c/\c<=57)) && (decide (z="0") || !decide (z.cps.toList.head?=some 48))
noncomputable def aN (z:Str):Nat:=PySem.NumText.digitsVal z.cps.toList
noncomputable def oS (z:Str):Bool:=!(Builtin.Str.occurrences z "/" 0 z.length 1).isEmpty
noncomputable def jb (z:Str):Str:=match Builtin.Str.occurrences z "/" 0 z.length 1 with
 | i::_=>Builtin.Str.strSub z 0 i
 | []=>z
noncomputable def ie (z:Str):Str:=match Builtin.Str.occurrences z "/" 0 z.length 1 with
 | i::_=>Builtin.Str.strSub z (i+1) z.length
 | []=>Str.empty
noncomputable def rdF:PV->Option (Nat × Nat)
 | .str z=>if bN (jb z)=true then (if oS z=true then (if bN (ie z)=true/\2<=aN (ie z)/\Nat.gcd (aN (jb z)) (aN (ie z))=1 then some (aN (jb z),aN (ie z)) else none) else some (aN (jb z),1)) else none
 | _=>none
noncomputable def frR:Option (Nat × Nat)->PV
 | some (n,d)=>okR (.tup [.int n,.int d])
 | none=>exR 0
noncomputable def frV:Option (Nat × Nat)->PV
 | some (n,d)=>.tup [.int n,.int d]
 | none=>.non
def TxT (st:AH)(x:PV):Prop:=x.bel st.length=true/\∀z,x=.str z->z.length<=5000
theorem zm (z:Str):oG z "/"=if oS z=true then [.str (jb z),.str "/",.str (ie z)] else [.str z,.str Str.empty,.str Str.empty]:=by
 unfold oG oS jb ie;cases Builtin.Str.occurrences z "/" 0 z.length 1 with
 | nil=>rfl
 | cons i r=>rfl
theorem yH (h:oS z=false):jb z=z:=by
 unfold oS at h;unfold jb;revert h;cases Builtin.Str.occurrences z "/" 0 z.length 1 with
 | nil=>intro _;rfl
 | cons i r=>intro h;cases h
theorem DP (z:Str):(jb z).length<=z.length:=by
 unfold jb;cases Builtin.Str.occurrences z "/" 0 z.length 1 with
 | nil=>exact OX _
 | cons i r=>show (Builtin.Str.strSub z 0 i).length<=_;rw[aq,QA,aq z,P8,RE];omega
theorem B_ (z:Str):(ie z).length<=z.length:=by
 unfold ie;cases Builtin.Str.occurrences z "/" 0 z.length 1 with
 | nil=>exact P9 _
 | cons i r=>show (Builtin.Str.strSub z _ _).length<=_;rw[aq,QA,aq z,P8,RE];omega
theorem ju (h:bN z=true):(∀c∈z.cps.toList,48<=c/\c<=57)/\z.cps.toList≠[]:=by unfold bN at h;rw[OU,OU,QF] at h;refine⟨fun c hc=>P2 (h.1.2 c hc),fun e=>?_⟩;rw[e] at h;exact absurd h.1.1 (by decide)
theorem uu (h:bN z=true):47 ∉ z.cps.toList:=fun m=>by have:=(ju h).1 47 m;omega
theorem tK {c:Nat}:∀ {l:List Nat},c ∉ l->PyProof.Rows.cnt c l=0
 | [],_=>rfl
 | n::r,h=>by rw[Q6,OY (fun e=>h (by rw[e];exact PD ..)),tK (fun m=>h (OV _ m))];rfl
theorem we {z:Str}(h:1<(Builtin.Str.occurrences z "/" 0 z.length (z.length+1)).length):oS z=true/\bN (ie z)=false:=by
 have hc:((Builtin.Str.occurrences z "/" 0 z.length (z.length+1)).length:Int)=PyProof.Rows.cnt 47 z.cps.toList:=PyProof.Rows.count_cnt z 47;rcases PySem.StrLaws.occ_head z "/" 1 (OX _) with ⟨e,hn⟩|⟨i,r,e,ha,hf⟩
 ·exfalso;have:47 ∉ z.cps.toList:=fun m=>by obtain⟨j,hj⟩:=QL m;exact hn j ((RJ z 47 j).mpr hj)
  rw[tK this] at hc;omega
 ·refine⟨by unfold oS;rw[e];rfl,?_⟩;cases q:bN (ie z) with
  | false=>rfl
  | true =>
   exfalso;have hm:=uu q;have hi:=(RJ z 47 i).mp ha;unfold ie at hm;rw[e] at hm;have hm:47 ∉ (Builtin.Str.strSub z (i+1) z.length).cps.toList:=hm;rw[QA,aq,RM (by rw[RE];omega)] at hm;have h1:47 ∉ z.cps.toList.take i:=fun m=>by
    obtain⟨j,hj⟩:=QL m;have hj2:j<i:=by have:=(OT.mp hj).1;rw[P8] at this;omega
    rw[RB hj2] at hj;exact hf j hj2 ((RJ z 47 j).mpr hj)
   have el:z.cps.toList=z.cps.toList.take i++47::z.cps.toList.drop (i+1):=by obtain⟨hl,he⟩:=OT.mp hi;rw[<-he,<-QT hl,RR]
   rw[el,SD,Q6,tK h1,tK hm,O0 rfl] at hc;omega
theorem qf:∀(l:List Nat) (a:Nat),l.foldl (fun acc c=>acc*10+(c-48)) a=a*10 ^ l.length+PySem.NumText.digitsVal l
 | [],a=>by simp[PySem.NumText.digitsVal]
 | c::l,a=>by unfold PySem.NumText.digitsVal;rw[R7,R7,qf l,qf l (0*10+(c-48)),QK,T3,Nat.add_mul,T2,Nat.zero_add,S1 (10 ^ l.length) 10,<-Nat.mul_assoc];omega
theorem zN (a b:List Nat):PySem.NumText.digitsVal (a++b)=PySem.NumText.digitsVal a*10 ^ b.length+PySem.NumText.digitsVal b:=by show (a++b).foldl _ 0=_;rw[List.foldl_append];exact qf b _
theorem CJ (a:List Nat)(c:Nat):PySem.NumText.digitsVal (a++[c])=PySem.NumText.digitsVal a*10+(c-48):=by show (a++[c]).foldl _ 0=_;rw[List.foldl_append];rfl
theorem tU:∀ {l:List Nat},(∀c∈l,48<=c/\c<=57)->PySem.NumText.digitsVal l<10 ^ l.length
 | [],_=>by decide
 | c::l,h=>by
  have e:=zN [c] l;have hc:=h c (PD ..);have:=tU (l:=l) fun d hd=>h d (OV _ hd);have e1:PySem.NumText.digitsVal [c]=c-48:=by show 0*10+(c-48)=_;omega
  rw[List.singleton_append,e1] at e;rw[e,QK,T3];have:(c-48)*10 ^ l.length<=9*10 ^ l.length:=SR _ (by omega);omega
theorem EV {n k:Nat}(h:n<10 ^ k)(hk:k<=5000):n<2 ^ 20000:=by
 have h1:(10:Nat) ^ k<=10 ^ 5000:=P5 (by decide) hk;have h2:(10:Nat) ^ 5000<=16 ^ 5000:=Nat.pow_le_pow_left (by decide) 5000;have h3:(16:Nat) ^ 5000=2 ^ 20000:=by rw[show (16:Nat)=2 ^ 4 from rfl,<-Nat.pow_mul]
 rw[<-h3];exact OW h (O7 h1 h2)
theorem Cc (z:Str)(l u:Option Int):je z l u=PySem.StrLaws.sliceText z l u:=rfl
theorem C8 {z:Str}{k:Nat}(h:k<=z.length):(je z none (some (k:Int))).cps.toList=z.cps.toList.take k:=by rw[Cc,PySem.StrLaws.sliceText_to ⟨Int.natCast_nonneg _,by rw[aq] at h;omega⟩];simp
theorem FA {z:Str}{a b:Nat}(hab:a<=b)(h:b<=z.length):(je z (some (a:Int)) (some (b:Int))).cps.toList=(z.cps.toList.drop a).take (b-a):=by rw[Cc,PySem.StrLaws.sliceText_nat z hab h]
def Asked (z:Str):Prop:=∀l:List Nat,l <:+: z.cps.toList->(∀c∈l,48<=c/\c<=57)->l.length<=12
noncomputable def rdW (z:Str):Option (Nat × Nat):=rdF (.str z)
noncomputable def rdP (z:Str):Option (List (Nat × Nat)):=bQ ((Txt.split z " ").map rdW)
noncomputable def rdL (z:Str):Option (List (List (Nat × Nat))):=bQ ((Txt.split z "; ").map rdP)
noncomputable abbrev pV (l:List (Nat × Nat)):PV:=.tup (l.map fr)
noncomputable abbrev lV (L:List (List (Nat × Nat))):PV:=.tup (L.map pV)
noncomputable def rdS:PV->Option PV
 | .str z=>if z="never" then some (.tup []) else
  match rdL z with
  | some L=>if ir (lV L)=true then some (lV L) else none
  | none=>none
 | _=>none
def Txz (st:AH)(x:PV):Prop:=TxT st x/\∀z,x=.str z->∀L,rdL z=some L->VSz (lV L)
noncomputable def Ea:Option PV->PV
 | some v=>okR v
 | none=>exR 0
noncomputable def oy:Option PV->PV
 | some v=>.tup [.str "told",v]
 | none=>.tup [.str "none"]
def F12 (L:List Pc):Prop:=∀p∈L,(p.e.1<10 ^ 12/\p.e.2<10 ^ 12)/\(p.l.1<10 ^ 12/\p.l.2<10 ^ 12)/\(p.h.1<10 ^ 12/\p.h.2<10 ^ 12)
def bc:FSp:=fun as st Q=>∃z:Str,as=[.str z]/\z.length<=5000/\Q (.bl (bN z)) st
theorem j_:Mo bc:=by walk_at "MO"
theorem kC:Ln bc 1:=by walk_at "LN"
def aR:FSp:=fun as st Q=>∃z:Str,as=[.str z]/\z.length<=5000/\Q (if bN z=true then okR (.int (aN z)) else exR 0) st
theorem dS:Mo aR:=by walk_at "MO"
theorem o8:Ln aR 1:=by walk_at "LN"
def aJ:FSp:=fun as st Q=>∃x:PV,as=[x]/\TxT st x/\Q (frR (rdF x)) st
theorem dq:Mo aJ:=by walk_at "MO"
theorem me:Ln aJ 1:=by walk_at "LN"
def aX:FSp:=fun as st Q=>∃z:Str,as=[.str z]/\z.length<=5000/\Q (Ea ((rdP z).map pV)) st
theorem eW:Mo aX:=by walk_at "MO"
theorem pU:Ln aX 1:=by walk_at "LN"
def aZ:FSp:=fun as st Q=>∃x:PV,as=[x]/\Txz st x/\Q (Ea (rdS x)) st
theorem eY:Mo aZ:=by walk_at "MO"
theorem pZ:Ln aZ 1:=by walk_at "LN"
def aS:FSp:=fun as st Q=>∃p:Nat × Nat,as=[fr p]/\p.1<10 ^ 12/\p.2<10 ^ 12/\Q (.str (ft p.1 p.2)) st
theorem jd:Mo aS:=by walk_at "MO"
theorem jF:Ln aS 1:=by walk_at "LN"
def cD:FSp:=fun as st Q=>∃L:List Pc,as=[gk L]/\L.length<=12/\F12 L/\∀z:Str,z.length<=1000->Q (.str z) st
theorem ql:Mo cD:=by walk_at "MO"
theorem rJ:Ln cD 1:=by walk_at "LN"
def bS:FSp:=fun as st Q=>∃z:Str,as=[.str z]/\z.length<=1003/\Asked z/\Q (frV (rdW z)) st
theorem nG:Mo bS:=by walk_at "MO"
theorem o6:Ln bS 1:=by walk_at "LN"
def cb:FSp:=fun as st Q=>∃z:Str,as=[.str z]/\z.length<=1003/\Asked z/\Q ((rdS (.str z)).getD .non) st
theorem o7:Mo cb:=by walk_at "MO"
theorem qM:Ln cb 1:=by walk_at "LN"
def bA:FSp:=fun as st Q=>∃(p:Nat) (z:Str),as=[.ref p,.str z]/\Pot st p/\z.length<=1500/\∀(z':Str) st',z'.length<=z.length+1->Gr st p st'->Q (.str z') st'
theorem kO:Mo bA:=by walk_at "MO"
theorem kW:Ln bA 2:=by walk_at "LN"
def bK:FSp:=fun as st Q=>∃(p:Nat) (z:Str),as=[.ref p,.str z]/\Pot st p/\z.length<=1000/\∀(z':Str) st',z'.length<=1003->Gr st p st'->Q (.str z') st'
theorem ml:Mo bK:=by walk_at "MO"
theorem mL:Ln bK 2:=by walk_at "LN"
def bC:FSp:=fun as st Q=>∃z:Str,as=[.str z]/\z.length<=1003/\∀b:Bool,(b=true->Asked z)->Q (.bl b) st
theorem kJ:Mo bC:=by walk_at "MO"
theorem mH:Ln bC 1:=by walk_at "LN"
def cO:FSp:=fun as st Q=>∃x:PV,as=[x]/\Txz st x/\Q (oy (rdS x)) st
theorem qb:Mo cO:=by walk_at "MO"
theorem rG:Ln cO 1:=by walk_at "LN"
def dy:FSp:=fun as st Q=>∃z:Str,as=[.str z]/\z.length<=1003/\Asked z/\Q (oy (rdS (.str z))) st
theorem sj:Mo dy:=by walk_at "MO"
theorem u0:Ln dy 1:=by walk_at "LN"
noncomputable abbrev eK:PV:=(.str "never")
noncomputable abbrev fP:PV:=(.tup [(.int 0),(.int 1)])
noncomputable abbrev lZ:PV:=(.int 10000000000000000000000000000000000000000000000000000000000000000)
noncomputable abbrev bB:PV:=(.int 64)
noncomputable abbrev iQ:PV:=(.str "0123456789")
noncomputable def Γ:Nat->FSp
 | 0=>a_
 | 1=>aQ
 | 2=>bE
 | 3=>cz
 | 4=>dH
 | 5=>gc
 | 6=>a8
 | 7=>bc
 | 8=>okO aR
 | 9=>okO aJ
 | 10=>dz
 | 11=>bf
 | 12=>bp
 | 13=>aV
 | 14=>fL
 | 15=>ee
 | 16=>jH
 | 17=>dB
 | 18=>okO aX
 | 19=>okO aZ
 | 20=>dv
 | 21=>cg
 | 22=>dw
 | 23=>fD
 | 24=>fF
 | 25=>eD
 | 26=>cE
 | 27=>bw
 | 28=>cf
 | 29=>bU
 | 30=>dA
 | 31=>cM
 | 32=>bo
 | 33=>bD
 | 34=>bR
 | 35=>bJ
 | 36=>aS
 | 37=>cD
 | 38=>bS
 | 39=>cb
 | 40=>bA
 | 41=>bK
 | 42=>bC
 | 43=>cO
 | 44=>dy
 | 45=>km
 | _=>fun _ _ _=>False
theorem Γ_0:Γ 0=a_:=id rfl
theorem Γ_1:Γ 1=aQ:=id rfl
theorem Γ_2:Γ 2=bE:=id rfl
theorem Γ_3:Γ 3=cz:=id rfl
theorem Γ_4:Γ 4=dH:=id rfl
theorem Γ_5:Γ 5=gc:=id rfl
theorem Γ_6:Γ 6=a8:=id rfl
theorem Γ_7:Γ 7=bc:=id rfl
theorem Γ_8:Γ 8=okO aR:=id rfl
theorem Γ_9:Γ 9=okO aJ:=id rfl
theorem Nh:Γ 10=dz:=id rfl
theorem NK:Γ 11=bf:=id rfl
theorem M6:Γ 12=bp:=id rfl
theorem NQ:Γ 13=aV:=id rfl
theorem N8:Γ 14=fL:=id rfl
theorem Ng:Γ 15=ee:=id rfl
theorem NI:Γ 16=jH:=id rfl
theorem Oe:Γ 17=dB:=id rfl
theorem M5:Γ 18=okO aX:=id rfl
theorem Nf:Γ 19=okO aZ:=id rfl
theorem Od:Γ 20=dv:=id rfl
theorem On:Γ 21=cg:=id rfl
theorem Ow:Γ 22=dw:=id rfl
theorem Oz:Γ 23=fD:=id rfl
theorem NL:Γ 24=fF:=id rfl
theorem Nv:Γ 25=eD:=id rfl
theorem OH:Γ 26=cE:=id rfl
theorem Oc:Γ 27=bw:=id rfl
theorem Oi:Γ 28=cf:=id rfl
theorem OI:Γ 29=bU:=id rfl
theorem MX:Γ 30=dA:=id rfl
theorem NC:Γ 31=cM:=id rfl
theorem Nu:Γ 32=bo:=id rfl
theorem Oj:Γ 33=bD:=id rfl
theorem Oq:Γ 34=bR:=id rfl
theorem NR:Γ 35=bJ:=id rfl
theorem NJ:Γ 36=aS:=id rfl
theorem NS:Γ 37=cD:=id rfl
theorem Nd:Γ 38=bS:=id rfl
theorem M':Γ 39=cb:=id rfl
theorem Ni:Γ 40=bA:=id rfl
theorem Nq:Γ 41=bK:=id rfl
theorem Ny:Γ 42=bC:=id rfl
theorem OB:Γ 43=cO:=id rfl
theorem OG:Γ 44=dy:=id rfl
theorem Nb:Γ 45=km:=id rfl
theorem Γm:aT Γ:=by
 intro f vs st Q Q' h q
 match f,q with
 | 0,q=>exact kr (st:=st) h q
 | 1,q=>exact j9 (st:=st) h q
 | 2,q=>exact nO (st:=st) h q
 | 3,q=>exact se (st:=st) h q
 | 4,q=>exact sZ (st:=st) h q
 | 5,q=>exact xF (st:=st) h q
 | 6,q=>exact kh (st:=st) h q
 | 7,q=>exact j_ (st:=st) h q
 | 8,q=>exact lN (sp:=aR) dS h q
 | 9,q=>exact lN (sp:=aJ) dq h q
 | 10,q=>exact rY (st:=st) h q
 | 11,q=>exact j' (st:=st) h q
 | 12,q=>exact ka (st:=st) h q
 | 13,q=>exact jA (st:=st) h q
 | 14,q=>exact vz (st:=st) h q
 | 15,q=>exact u5 (st:=st) h q
 | 16,q=>exact Ae (st:=st) h q
 | 17,q=>exact rP (st:=st) h q
 | 18,q=>exact lN (sp:=aX) eW h q
 | 19,q=>exact lN (sp:=aZ) eY h q
 | 20,q=>exact sf (st:=st) h q
 | 21,q=>exact oJ (st:=st) h q
 | 22,q=>exact rT (st:=st) h q
 | 23,q=>exact pW (st:=st) h q
 | 24,q=>exact rD (st:=st) h q
 | 25,q=>exact ph (st:=st) h q
 | 26,q=>exact qH (st:=st) h q
 | 27,q=>exact kR (st:=st) h q
 | 28,q=>exact o_ (st:=st) h q
 | 29,q=>exact nV (st:=st) h q
 | 30,q=>exact rQ (st:=st) h q
 | 31,q=>exact kG (st:=st) h q
 | 32,q=>exact kg (st:=st) h q
 | 33,q=>exact ky (st:=st) h q
 | 34,q=>exact nk (st:=st) h q
 | 35,q=>exact k_ (st:=st) h q
 | 36,q=>exact jd (st:=st) h q
 | 37,q=>exact ql (st:=st) h q
 | 38,q=>exact nG (st:=st) h q
 | 39,q=>exact o7 (st:=st) h q
 | 40,q=>exact kO (st:=st) h q
 | 41,q=>exact ml (st:=st) h q
 | 42,q=>exact kJ (st:=st) h q
 | 43,q=>exact qb (st:=st) h q
 | 44,q=>exact sj (st:=st) h q
 | 45,q=>exact B0 (st:=st) h q
 | _+46,q=>exact q.elim
noncomputable def ΓR:Nat->FSp
 | 8=>aR
 | 9=>aJ
 | 18=>aX
 | 19=>aZ
 | _=>fun _ _ _=>False
theorem N_:ΓR 8=aR:=id rfl
theorem N3:ΓR 9=aJ:=id rfl
theorem Li:ΓR 18=aX:=id rfl
theorem KM:ΓR 19=aZ:=id rfl
theorem ΓRm:aT ΓR:=by
 intro f vs st Q Q' h q;unfold ΓR at q |-
 split at q
 ·exact dS (st:=st) h q
 ·exact dq (st:=st) h q
 ·exact eW (st:=st) h q
 ·exact eY (st:=st) h q
 ·exact q.elim
noncomputable def FX:Xf:={ xs:=["NoText"],rz:=[8,9,18,19] }
noncomputable def ysL:List Str:=["HourError","NoText","NoDay","NoTie","NotRight","Overtaken"]
noncomputable def LH (k i:Nat):Bool:=([true,true,false,false,false,false]:List Bool).getD (6*k+i) false
noncomputable def Nt:List Str:=((["is_whole","common_divisor","is_fraction","fraction","less","times","is_below","is_number_text","read_number","read_fraction","is_piece","is_right_alone","is_right_first","is_right_behind","is_row","goes_on","lean","is_stair","read_piece","read_stair","_law_pot","_law_digit","_law_low","_law_less","_law_over","_law_ahead","_law_step","_law_going_on","_law_units","_law_bottom"]:List Str)++(["_law_row","_law_is_whole","_law_is_moment","_law_is_right","_law_is_row","_law_is_lean","_law_moment_text","_law_text","_law_moment","_law_stair","_law_one_sign","_law_altered","_law_is_asked","_law_told","_law_due","law"]:List Str))
noncomputable def HV:List Str:=["isinstance","bool","int","len","tuple","all","range","str","zip","abs","divmod","max","enumerate","ValueError","min"]
noncomputable def glL:List (Str × PV):=[("FIGURES",iQ),("BLOCK_FIGURES",bB),("BLOCK",lZ),("NOUGHT",fP),("NEVER_TEXT",eK)]
noncomputable def mkc (N:List Str)(s:Stmt)(k:Nat):Cfg:={ N:=N,names:=(ae s).names,fns:=Nt,lim:=k,blts:=HV,gl:=glL }
local macro_rules | `(tactic| walk_at "SC")=>`(tactic| exact ⟨rfl,rfl,rfl,by decide +kernel,rfl,by decide +kernel,by decide +kernel⟩)
noncomputable abbrev iF:Stmt:=top 11
theorem vX:aj ["thing"] ["thing"] (ae iF):=by walk_at "SC"
noncomputable def qc:Cfg:=mkc ["thing"] iF 0
noncomputable def gI:Ss:=(.cons (.ret (.bop true (.cons (.inst (.var 0) "int") (.cons (.not (.inst (.var 0) "bool")) .nil)))) .nil)
theorem xK:aE qc  gI (af iF)=true:=by decide +kernel
noncomputable abbrev cF:Stmt:=top 12
theorem lR:aj ["n","d"] ["n","d"] (ae cF):=by walk_at "SC"
noncomputable def gZ:Cfg:=mkc ["n","d"] cF 1
noncomputable def cW:Ss:=(.cons (.whileS (.cmp .NotEq (.var 1) (.int 0)) (.cons (.par 0 1 (.var 1) (.bin .Mod (.var 0) (.var 1))) .nil)) (.cons (.ret (.var 0)) .nil))
theorem nI:aE gZ  cW (af cF)=true:=by decide +kernel
noncomputable abbrev eI:Stmt:=top 13
theorem rm:aj ["thing","n","d"] ["thing"] (ae eI):=by walk_at "SC"
noncomputable def kn:Cfg:=mkc ["thing","n","d"] eI 2
noncomputable def dQ:Ss:=(.cons (.ifS (.bop false (.cons (.not (.inst (.var 0) "tuple")) (.cons (.cmp .NotEq (.blt .len (.cons (.var 0) .nil)) (.int 2)) .nil))) (.cons (.ret (.bl false)) .nil) .nil) (.cons (.set (.tup (.cons (.name 1) (.cons (.name 2) .nil))) (.var 0)) (.cons (.ifS (.bop false (.cons (.not (.call 0 (.cons (.var 1) .nil))) (.cons (.not (.call 0 (.cons (.var 2) .nil))) .nil))) (.cons (.ret (.bl false)) .nil) .nil) (.cons (.ret (.bop true (.cons (.cmp .GtE (.var 1) (.int 0)) (.cons (.cmp .GtE (.var 2) (.int 1)) (.cons (.cmp .Eq (.call 1 (.cons (.var 1) (.cons (.var 2) .nil))) (.int 1)) .nil))))) .nil))))
theorem rW:aE kn  dQ (af eI)=true:=by decide +kernel
noncomputable abbrev iG:Stmt:=top 14
theorem vH:aj ["n","d","divisor"] ["n","d"] (ae iG):=by walk_at "SC"
noncomputable def qN:Cfg:=mkc ["n","d","divisor"] iG 3
noncomputable def gQ:Ss:=(.cons (.set (.name 2) (.call 1 (.cons (.var 0) (.cons (.var 1) .nil)))) (.cons (.ret (.tup (.cons (.bin .FloorDiv (.var 0) (.var 2)) (.cons (.bin .FloorDiv (.var 1) (.var 2)) .nil)))) .nil))
theorem yc:aE qN  gQ (af iG)=true:=by decide +kernel
noncomputable abbrev uT:Stmt:=top 15
theorem Fe:aj ["one","other"] ["one","other"] (ae uT):=by walk_at "SC"
noncomputable def Ck:Cfg:=mkc ["one","other"] uT 4
noncomputable def mS:Ss:=(.cons (.ret (.call 3 (.cons (.bin .Sub (.bin .Mult (.ix (.var 0) (.int 0)) (.ix (.var 1) (.int 1))) (.bin .Mult (.ix (.var 1) (.int 0)) (.ix (.var 0) (.int 1)))) (.cons (.bin .Mult (.ix (.var 0) (.int 1)) (.ix (.var 1) (.int 1))) .nil)))) .nil)
theorem Js:aE Ck  mS (af uT)=true:=by decide +kernel
noncomputable abbrev pE:Stmt:=top 16
theorem B5:aj ["one","other"] ["one","other"] (ae pE):=by walk_at "SC"
noncomputable def zd:Cfg:=mkc ["one","other"] pE 5
noncomputable def kN:Ss:=(.cons (.ret (.call 3 (.cons (.bin .Mult (.ix (.var 0) (.int 0)) (.ix (.var 1) (.int 0))) (.cons (.bin .Mult (.ix (.var 0) (.int 1)) (.ix (.var 1) (.int 1))) .nil)))) .nil)
theorem Em:aE zd  kN (af pE)=true:=by decide +kernel
noncomputable abbrev iW:Stmt:=top 17
theorem wQ:aj ["one","other"] ["one","other"] (ae iW):=by walk_at "SC"
noncomputable def qX:Cfg:=mkc ["one","other"] iW 6
noncomputable def gR:Ss:=(.cons (.ret (.cmp .Lt (.bin .Mult (.ix (.var 0) (.int 0)) (.ix (.var 1) (.int 1))) (.bin .Mult (.ix (.var 1) (.int 0)) (.ix (.var 0) (.int 1))))) .nil)
theorem xN:aE qX  gR (af iW)=true:=by decide +kernel
noncomputable abbrev cJ:Stmt:=top 18
theorem mf:aj ["text"] ["text"] (ae cJ):=by walk_at "SC"
noncomputable def gY:Cfg:=mkc ["text"] cJ 7
noncomputable def cT:Ss:=(.cons (.ifS (.bop false (.cons (.cmp .Eq (.var 0) (.str "")) (.cons (.not (.tmp (.blt .all1 (.cons (.comp (.cmp .In (.var 0) (.gv "FIGURES" iQ)) (.name 0) (.chars (.var 0)) .nil ["sign"] []) .nil)))) .nil))) (.cons (.ret (.bl false)) .nil) .nil) (.cons (.ret (.bop false (.cons (.cmp .Eq (.var 0) (.str "0")) (.cons (.cmp .NotEq (.ix (.var 0) (.int 0)) (.str "0")) .nil)))) .nil))
theorem nN:aE gY  cT (af cJ)=true:=by decide +kernel
noncomputable abbrev eE:Stmt:=top 19
theorem q_:aj ["text","head","number","at"] ["text"] (ae eE):=by walk_at "SC"
noncomputable def kq:Cfg:=mkc ["text","head","number","at"] eE 8
noncomputable def ei:XSs:=(.cons (.ifX (.not (.call 7 (.cons (.var 0) .nil))) (.cons (.raise 0) .nil) .nil) (.cons (.st (.set (.name 1) (.bin .Mod (.blt .len (.cons (.var 0) .nil)) (.gv "BLOCK_FIGURES" bB)))) (.cons (.st (.set (.name 2) (.blt .int1 (.cons (.bin .Add (.str "0") (.sl (.var 0) .no (.yes (.var 1)))) .nil)))) (.cons (.st (.forS (.name 3) (.range3 (.var 1) (.blt .len (.cons (.var 0) .nil)) (.gv "BLOCK_FIGURES" bB)) (.cons (.set (.name 2) (.bin .Add (.bin .Mult (.var 2) (.gv "BLOCK" lZ)) (.tmp (.blt .int1 (.cons (.sl (.var 0) (.yes (.var 3)) (.yes (.bin .Add (.var 3) (.gv "BLOCK_FIGURES" bB)))) .nil))))) .nil))) (.cons (.st (.ret (.var 2))) .nil)))))
theorem rM:g_ kq FX ei (af eE)=true:=by decide +kernel
noncomputable abbrev c_:Stmt:=top 20
theorem m5:aj ["text","above","slash","below","n","d"] ["text"] (ae c_):=by walk_at "SC"
noncomputable def i8:Cfg:=mkc ["text","above","slash","below","n","d"] c_ 9
noncomputable def dt:XSs:=(.cons (.ifX (.not (.inst (.var 0) "str")) (.cons (.raise 0) .nil) .nil) (.cons (.st (.set (.tup (.cons (.name 1) (.cons (.name 2) (.cons (.name 3) .nil)))) (.part (.var 0) "/"))) (.cons (.setX 4 8 (.cons (.var 1) .nil)) (.cons (.st (.ifS (.cmp .Eq (.var 2) (.str "")) (.cons (.ret (.tup (.cons (.var 4) (.cons (.int 1) .nil)))) .nil) .nil)) (.cons (.setX 5 8 (.cons (.var 3) .nil)) (.cons (.ifX (.bop false (.cons (.cmp .Lt (.var 5) (.int 2)) (.cons (.cmp .NotEq (.call 1 (.cons (.var 4) (.cons (.var 5) .nil))) (.int 1)) .nil))) (.cons (.raise 0) .nil) .nil) (.cons (.st (.ret (.tup (.cons (.var 4) (.cons (.var 5) .nil))))) .nil)))))))
theorem oP:g_ i8 FX dt (af c_)=true:=by decide +kernel
noncomputable abbrev iM:Stmt:=top 23
theorem vD:aj ["thing"] ["thing"] (ae iM):=by walk_at "SC"
noncomputable def p8:Cfg:=mkc ["thing"] iM 10
noncomputable def gX:Ss:=(.cons (.ret (.bop true (.cons (.inst (.var 0) "tuple") (.cons (.cmp .Eq (.blt .len (.cons (.var 0) .nil)) (.int 3)) (.cons (.tmp (.blt .all1 (.cons (.comp (.call 2 (.cons (.var 0) .nil)) (.name 0) (.seq (.var 0)) .nil ["part"] []) .nil))) .nil))))) .nil)
theorem xI:aE p8  gX (af iM)=true:=by decide +kernel
noncomputable abbrev cP:Stmt:=top 24
theorem mx:aj ["piece","end","low","high"] ["piece"] (ae cP):=by walk_at "SC"
noncomputable def iz:Cfg:=mkc ["piece","end","low","high"] cP 11
noncomputable def cV:Ss:=(.cons (.set (.tup (.cons (.name 1) (.cons (.name 2) (.cons (.name 3) .nil)))) (.var 0)) (.cons (.ret (.bop true (.cons (.not (.call 6 (.cons (.var 3) (.cons (.var 2) .nil)))) (.cons (.not (.call 6 (.cons (.var 3) (.cons (.var 1) .nil)))) .nil)))) .nil))
theorem nR:aE iz  cV (af cP)=true:=by decide +kernel
noncomputable abbrev cQ:Stmt:=top 25
theorem mv:aj ["piece","end","low","high"] ["piece"] (ae cQ):=by walk_at "SC"
noncomputable def h_:Cfg:=mkc ["piece","end","low","high"] cQ 12
noncomputable def cS:Ss:=(.cons (.set (.tup (.cons (.name 1) (.cons (.name 2) (.cons (.name 3) .nil)))) (.var 0)) (.cons (.ret (.bop false (.cons (.cmp .NotEq (.var 1) (.gv "NOUGHT" fP)) (.cons (.cmp .Eq (.var 2) (.var 3)) .nil)))) .nil))
theorem nE:aE h_  cS (af cQ)=true:=by decide +kernel
noncomputable abbrev cm:Stmt:=top 26
theorem kK:aj ["ahead","piece"] ["ahead","piece"] (ae cm):=by walk_at "SC"
noncomputable def gE:Cfg:=mkc ["ahead","piece"] cm 13
noncomputable def cA:Ss:=(.cons (.ret (.bop true (.cons (.call 6 (.cons (.ix (.var 0) (.int 0)) (.cons (.ix (.var 1) (.int 0)) .nil))) (.cons (.not (.call 6 (.cons (.ix (.var 1) (.int 1)) (.cons (.ix (.var 0) (.int 2)) .nil)))) .nil)))) .nil)
theorem lU:aE gE  cA (af cm)=true:=by decide +kernel
noncomputable abbrev mr:Stmt:=top 27
theorem zU:aj ["thing"] ["thing"] (ae mr):=by walk_at "SC"
noncomputable def wG:Cfg:=mkc ["thing"] mr 14
noncomputable def jr:Ss:=(.cons (.ifS (.bop false (.cons (.not (.inst (.var 0) "tuple")) (.cons (.not (.tmp (.blt .all1 (.cons (.comp (.call 10 (.cons (.var 0) .nil)) (.name 0) (.seq (.var 0)) .nil ["piece"] []) .nil)))) .nil))) (.cons (.ret (.bl false)) .nil) .nil) (.cons (.ifS (.not (.tmp (.blt .all1 (.cons (.comp (.call 11 (.cons (.var 0) .nil)) (.name 0) (.seq (.var 0)) .nil ["piece"] []) .nil)))) (.cons (.ret (.bl false)) .nil) .nil) (.cons (.ifS (.bop true (.cons (.cmp .NotEq (.var 0) (.tup .nil)) (.cons (.not (.call 12 (.cons (.ix (.var 0) (.int 0)) .nil))) .nil))) (.cons (.ret (.bl false)) .nil) .nil) (.cons (.ret (.tmp (.blt .all1 (.cons (.comp (.call 13 (.cons (.var 0) (.cons (.var 1) .nil))) (.tup (.cons (.name 0) (.cons (.name 1) .nil))) (.zip (.var 0) (.sl (.var 0) (.yes (.int 1)) .no)) .nil ["ahead","piece"] []) .nil)))) .nil))))
theorem BB:aE wG  jr (af mr)=true:=by decide +kernel
noncomputable abbrev jJ:Stmt:=top 28
theorem xP:aj ["beginning","ahead","piece","rise","width","next_rise","next_width"] ["beginning","ahead","piece"] (ae jJ):=by walk_at "SC"
noncomputable def sG:Cfg:=mkc ["beginning","ahead","piece","rise","width","next_rise","next_width"] jJ 15
noncomputable def iS:Ss:=(.cons (.ifS (.cmp .NotEq (.ix (.var 2) (.int 1)) (.ix (.var 1) (.int 2))) (.cons (.ret (.bl false)) .nil) .nil) (.cons (.par 3 4 (.call 4 (.cons (.ix (.var 1) (.int 2)) (.cons (.ix (.var 1) (.int 1)) .nil))) (.call 4 (.cons (.ix (.var 1) (.int 0)) (.cons (.var 0) .nil)))) (.cons (.par 5 6 (.call 4 (.cons (.ix (.var 2) (.int 2)) (.cons (.ix (.var 2) (.int 1)) .nil))) (.call 4 (.cons (.ix (.var 2) (.int 0)) (.cons (.ix (.var 1) (.int 0)) .nil)))) (.cons (.ret (.cmp .Eq (.call 5 (.cons (.var 3) (.cons (.var 6) .nil))) (.call 5 (.cons (.var 5) (.cons (.var 4) .nil))))) .nil))))
theorem Ap:aE sG  iS (af jJ)=true:=by decide +kernel
noncomputable abbrev ur:Stmt:=top 29
theorem EJ:aj ["row","pieces","beginning","piece"] ["row"] (ae ur):=by walk_at "SC"
noncomputable def Cw:Cfg:=mkc ["row","pieces","beginning","piece"] ur 16
noncomputable def nX:Ss:=(.cons (.set (.name 1) (.lst .nil)) (.cons (.set (.name 2) (.gv "NOUGHT" fP)) (.cons (.forS (.name 3) (.seq (.var 0)) (.cons (.ifS (.bop true (.cons (.cmp .NotEq (.var 1) (.lst .nil)) (.cons (.call 15 (.cons (.var 2) (.cons (.ix (.var 1) (.neg (.int 1))) (.cons (.var 3) .nil)))) .nil))) (.cons (.set (.sub (.var 1) (.neg (.int 1))) (.tup (.cons (.ix (.var 3) (.int 0)) (.cons (.ix (.ix (.var 1) (.neg (.int 1))) (.int 1)) (.cons (.ix (.var 3) (.int 2)) .nil))))) .nil) (.cons (.set (.name 2) (.ite (.cmp .Eq (.var 1) (.lst .nil)) (.gv "NOUGHT" fP) (.ix (.ix (.var 1) (.neg (.int 1))) (.int 0)))) (.cons (.expr (.met .append (.var 1) (.cons (.var 3) .nil))) .nil))) .nil)) (.cons (.ret (.blt .tuple1 (.cons (.var 1) .nil))) .nil))))
theorem Hi:aE Cw  nX (af ur)=true:=by decide +kernel
noncomputable abbrev iK:Stmt:=top 30
theorem wM:aj ["thing"] ["thing"] (ae iK):=by walk_at "SC"
noncomputable def p7:Cfg:=mkc ["thing"] iK 17
noncomputable def gH:Ss:=(.cons (.ret (.bop true (.cons (.call 14 (.cons (.var 0) .nil)) (.cons (.cmp .Eq (.call 16 (.cons (.var 0) .nil)) (.var 0)) .nil)))) .nil)
theorem yf:aE p7  gH (af iK)=true:=by decide +kernel
noncomputable abbrev fG:Stmt:=top 33
theorem sm:aj ["text"] ["text"] (ae fG):=by walk_at "SC"
noncomputable def lQ:Cfg:=mkc ["text"] fG 18
noncomputable def e_:XSs:=(.cons (.retC 9 (.seq (.smx .split (.var 0) (.str " "))) "part") .nil)
theorem uh:g_ lQ FX e_ (af fG)=true:=by decide +kernel
noncomputable abbrev fi:Stmt:=top 34
theorem rH:aj ["text","stair"] ["text"] (ae fi):=by walk_at "SC"
noncomputable def lg:Cfg:=mkc ["text","stair"] fi 19
noncomputable def e8:XSs:=(.cons (.ifX (.not (.inst (.var 0) "str")) (.cons (.raise 0) .nil) .nil) (.cons (.st (.ifS (.cmp .Eq (.var 0) (.gv "NEVER_TEXT" eK)) (.cons (.ret (.tup .nil)) .nil) .nil)) (.cons (.setC 1 18 (.seq (.smx .split (.var 0) (.str "; "))) "part") (.cons (.ifX (.not (.call 17 (.cons (.var 1) .nil))) (.cons (.raise 0) .nil) .nil) (.cons (.st (.ret (.var 1))) .nil)))))
theorem vc:g_ lg FX e8 (af fi)=true:=by decide +kernel
noncomputable abbrev iH:Stmt:=top 36
theorem wL:aj ["_law_script","_law_k","_law_cells","_law_state","_law_cell","_law_own"] ["_law_script","_law_k"] (ae iH):=by walk_at "SC"
noncomputable def p_:Cfg:=mkc ["_law_script","_law_k","_law_cells","_law_state","_law_cell","_law_own"] iH 20
noncomputable def gN:Ss:=(.cons (.set (.name 2) (.comp (.blt .abs1 (.cons (.var 0) .nil)) (.name 0) (.seq (.sl (.var 0) .no (.yes (.int 63)))) .nil ["_law_cell"] [])) (.cons (.set (.name 3) (.bin .Add (.int 11) (.bin .Mult (.int 7) (.var 1)))) (.cons (.forS (.name 4) (.seq (.var 2)) (.cons (.set (.name 3) (.bin .Mod (.bin .Add (.bin .Add (.bin .Mult (.var 3) (.int 48271)) (.bin .Mod (.var 4) (.int 2147483629))) (.int 1)) (.int 2147483629))) .nil)) (.cons (.set (.name 5) (.ix (.bin .Add (.var 2) (.bin .Mult (.lst (.cons (.int 0) .nil)) (.int 9))) (.var 1))) (.cons (.ret (.lst (.cons (.bin .Mult (.var 5) (.blt .int1 (.cons (.cmp .GtE (.var 5) (.bin .Pow (.int 10) (.int 18))) .nil))) (.cons (.var 3) .nil)))) .nil)))))
theorem yE:aE p_  gN (af iH)=true:=by decide +kernel
noncomputable abbrev fE:Stmt:=top 37
theorem so:aj ["_law_pot_here","_law_many","_law_digit_here"] ["_law_pot_here","_law_many"] (ae fE):=by walk_at "SC"
noncomputable def mE:Cfg:=mkc ["_law_pot_here","_law_many","_law_digit_here"] fE 21
noncomputable def eU:Ss:=(.cons (.ifS (.cmp .Gt (.ix (.var 0) (.int 0)) (.int 0)) (.cons (.set (.tup (.cons (.sub (.var 0) (.int 0)) (.cons (.name 2) .nil))) (.blt .divmod (.cons (.ix (.var 0) (.int 0)) (.cons (.var 1) .nil)))) (.cons (.ret (.var 2)) .nil)) .nil) (.cons (.set (.sub (.var 0) (.int 1)) (.bin .Mod (.bin .Add (.bin .Mult (.ix (.var 0) (.int 1)) (.int 48271)) (.int 4099)) (.int 2147483629))) (.cons (.ret (.bin .Mod (.bin .FloorDiv (.bin .Mult (.ix (.var 0) (.int 1)) (.ix (.var 0) (.int 1))) (.int 13)) (.var 1))) .nil)))
theorem uY:aE mE  eU (af fE)=true:=by decide +kernel
noncomputable abbrev iL:Stmt:=top 38
theorem vy:aj ["_law_top","_law_bottom_here","_law_one","_law_other"] ["_law_top","_law_bottom_here"] (ae iL):=by walk_at "SC"
noncomputable def pP:Cfg:=mkc ["_law_top","_law_bottom_here","_law_one","_law_other"] iL 22
noncomputable def gP:Ss:=(.cons (.par 2 3 (.var 0) (.var 1)) (.cons (.whileS (.cmp .Gt (.var 3) (.int 0)) (.cons (.par 2 3 (.var 3) (.bin .Mod (.var 2) (.var 3))) .nil)) (.cons (.ret (.tup (.cons (.bin .FloorDiv (.var 0) (.var 2)) (.cons (.bin .FloorDiv (.var 1) (.var 2)) .nil)))) .nil)))
theorem xo:aE pP  gP (af iL)=true:=by decide +kernel
noncomputable abbrev gz:Stmt:=top 40
theorem um:aj ["_law_one","_law_other"] ["_law_one","_law_other"] (ae gz):=by walk_at "SC"
noncomputable def oE:Cfg:=mkc ["_law_one","_law_other"] gz 23
noncomputable def fW:Ss:=(.cons (.ret (.call 22 (.cons (.bin .Sub (.bin .Mult (.ix (.var 0) (.int 0)) (.ix (.var 1) (.int 1))) (.bin .Mult (.ix (.var 1) (.int 0)) (.ix (.var 0) (.int 1)))) (.cons (.bin .Mult (.ix (.var 0) (.int 1)) (.ix (.var 1) (.int 1))) .nil)))) .nil)
theorem wy:aE oE  fW (af gz)=true:=by decide +kernel
noncomputable abbrev gA:Stmt:=top 42
theorem uP:aj ["_law_one","_law_other"] ["_law_one","_law_other"] (ae gA):=by walk_at "SC"
noncomputable def oF:Cfg:=mkc ["_law_one","_law_other"] gA 24
noncomputable def f':Ss:=(.cons (.ret (.call 22 (.cons (.bin .Mult (.ix (.var 0) (.int 0)) (.ix (.var 1) (.int 1))) (.cons (.bin .Mult (.ix (.var 0) (.int 1)) (.ix (.var 1) (.int 0))) .nil)))) .nil)
theorem vg:aE oF  f' (af gA)=true:=by decide +kernel
noncomputable abbrev fh:Stmt:=top 43
theorem sx:aj ["_law_one","_law_other"] ["_law_one","_law_other"] (ae fh):=by walk_at "SC"
noncomputable def k9:Cfg:=mkc ["_law_one","_law_other"] fh 25
noncomputable def eV:Ss:=(.cons (.ret (.cmp .Lt (.bin .Mult (.ix (.var 0) (.int 0)) (.ix (.var 1) (.int 1))) (.bin .Mult (.ix (.var 1) (.int 0)) (.ix (.var 0) (.int 1))))) .nil)
theorem uI:aE k9  eV (af fh)=true:=by decide +kernel
noncomputable abbrev gF:Stmt:=top 44
theorem ui:aj ["_law_pot_here","_law_row_here","_law_far","_law_begin","_law_low_here","_law_high","_law_way","_law_step_here","_law_end"] ["_law_pot_here","_law_row_here","_law_far"] (ae gF):=by walk_at "SC"
noncomputable def n8:Cfg:=mkc ["_law_pot_here","_law_row_here","_law_far","_law_begin","_law_low_here","_law_high","_law_way","_law_step_here","_law_end"] gF 26
noncomputable def fS:Ss:=(.cons (.set (.tup (.cons (.name 3) (.cons (.name 4) (.cons (.name 5) .nil)))) (.ix (.bin .Add (.lst (.cons (.tup (.cons (.int 0) (.cons (.int 0) (.cons (.int 0) .nil)))) .nil)) (.var 1)) (.neg (.int 1)))) (.cons (.set (.name 6) (.call 21 (.cons (.var 0) (.cons (.int 6) .nil)))) (.cons (.set (.name 7) (.bin .Add (.int 1) (.call 21 (.cons (.var 0) (.cons (.var 2) .nil))))) (.cons (.ifS (.bop true (.cons (.cmp .Eq (.var 1) (.lst .nil)) (.cons (.cmp .Eq (.var 6) (.int 0)) .nil))) (.cons (.ret (.tup (.cons (.int 0) (.cons (.bin .Sub (.var 7) (.int 1)) (.cons (.bin .Sub (.var 7) (.int 1)) .nil))))) .nil) .nil) (.cons (.set (.name 4) (.bin .Add (.var 5) (.bin .Mult (.call 21 (.cons (.var 0) (.cons (.var 2) .nil))) (.blt .int1 (.cons (.cmp .Lt (.var 6) (.int 3)) .nil))))) (.cons (.set (.name 8) (.bin .Add (.var 3) (.var 7))) (.cons (.ret (.tup (.cons (.var 8) (.cons (.var 4) (.cons (.bin .Add (.blt .max2 (.cons (.var 4) (.cons (.var 8) .nil))) (.bin .Mult (.call 21 (.cons (.var 0) (.cons (.var 2) .nil))) (.blt .int1 (.cons (.cmp .NotEq (.var 6) (.int 2)) .nil)))) .nil))))) .nil)))))))
theorem vi:aE n8  fS (af gF)=true:=by decide +kernel
noncomputable abbrev c9:Stmt:=top 45
theorem mM:aj ["_law_pot_here","_law_row_here","_law_begin","_law_end","_law_low_here","_law_high","_law_many"] ["_law_pot_here","_law_row_here"] (ae c9):=by walk_at "SC"
noncomputable def i4:Cfg:=mkc ["_law_pot_here","_law_row_here","_law_begin","_law_end","_law_low_here","_law_high","_law_many"] c9 27
noncomputable def dj:Ss:=(.cons (.set (.name 2) (.ix (.ix (.bin .Add (.lst (.cons (.tup (.cons (.int 0) (.cons (.int 0) (.cons (.int 0) .nil)))) .nil)) (.sl (.var 1) .no (.yes (.neg (.int 1))))) (.neg (.int 1))) (.int 0))) (.cons (.set (.tup (.cons (.name 3) (.cons (.name 4) (.cons (.name 5) .nil)))) (.ix (.var 1) (.neg (.int 1)))) (.cons (.set (.name 6) (.bin .Add (.int 1) (.call 21 (.cons (.var 0) (.cons (.int 3) .nil))))) (.cons (.ifS (.cmp .Eq (.var 3) (.var 2)) (.cons (.ret (.tup (.cons (.bin .Add (.var 3) (.var 6)) (.cons (.var 5) (.cons (.bin .Add (.var 5) (.var 6)) .nil))))) .nil) .nil) (.cons (.ret (.tup (.cons (.bin .Add (.var 3) (.bin .Mult (.var 6) (.bin .Sub (.var 3) (.var 2)))) (.cons (.var 5) (.cons (.bin .Add (.var 5) (.bin .Mult (.var 6) (.bin .Sub (.var 5) (.var 4)))) .nil))))) .nil)))))
theorem pf:aE i4  dj (af c9)=true:=by decide +kernel
noncomputable abbrev fq:Stmt:=top 46
theorem rR:aj ["_law_pot_here","_law_most","_law_far","_law_row_here","_law_k","_law_piece"] ["_law_pot_here","_law_most"] (ae fq):=by walk_at "SC"
noncomputable def mw:Cfg:=mkc ["_law_pot_here","_law_most","_law_far","_law_row_here","_law_k","_law_piece"] fq 28
noncomputable def eX:Ss:=(.cons (.set (.name 2) (.tmp (.ix (.lst (.cons (.int 4) (.cons (.int 4) (.cons (.int 30) (.cons (.bin .Pow (.int 10) (.int 8)) .nil))))) (.call 21 (.cons (.var 0) (.cons (.int 4) .nil)))))) (.cons (.set (.name 3) (.lst .nil)) (.cons (.forS (.name 4) (.range1 (.call 21 (.cons (.var 0) (.cons (.bin .Add (.var 1) (.int 1)) .nil)))) (.cons (.set (.name 5) (.call 26 (.cons (.var 0) (.cons (.var 3) (.cons (.var 2) .nil))))) (.cons (.ifS (.bop true (.cons (.cmp .NotEq (.var 3) (.lst .nil)) (.cons (.cmp .Eq (.call 21 (.cons (.var 0) (.cons (.int 4) .nil))) (.int 0)) (.cons (.cmp .Lt (.ix (.ix (.var 3) (.neg (.int 1))) (.int 0)) (.bin .Pow (.int 10) (.int 9))) (.cons (.cmp .Lt (.ix (.ix (.var 3) (.neg (.int 1))) (.int 2)) (.bin .Pow (.int 10) (.int 9))) .nil))))) (.cons (.set (.name 5) (.call 27 (.cons (.var 0) (.cons (.var 3) .nil)))) .nil) .nil) (.cons (.ifS (.cmp .GtE (.ix (.var 5) (.int 2)) (.ix (.var 5) (.int 0))) (.cons (.expr (.met .append (.var 3) (.cons (.var 5) .nil))) .nil) .nil) .nil)))) (.cons (.ret (.var 3)) .nil))))
theorem uo:aE mw  eX (af fq)=true:=by decide +kernel
noncomputable abbrev eF:Stmt:=top 47
theorem qL:aj ["_law_pot_here"] ["_law_pot_here"] (ae eF):=by walk_at "SC"
noncomputable def kl:Cfg:=mkc ["_law_pot_here"] eF 29
noncomputable def ej:Ss:=(.cons (.ret (.tmp (.ix (.lst (.cons (.int 1) (.cons (.bin .Add (.int 1) (.call 21 (.cons (.var 0) (.cons (.int 12) .nil)))) (.cons (.bin .Add (.int 1) (.call 21 (.cons (.var 0) (.cons (.bin .Sub (.bin .Pow (.int 10) (.int 12)) (.int 1)) .nil)))) .nil)))) (.call 21 (.cons (.var 0) (.cons (.int 3) .nil)))))) .nil)
theorem si:aE kl  ej (af eF)=true:=by decide +kernel
noncomputable abbrev iY:Stmt:=top 48
theorem vf:aj ["_law_units_here","_law_bottom_here"] ["_law_units_here","_law_bottom_here"] (ae iY):=by walk_at "SC"
noncomputable def qi:Cfg:=mkc ["_law_units_here","_law_bottom_here"] iY 30
noncomputable def gK:Ss:=(.cons (.ret (.tmp (.blt .tuple1 (.cons (.comp (.tmp (.blt .tuple1 (.cons (.comp (.call 22 (.cons (.var 0) (.cons (.var 1) .nil))) (.name 0) (.seq (.var 0)) .nil ["_law_one"] [1]) .nil))) (.name 0) (.seq (.var 0)) .nil ["_law_piece"] [1]) .nil)))) .nil)
theorem xt:aE qi  gK (af iY)=true:=by decide +kernel
noncomputable abbrev cZ:Stmt:=top 49
theorem mJ:aj ["_law_thing"] ["_law_thing"] (ae cZ):=by walk_at "SC"
noncomputable def i9:Cfg:=mkc ["_law_thing"] cZ 31
noncomputable def di:Ss:=(.cons (.ret (.bop true (.cons (.inst (.var 0) "int") (.cons (.not (.inst (.var 0) "bool")) .nil)))) .nil)
theorem oU:aE i9  di (af cZ)=true:=by decide +kernel
noncomputable abbrev cI:Stmt:=top 50
theorem kZ:aj ["_law_thing"] ["_law_thing"] (ae cI):=by walk_at "SC"
noncomputable def ig:Cfg:=mkc ["_law_thing"] cI 32
noncomputable def cU:Ss:=(.cons (.ifS (.bop false (.cons (.not (.inst (.var 0) "tuple")) (.cons (.cmp .NotEq (.blt .len (.cons (.var 0) .nil)) (.int 2)) (.cons (.not (.call 31 (.cons (.ix (.var 0) (.int 0)) .nil))) (.cons (.not (.call 31 (.cons (.ix (.var 0) (.int 1)) .nil))) .nil))))) (.cons (.ret (.bl false)) .nil) .nil) (.cons (.ret (.bop true (.cons (.cmp .GtE (.ix (.var 0) (.int 0)) (.int 0)) (.cons (.cmp .Gt (.ix (.var 0) (.int 1)) (.int 0)) (.cons (.cmp .Eq (.call 22 (.cons (.ix (.var 0) (.int 0)) (.cons (.ix (.var 0) (.int 1)) .nil))) (.var 0)) .nil))))) .nil))
theorem nY:aE ig  cU (af cI)=true:=by decide +kernel
noncomputable abbrev c8:Stmt:=top 51
theorem ny:aj ["_law_row_here","_law_begin","_law_ahead_here","_law_k","_law_end","_law_low_here","_law_high"] ["_law_row_here"] (ae c8):=by walk_at "SC"
noncomputable def i_:Cfg:=mkc ["_law_row_here","_law_begin","_law_ahead_here","_law_k","_law_end","_law_low_here","_law_high"] c8 33
noncomputable def df:Ss:=(.cons (.set (.name 1) (.tup (.cons (.int 0) (.cons (.int 1) .nil)))) (.cons (.set (.name 2) (.tup (.cons (.int 0) (.cons (.int 1) .nil)))) (.cons (.forS (.tup (.cons (.name 3) (.cons (.tup (.cons (.name 4) (.cons (.name 5) (.cons (.name 6) .nil)))) .nil))) (.enum (.var 0)) (.cons (.ifS (.bop false (.cons (.call 25 (.cons (.var 6) (.cons (.var 5) .nil))) (.cons (.call 25 (.cons (.var 5) (.cons (.var 2) .nil))) (.cons (.call 25 (.cons (.var 5) (.cons (.var 1) .nil))) (.cons (.call 25 (.cons (.var 6) (.cons (.var 4) .nil))) .nil))))) (.cons (.ret (.bl false)) .nil) .nil) (.cons (.ifS (.bop true (.cons (.not (.call 25 (.cons (.var 1) (.cons (.var 4) .nil)))) (.cons (.bop false (.cons (.cmp .Gt (.var 3) (.int 0)) (.cons (.call 25 (.cons (.var 4) (.cons (.var 1) .nil))) (.cons (.cmp .NotEq (.var 5) (.var 6)) .nil)))) .nil))) (.cons (.ret (.bl false)) .nil) .nil) (.cons (.set (.name 1) (.var 4)) (.cons (.set (.name 2) (.var 6)) .nil))))) (.cons (.ret (.bl true)) .nil))))
theorem oM:aE i_  df (af c8)=true:=by decide +kernel
noncomputable abbrev eG:Stmt:=top 52
theorem qa:aj ["_law_thing","_law_piece"] ["_law_thing"] (ae eG):=by walk_at "SC"
noncomputable def ku:Cfg:=mkc ["_law_thing","_law_piece"] eG 34
noncomputable def dZ:Ss:=(.cons (.ifS (.not (.inst (.var 0) "tuple")) (.cons (.ret (.bl false)) .nil) .nil) (.cons (.forS (.name 1) (.seq (.var 0)) (.cons (.ifS (.bop false (.cons (.not (.inst (.var 1) "tuple")) (.cons (.cmp .NotEq (.blt .len (.cons (.var 1) .nil)) (.int 3)) (.cons (.not (.tmp (.blt .all1 (.cons (.comp (.call 32 (.cons (.var 0) .nil)) (.name 0) (.seq (.var 1)) .nil ["_law_one"] []) .nil)))) .nil)))) (.cons (.ret (.bl false)) .nil) .nil) .nil)) (.cons (.ret (.call 33 (.cons (.var 0) .nil))) .nil)))
theorem rL:aE ku  dZ (af eG)=true:=by decide +kernel
noncomputable abbrev dD:Stmt:=top 53
theorem oQ:aj ["_law_row_here","_law_begins","_law_k","_law_rises","_law_one","_law_rise"] ["_law_row_here"] (ae dD):=by walk_at "SC"
noncomputable def jm:Cfg:=mkc ["_law_row_here","_law_begins","_law_k","_law_rises","_law_one","_law_rise"] dD 35
noncomputable def dF:Ss:=(.cons (.set (.name 1) (.bin .Add (.lst (.cons (.tup (.cons (.int 0) (.cons (.int 1) .nil))) .nil)) (.comp (.ix (.var 0) (.int 0)) (.name 0) (.seq (.var 0)) .nil ["_law_piece"] []))) (.cons (.forS (.name 2) (.range2 (.int 1) (.blt .len (.cons (.var 0) .nil))) (.cons (.ifS (.cmp .Eq (.ix (.ix (.var 0) (.var 2)) (.int 1)) (.ix (.ix (.var 0) (.bin .Sub (.var 2) (.int 1))) (.int 2))) (.cons (.ifS (.cmp .Eq (.ix (.ix (.var 0) (.bin .Sub (.var 2) (.int 1))) (.int 0)) (.ix (.var 1) (.bin .Sub (.var 2) (.int 1)))) (.cons (.ret (.bl false)) .nil) .nil) (.cons (.set (.name 3) (.lst .nil)) (.cons (.forS (.name 4) (.seq (.tup (.cons (.bin .Sub (.var 2) (.int 1)) (.cons (.var 2) .nil)))) (.cons (.set (.name 5) (.call 23 (.cons (.ix (.ix (.var 0) (.var 4)) (.int 2)) (.cons (.ix (.ix (.var 0) (.var 4)) (.int 1)) .nil)))) (.cons (.expr (.met .append (.var 3) (.cons (.call 24 (.cons (.var 5) (.cons (.call 23 (.cons (.ix (.ix (.var 0) (.var 4)) (.int 0)) (.cons (.ix (.var 1) (.var 4)) .nil))) .nil))) .nil))) .nil))) (.cons (.ifS (.cmp .Eq (.ix (.var 3) (.int 0)) (.ix (.var 3) (.int 1))) (.cons (.ret (.bl false)) .nil) .nil) .nil)))) .nil) .nil)) (.cons (.ret (.bl true)) .nil)))
theorem qU:aE jm  dF (af dD)=true:=by decide +kernel
noncomputable abbrev b7:Stmt:=top 54
theorem j6:aj ["_law_moment_here"] ["_law_moment_here"] (ae b7):=by walk_at "SC"
noncomputable def gg:Cfg:=mkc ["_law_moment_here"] b7 36
noncomputable def ck:Ss:=(.cons (.ret (.tmp (.ix (.lst (.cons (.bin .Add (.bin .Add (.blt .str1 (.cons (.ix (.var 0) (.int 0)) .nil)) (.str "/")) (.blt .str1 (.cons (.ix (.var 0) (.int 1)) .nil))) (.cons (.blt .str1 (.cons (.ix (.var 0) (.int 0)) .nil)) .nil))) (.blt .int1 (.cons (.cmp .Eq (.ix (.var 0) (.int 1)) (.int 1)) .nil))))) .nil)
theorem kA:aE gg  ck (af b7)=true:=by decide +kernel
noncomputable abbrev gu:Stmt:=top 55
theorem va:aj ["_law_row_here"] ["_law_row_here"] (ae gu):=by walk_at "SC"
noncomputable def oB:Cfg:=mkc ["_law_row_here"] gu 37
noncomputable def f_:Ss:=(.cons (.ifS (.cmp .Eq (.var 0) (.tup .nil)) (.cons (.ret (.str "never")) .nil) .nil) (.cons (.ret (.tmp (.smx .join (.str "; ") (.comp (.tmp (.smx .join (.str " ") (.comp (.call 36 (.cons (.var 0) .nil)) (.name 0) (.seq (.var 0)) .nil ["_law_one"] []))) (.name 0) (.seq (.var 0)) .nil ["_law_piece"] [])))) .nil))
theorem wK:aE oB  f_ (af gu)=true:=by decide +kernel
noncomputable abbrev eJ:Stmt:=top 56
theorem pN:aj ["_law_word","_law_sides","_law_found"] ["_law_word"] (ae eJ):=by walk_at "SC"
noncomputable def ko:Cfg:=mkc ["_law_word","_law_sides","_law_found"] eJ 38
noncomputable def eC:Ss:=(.cons (.set (.name 1) (.smx .split (.var 0) (.str "/"))) (.cons (.ifS (.bop false (.cons (.cmp .Gt (.blt .len (.cons (.var 1) .nil)) (.int 2)) (.cons (.cmp .In (.str "") (.var 1)) (.cons (.not (.tmp (.blt .all1 (.cons (.comp (.cmp .In (.var 0) (.str "0123456789")) (.name 0) (.chars (.smx .join (.str "") (.var 1))) .nil ["_law_sign"] []) .nil)))) .nil)))) (.cons (.ret .non) .nil) .nil) (.cons (.set (.name 2) (.tup (.cons (.blt .int1 (.cons (.ix (.var 1) (.int 0)) .nil)) (.cons (.blt .int1 (.cons (.ix (.bin .Add (.var 1) (.lst (.cons (.str "1") .nil))) (.int 1)) .nil)) .nil)))) (.cons (.ifS (.bop false (.cons (.not (.call 32 (.cons (.var 2) .nil))) (.cons (.cmp .NotEq (.call 36 (.cons (.var 2) .nil)) (.var 0)) .nil))) (.cons (.ret .non) .nil) .nil) (.cons (.ret (.var 2)) .nil)))))
theorem rK:aE ko  eC (af eJ)=true:=by decide +kernel
noncomputable abbrev fH:Stmt:=top 57
theorem sg:aj ["_law_text_here","_law_row_here"] ["_law_text_here"] (ae fH):=by walk_at "SC"
noncomputable def l8:Cfg:=mkc ["_law_text_here","_law_row_here"] fH 39
noncomputable def eZ:Ss:=(.cons (.ifS (.cmp .Eq (.var 0) (.str "never")) (.cons (.ret (.tup .nil)) .nil) .nil) (.cons (.set (.name 1) (.tmp (.blt .tuple1 (.cons (.comp (.tmp (.blt .tuple1 (.cons (.comp (.call 38 (.cons (.var 0) .nil)) (.name 0) (.seq (.smx .split (.var 0) (.str " "))) .nil ["_law_word"] []) .nil))) (.name 0) (.seq (.smx .split (.var 0) (.str "; "))) .nil ["_law_part"] []) .nil)))) (.cons (.ifS (.bop false (.cons (.not (.call 34 (.cons (.var 1) .nil))) (.cons (.not (.call 35 (.cons (.var 1) .nil))) .nil))) (.cons (.ret .non) .nil) .nil) (.cons (.ret (.var 1)) .nil))))
theorem ud:aE l8  eZ (af fH)=true:=by decide +kernel
noncomputable abbrev de:Stmt:=top 58
theorem nJ:aj ["_law_pot_here","_law_text_here","_law_at","_law_signs","_law_sign","_law_way"] ["_law_pot_here","_law_text_here"] (ae de):=by walk_at "SC"
noncomputable def iZ:Cfg:=mkc ["_law_pot_here","_law_text_here","_law_at","_law_signs","_law_sign","_law_way"] de 40
noncomputable def dm:Ss:=(.cons (.set (.name 2) (.call 21 (.cons (.var 0) (.cons (.bin .Add (.blt .len (.cons (.var 1) .nil)) (.int 1)) .nil)))) (.cons (.set (.name 3) (.str "0123456789/; -+n.\n~")) (.cons (.set (.name 4) (.ix (.var 3) (.call 21 (.cons (.var 0) (.cons (.blt .len (.cons (.var 3) .nil)) .nil))))) (.cons (.set (.name 5) (.call 21 (.cons (.var 0) (.cons (.int 3) .nil)))) (.cons (.ifS (.cmp .Eq (.var 5) (.int 0)) (.cons (.ret (.bin .Add (.sl (.var 1) .no (.yes (.var 2))) (.sl (.var 1) (.yes (.bin .Add (.var 2) (.int 1))) .no))) .nil) .nil) (.cons (.ret (.bin .Add (.bin .Add (.sl (.var 1) .no (.yes (.var 2))) (.var 4)) (.sl (.var 1) (.yes (.bin .Add (.var 2) (.blt .int1 (.cons (.cmp .Eq (.var 5) (.int 1)) .nil)))) .no))) .nil))))))
theorem pj:aE iZ  dm (af de)=true:=by decide +kernel
noncomputable abbrev dO:Stmt:=top 59
theorem oX:aj ["_law_pot_here","_law_text_here","_law_way","_law_sign","_law_sides","_law_at","_law_k"] ["_law_pot_here","_law_text_here"] (ae dO):=by walk_at "SC"
noncomputable def jq:Cfg:=mkc ["_law_pot_here","_law_text_here","_law_way","_law_sign","_law_sides","_law_at","_law_k"] dO 41
noncomputable def dM:Ss:=(.cons (.set (.name 2) (.call 21 (.cons (.var 0) (.cons (.int 4) .nil)))) (.cons (.forS (.name 3) (.seq (.sl (.lst (.cons (.str "; ") (.cons (.str " ") .nil))) .no (.yes (.var 2)))) (.cons (.set (.name 4) (.smx .split (.var 1) (.var 3))) (.cons (.set (.name 5) (.call 21 (.cons (.var 0) (.cons (.blt .len (.cons (.var 4) .nil)) .nil)))) (.cons (.expr (.met .insert (.var 4) (.cons (.call 21 (.cons (.var 0) (.cons (.blt .len (.cons (.var 4) .nil)) .nil))) (.cons (.met .popI (.var 4) (.cons (.var 5) .nil)) .nil)))) (.cons (.set (.name 1) (.smx .join (.var 3) (.var 4))) .nil))))) (.cons (.forS (.name 6) (.range1 (.call 21 (.cons (.var 0) (.cons (.int 4) .nil)))) (.cons (.set (.name 1) (.call 40 (.cons (.var 0) (.cons (.var 1) .nil)))) .nil)) (.cons (.ret (.var 1)) .nil))))
theorem qS:aE jq  dM (af dO)=true:=by decide +kernel
noncomputable abbrev cY:Stmt:=top 60
theorem nh:aj ["_law_text_here","_law_run","_law_sign"] ["_law_text_here"] (ae cY):=by walk_at "SC"
noncomputable def i5:Cfg:=mkc ["_law_text_here","_law_run","_law_sign"] cY 42
noncomputable def dr:Ss:=(.cons (.set (.name 1) (.int 0)) (.cons (.forS (.name 2) (.chars (.var 0)) (.cons (.set (.name 1) (.bin .Mult (.bin .Add (.var 1) (.int 1)) (.blt .int1 (.cons (.cmp .In (.var 2) (.str "0123456789")) .nil)))) (.cons (.ifS (.cmp .Gt (.var 1) (.int 12)) (.cons (.ret (.bl false)) .nil) .nil) .nil))) (.cons (.ret (.bl true)) .nil)))
theorem pb:aE i5  dr (af cY)=true:=by decide +kernel
noncomputable abbrev gy:Stmt:=top 61
theorem uN:aj ["_law_thing","_law_told_here","e"] ["_law_thing"] (ae gy):=by walk_at "SC"
noncomputable def oi:Cfg:=mkc ["_law_thing","_law_told_here","e"] gy 43
noncomputable def fV:TSs:=(.st (.set (.name 1) (.tup (.cons (.str "other") .nil))) (.tr 1 "told" 19 (.cons (.var 0) .nil) 2 [.guard (.both (.iso 1) .isv) (.guard (.no (.isos [2,3,4,5])) (.setT 1 [(.str "none")]))] (.st (.ret (.var 1)) .nil)))
theorem v9:ma oi FX ysL fV (af gy)=true:=by decide +kernel
noncomputable abbrev iV:Stmt:=top 62
theorem vZ:aj ["_law_text_here","_law_row_here"] ["_law_text_here"] (ae iV):=by walk_at "SC"
noncomputable def qx:Cfg:=mkc ["_law_text_here","_law_row_here"] iV 44
noncomputable def gM:Ss:=(.cons (.set (.name 1) (.call 39 (.cons (.var 0) .nil))) (.cons (.ifS (.cmp .Is (.var 1) .non) (.cons (.ret (.tup (.cons (.str "none") .nil))) .nil) .nil) (.cons (.ret (.tup (.cons (.str "told") (.cons (.var 1) .nil)))) .nil)))
theorem ye:aE qx  gM (af iV)=true:=by decide +kernel
noncomputable abbrev oD:Stmt:=top 63
theorem IJ:aj ["_law_script","_law_odd","_law_none","_law_k","_law_pot_here","_law_text_here","_law_turn","_law_some"] ["_law_script"] (ae oD):=by walk_at "SC"
noncomputable def F9:Cfg:=mkc ["_law_script","_law_odd","_law_none","_law_k","_law_pot_here","_law_text_here","_law_turn","_law_some"] oD 45
noncomputable def pS:Ss:=(.cons (.set (.name 1) (.lst (.cons .non (.cons (.bl true) (.cons (.int 7) (.cons (.tup .nil) (.cons (.lst .nil) (.cons (.tup (.cons (.str "never") .nil)) (.cons (.lst (.cons (.str "never") .nil)) (.cons .dct0 (.cons (.bl false) (.cons (.tup (.cons (.tup (.cons (.tup (.cons (.int 0) (.cons (.int 1) .nil))) (.cons (.tup (.cons (.int 0) (.cons (.int 1) .nil))) (.cons (.tup (.cons (.int 0) (.cons (.int 1) .nil))) .nil)))) .nil)) .nil)))))))))))) (.cons (.set (.name 2) (.lst (.cons (.str "") (.cons (.str "Never") (.cons (.str "never ") (.cons (.str " never") (.cons (.str "0 0") (.cons (.str "0 0 0 0") (.cons (.str "0 0 0;") (.cons (.str "0 0 0; ") (.cons (.str "; 0 0 0") (.cons (.str "0  0 0") (.cons (.str "1 0 0") .nil))))))))))))) (.cons (.set (.name 2) (.bin .Add (.var 2) (.lst (.cons (.str "1 2 1") .nil)))) (.cons (.set (.name 2) (.bin .Add (.var 2) (.lst (.cons (.str "00 0 0") (.cons (.str "1/1 1 1") (.cons (.str "2/4 1 1") (.cons (.str "1 1/0 1") (.cons (.str "0 0 1") (.cons (.str "1 0 1;2 1 3") (.cons (.str "1 0 1; 2 1 2") (.cons (.str "2 2 3; 1 3 3") .nil))))))))))) (.cons (.set (.name 2) (.bin .Add (.var 2) (.lst (.cons (.str "1 1 1; 2 0 2") (.cons (.str "-1 0 0") (.cons (.str "1 0 1; 1 1 1") (.cons (.str "0 1 1; 1 1 2") (.cons (.str "1\n1 1") (.cons (.str "never; 0 0 0") (.cons (.str "0/1 0 0") .nil)))))))))) (.cons (.set (.name 2) (.bin .Add (.var 2) (.lst (.cons (.str "1. 1 1") (.cons (.bin .Add (.bin .Add (.str "0 0 ") (.bin .Mult (.str "7") (.int 4000))) (.str "x")) (.cons (.bin .Add (.bin .Add (.str "0 0 0; ") (.bin .Mult (.str "1") (.int 4000))) (.str "/0 1 1")) .nil)))))) (.cons (.forS (.name 3) (.range1 (.blt .max2 (.cons (.int 1) (.cons (.blt .min2 (.cons (.blt .len (.cons (.var 0) .nil)) (.cons (.int 4) .nil))) .nil)))) (.cons (.set (.name 4) (.call 20 (.cons (.var 0) (.cons (.var 3) .nil)))) (.cons (.set (.name 5) (.call 37 (.cons (.call 30 (.cons (.call 28 (.cons (.var 4) (.cons (.int 12) .nil))) (.cons (.call 29 (.cons (.var 4) .nil)) .nil))) .nil))) (.cons (.forS (.name 6) (.range1 (.int 6)) (.cons (.set (.name 7) (.call 41 (.cons (.var 4) (.cons (.var 5) .nil)))) (.cons (.ifS (.bop true (.cons (.call 42 (.cons (.var 7) .nil)) (.cons (.cmp .NotEq (.call 43 (.cons (.var 7) .nil)) (.call 44 (.cons (.var 7) .nil))) .nil))) (.cons (.ret (.bl false)) .nil) .nil) .nil))) (.cons (.ifS (.cmp .NotEq (.call 43 (.cons (.ix (.var 1) (.call 21 (.cons (.var 4) (.cons (.blt .len (.cons (.var 1) .nil)) .nil)))) .nil)) (.tup (.cons (.str "none") .nil))) (.cons (.ret (.bl false)) .nil) .nil) .nil))))) (.cons (.ret (.tmp (.blt .all1 (.cons (.comp (.cmp .Eq (.call 43 (.cons (.var 0) .nil)) (.tup (.cons (.str "none") .nil))) (.name 0) (.seq (.var 2)) .nil ["_law_text_here"] []) .nil)))) .nil))))))))
theorem LM:aE F9  pS (af oD)=true:=by decide +kernel
local macro_rules | `(tactic| walk_at "WP")=>do
 let l<-(("Ax IT IH Ir Hu E9 MS MB KP Kj Iw Lw J8 He JI JB Ef DL ML Ig MJ Jf NZ ET LA JD Ii Mm Hk Lb Mz Nj Ma Mw Of Kq Kt IW Ly Me Lk LR MQ OJ K5 N1 M9 Hc KI GY Kn Iq Mi Ia Ih FK NM KJ Mq Oh Ki Ms LF Hr K1 HU Kd OE Jx EU JK FZ D4 GT ER Jv EM Jk KZ Lg HK Fl CU KO mj tM uF D7 CM Kg LW Lj MN Ku LY IB IU JO Ht Iv GI KB Nz L4 MP K7 LJ LS Mh Ov Nk KW Lq Jo ID ND MV MW N7 Kf MK LU zY CH zP Af AW A7 EY E5 FF FL Dn D5 Ci AD AK yA Az CA AC A2 An zS Mb Kw Kl rB qD Cm Cf Mx Mc MG KD GV Hw JP LC Mf Dx Jh JF HC JJ Md KY D0 Mu HJ Oa N4 NA Nm Ol MA Kc Ld JA Ll J0 HI Ko JW MU Nw FE Ls MI IM Ha KU Lu JV Lh Hf L8 Mr Mp Kz KS Lo Mg Ip LL Nc frame Γ_0 Γ_1 Γ_2 Γ_3 Γ_4 Γ_5 Γ_6 Γ_7 Γ_8 Γ_9 Nh NK M6 NQ N8 Ng NI Oe M5 Nf Od On Ow Oz NL Nv OH Oc Oi OI MX NC Nu Oj Oq NR NJ NS Nd M' Ni Nq Ny OB OG Nb N_ N3 Li KM Nat.add_assoc eH vm List.append_assoc List.length_append List.length_set List.map_cons List.map_nil List.length_cons List.length_nil List.replicate List.cons_append List.nil_append List.append_nil List.getElem?_cons_zero List.getElem?_cons_succ List.set_cons_zero List.set_cons_succ Option.some.injEq Cell.lst.injEq PV.int.injEq PV.bl.injEq PV.ref.injEq PV.str.injEq PV.tup.injEq PV.rdl.injEq List.cons.injEq and_true true_and exists_eq_left exists_eq_left' exists_eq_right exists_and_left exists_and_right exists_const Bool.not_true Bool.not_false Bool.not_not Bool.not_eq_true' decide_eq_true_eq decide_eq_false_iff_not false_and and_false false_or or_false if_true if_false Bool.false_eq_true reduceCtorEq reduceIte not_false_eq_true Nat.add_zero Nat.zero_add Nat.reduceAdd Nat.reduceSub Nat.reduceLeDiff Int.reduceToNat Int.reducePow Int.reduceLT Int.reduceLE Int.reduceNeg Int.reduceAdd Int.reduceSub Int.reduceMul H_ Ez exists_eq exists_eq' exists_false ne_eq not_true_eq_false and_assoc Option.join_some Option.join_none decide_true decide_false Jq JR HM IP GS IY GW Int.reduceEq Nat.reduceEqDiff Bool.not_eq_false Bool.not_eq_true Bool.and_true Bool.true_and Bool.and_false Bool.false_and Bool.or_false Bool.or_true".splitOn " ").toArray.mapM fun s=>`(Lean.Parser.Tactic.simpLemma|$(Lean.mkIdent s.toName):ident))
 `(tactic|simp only[↓J6,↓L3,↓Kb,↓Le,$l,*])
theorem yC {as st Q}(h:a_ as st Q):aG Γ gI (frame 1 as) st (ag st Q):=by
 obtain⟨v,rfl,hb,k⟩:=h;obtain⟨n,hn⟩:=bu hb;unfold gI;walk_at "WP";rw[qG hn] at k;refine⟨n,hn,?_⟩;cases e:bI "int" n with
 | false =>rw[e] at k;exact .inl k
 | true =>rw[e] at k;exact Ml ⟨n,hn,.inl k⟩
theorem oK {as st Q}(h:cM as st Q):aG Γ di (frame 1 as) st (ag st Q):=by
 obtain⟨v,rfl,hb,k⟩:=h;obtain⟨n,hn⟩:=bu hb;unfold di;walk_at "WP";rw[qG hn] at k;refine⟨n,hn,?_⟩;cases e:bI "int" n with
 | false =>rw[e] at k;exact .inl k
 | true =>rw[e] at k;exact Ml ⟨n,hn,.inl k⟩
theorem mI {as st Q}(h:aQ as st Q):aG Γ cW (frame 2 as) st (ag st Q):=by
 obtain⟨n,d,rfl,k⟩:=h;unfold cW;walk_at "WP";refine vj Γm (fun m ρ s=>∃a b:Nat,ρ=[some (.int a),some (.int b)]/\s=st/\Nat.gcd a b=Nat.gcd n d/\m=b) (n:=d) ⟨n,d,rfl,rfl,rfl,rfl⟩ ?_;rintro m ρ s ⟨a,b,rfl,rfl,hg,rfl⟩;walk_at "WP";by_cases hb:(m:Int)=0
 ·rw[OY (fun z=>z hb)];have:m=0:=by omega
  subst this;rw[Nat.gcd_zero_right] at hg;rw[hg];exact .inl k
 ·rw[O0 hb];refine⟨by omega,a % m,T9 _ (by omega),m,rfl,a % m,?_,?_,rfl⟩
  ·simp
  ·rw[<-hg,SI a m,Nat.gcd_rec m a,SI]
theorem C_ {xs:List PV}(h:xs.length=2):∃x y,xs=[x,y]:=by
 match xs,h with
 | [x,y],_=>exact⟨x,y,rfl⟩
theorem vU {k:Nat}{x:PV}(h:(PV.tup [x,y]).bel k=true):x.bel k=true/\y.bel k=true:=by rw[PV.bel,PV.bels,PV.bels,PV.bels,Bool.and_true,OU] at h;exact h
theorem rE {as st Q}(h:bE as st Q):aG Γ dQ (frame 3 as) st (ag st Q):=by
 obtain⟨v,rfl,hb,k⟩:=h;obtain⟨n,hn⟩:=bu hb;unfold dQ;walk_at "WP";refine⟨n,hn,?_⟩;obtain⟨kt,kf⟩:=qy hn;cases e:bI "tuple" n with
 | false =>rw[kf e] at k;exact .inl k
 | true =>
  obtain⟨xs,rfl⟩:=kt e;walk_at "WP";by_cases hl:xs.length=2
  ·obtain⟨x,y,rfl⟩:=C_ hl;obtain⟨bx,by'⟩:=vU hb;rw[jg] at k;walk_at "WP";refine⟨x,rfl,bx,?_⟩;cases x with
   | int i =>
    simp only[gL];walk_at "WP";refine⟨y,rfl,by',?_⟩;cases y with
    | int j =>
     simp only[gL];walk_at "WP";by_cases h0:0<=i
     ·rw[O0 h0];by_cases h1:1<=j
      ·rw[O0 h1];refine⟨i.toNat,j.toNat,?_,?_⟩
       ·rw[QI h0,QI (by omega)]
       ·walk_at "WP";rw[wI h0 h1];exact .inl k
      ·rw[OY h1];simp only[h1,false_and,and_false,decide_false] at k;exact .inl k
     ·rw[OY h0];simp only[h0,false_and,decide_false] at k;exact .inl k
    | _=>simp only[gL];walk_at "WP";exact .inl k
   | _=>simp only[gL];walk_at "WP";exact .inl k
  ·rw[wU hl] at k;rw[O0 (by omega)];exact .inl k
theorem xT {as st Q}(h:cz as st Q):aG Γ gQ (frame 3 as) st (ag st Q):=by obtain⟨n,d,rfl,h1,h2,k⟩:=h;unfold gQ;walk_at "WP";refine⟨n,d,rfl,?_⟩;walk_at "WP";refine⟨pv h1 h2,pv h1 h2,?_⟩;rw[<-SQ,<-SQ];exact .inl k
theorem Hh {as st Q}(h:dH as st Q):aG Γ mS (frame 2 as) st (ag st Q):=by obtain⟨p,q,rfl,hp,hq,hle,k⟩:=h;unfold mS;walk_at "WP";refine⟨lM hp.a hq.b,lM hq.a hp.b,lM hp.b hq.b,p.1*q.2-q.1*p.2,p.2*q.2,?_,QR hp.pos hq.pos,Eh hp.b hq.b,.inl k⟩;rw[Int.natCast_sub hle,PZ,PZ,PZ]
theorem Ft {as st Q}(h:gc as st Q):aG Γ kN (frame 2 as) st (ag st Q):=by obtain⟨p,q,rfl,hp,hq,k⟩:=h;unfold kN;walk_at "WP";refine⟨lM hp.a hq.a,lM hp.b hq.b,p.1*q.1,p.2*q.2,?_,QR hp.pos hq.pos,Eh hp.b hq.b,.inl k⟩;rw[PZ,PZ]
theorem lH {s:AH}{n m:Nat}{k:Bool->Prop}(h1:s[n]?=some (.lst xs))(h2:s[m]?=some (.lst []))(hd:dh 5 xs=true)(q:k xs.isEmpty):eqW s (.ref n) (.ref m) k:=by
 obtain⟨ds,e,d1,d2⟩:=b_ hd;refine⟨.list ds,.list [],by simp[lP,h1,e],by simp[lP,h2,PV.toDs],by simp[SeqAt.shaped,PyData.canLay0,PyData.depth,d1];omega,by simp[SeqAt.shaped,PyData.canLay0,PyData.canLayAll0,PyData.depth,PyData.depthAll],?_⟩;have:PyData.eqv (.list ds) (.list [])=xs.isEmpty:=by
  cases xs with
  | nil=>simp[PV.toDs] at e;subst e;simp[PyData.eqv,PyData.eqvAll]
  | cons y ys =>
   cases ds with
   | nil=>rw[PV.toDs] at e;split at e <;> simp at e
   | cons=>simp[PyData.eqv,PyData.eqvAll]
 rw[this];exact q
theorem vh {X:List Pc}:dh 5 (X.map pcV)=true:=jY fun v hv=>by obtain⟨p,_,rfl⟩:=O9.mp hv;rfl
theorem gw {st g:AH}{c:Cell}:(st++c::g)[st.length]?=some c:=by simp
theorem pq {st g:AH}{c:Cell}:(st++c::g).set st.length c'=st++c'::g:=by rw[SL _ _ (OX _),TZ];rfl
theorem nv (hp:Sz 3000 p)(hq:Sz 3000 q)(h:val q<=val p):q.1*p.2<=p.1*q.2:=(t7 hq.pos hp.pos).mpr h
theorem Be {as st Q}(h:ee as st Q):aG Γ iS (frame 7 as) st (ag st Q):=by
 obtain⟨b,a,p,rfl,hb,ha,hp,h1,h2,h3,h4,k⟩:=h;unfold iS;walk_at "WP";refine jk ?_;by_cases q:p.l=a.h
 ·rw[PJ q];walk_at "WP";have c1:=ha.h.mono (k:=3000) (by decide);have c2:=ha.l.mono (k:=3000) (by decide);have c3:=ha.e.mono (k:=3000) (by decide);have c4:=hb.mono (k:=3000) (by decide);have c5:=hp.h.mono (k:=3000) (by decide);have c6:=hp.l.mono (k:=3000) (by decide);have c7:=hp.e.mono (k:=3000) (by decide);refine⟨a.h,a.l,rfl,c1,c2,nv c1 c2 h3,a.e,b,rfl,c3,c4,nv c3 c4 h1,p.h,p.l,rfl,c5,c6,nv c5 c6 h4,p.e,a.e,rfl,c7,c3,nv c7 c3 (QW h2),?_⟩;have d1:=(jI ha.h ha.l).mono (k:=3000) (by decide);have d2:=(jI ha.e hb).mono (k:=3000) (by decide);have d3:=(jI hp.h hp.l).mono (k:=3000) (by decide);have d4:=(jI hp.e ha.e).mono (k:=3000) (by decide);refine⟨_,_,rfl,d1,d4,_,_,rfl,d3,d2,jk (.inl ?_)⟩;unfold gB at k;rw[PJ q,Bool.true_and] at k;exact k
 ·rw[PF q];walk_at "WP";unfold gB at k;rw[PF q,SE] at k;exact .inl k
def LnI (st:AH)(L:List Pc)(i:Nat)(ρ:Fr)(s:AH):Prop:=∃(X:List Pc) (b:Nat × Nat) (g:AH) (a:Option PV),s=st++.lst (X.map pcV)::g/\ρ=[some (gk L),some (.ref st.length),some (fr b),a]/\X.length<=i /\
  ((X=[]/\b=(0,1)/\i=0)\/∃Y c,X=Y++[c]/\sY L=Y++gf b c (L.drop i)/\Sz 600 b/\c.Sz 600/\val b<=c.E/\c.L<=c.H/\Ch c.E (L.drop i))
theorem kY {Y:List Pc}{c:Pc}:(Y++[c]).map pcV=Y.map pcV++[pcV c]:=by simp
theorem w9 {Y:List Pc}{c:Pc}:((Y++[c]).map pcV).isEmpty=false:=by simp
theorem DT {n:Nat}:ixN (n+1) (-1)=some n:=by unfold ixN;simp;omega
theorem Hv {as st Q}(h:jH as st Q):aG Γ nX (frame 4 as) st (ag st Q):=by
 obtain⟨L,rfl,hz,hL,hl,k⟩:=h;unfold nX;walk_at "WP";have s01:Sz 600 (0,1):=⟨T6 (by decide),S6 (by decide),by decide⟩;refine en Γm (LnI st L) ⟨[],(0,1),[],none,rfl,rfl,OX _,.inl ⟨rfl,rfl,rfl⟩⟩ ?_ ?_
 ·rintro i v ρ s hi ⟨X,b,g,a,rfl,rfl,hXi,hX⟩;refine⟨trivial,?_⟩;rw[PC] at hi;obtain⟨p,hp,rfl⟩:=P1.mp hi;have il:=(OT.mp hp).1;have hd:L.drop i=p::L.drop (i+1):=by rw[QT il,(OT.mp hp).2]
  have pz:=hz p (OZ hp);walk_at "WP";refine lH (xs:=X.map pcV) (by simp) (by simp) vh ?_;rcases hX with⟨rfl,rfl,rfl⟩|⟨Y,c,rfl,hF,zb,zc,o1,o2,hc⟩
  ·rw[OY (by simp)];refine lH (xs:=[]) (by simp) (by simp) (by rw[dh]) ?_;rw[O0 (show ([]:List PV).isEmpty=true from rfl)];refine⟨⟨_,ay gw⟩,by simp,[p],(0,1),g++[.lst [],.lst []],some (pcV p),?_,rfl,by simp,.inr ⟨[],p,rfl,?_,s01,pz,?_⟩⟩
   ·rw[pq];rfl
   ·have:L=p::L.drop 1:=by simpa using hd
    rw[this];rfl
   ·have e:L=p::L.drop 1:=by simpa using hd
    rw[e] at hL;exact⟨by rw[bF];exact kI hL.1.e.pos,hL.2.1,hL.2.2⟩
  ·rw[O0 w9];rw[hd] at hc hF;obtain⟨pok,c1,c2,c3⟩:=hc;refine⟨_,ai gw,pcV c,by rw[kY];exact eS,b,c,p,rfl,zb,zc,pz,o1,c1,o2,c2,?_⟩;rw[gf] at hF;have len:((Y++[c]).map pcV).length=Y.length+1:=by simp
   have lY:Y.length+1<=i:=by simpa using hXi
   cases gb:gB b c p with
   | true =>
    rw[O0 gb] at hF;walk_at "WP";refine⟨_,ai gw,pcV c,by rw[kY];exact eS,?_⟩;walk_at "WP";refine⟨Y.length,by rw[O1,PL];exact DT,Y++[c.mg p],b,g++[.lst []],some (pcV p),?_,rfl,by simp;omega,.inr ⟨Y,c.mg p,rfl,hF,zb,⟨pz.e,zc.l,pz.h⟩,?_,?_,c3⟩⟩
    ·rw[pq,kY];simp
    ·show val b<=p.E;grind
    ·show c.L<=p.H;have e:p.l=c.h:=by unfold gB at gb;rw[OU,decide_eq_true_eq] at gb;exact gb.1
     have:p.L=c.H:=by unfold Pc.L Pc.H;rw[e]
     grind
   | false =>
    rw[OY (by rw[gb];decide)] at hF;walk_at "WP";refine lH (xs:=(Y++[c]).map pcV) (by simp) (by simp) vh ?_;rw[w9,OY (by decide)];refine⟨_,ai gw,pcV c,by rw[kY];exact eS,?_⟩;walk_at "WP";refine⟨⟨_,ay gw⟩,by rw[len];omega,Y++[c]++[p],c.e,g++[.lst [],.lst []],some (pcV p),?_,rfl,by simp;omega,.inr ⟨Y++[c],p,rfl,?_,zc.e,pz,QW c1,c2,c3⟩⟩
    ·rw[pq];simp
    ·rw[hF];simp
 ·rintro ρ s ⟨X,b,g,a,rfl,rfl,hXi,hX⟩;refine⟨trivial,?_⟩;walk_at "WP";have fin:sY L=X:=by
   rw[O1] at hX;rcases hX with⟨rfl,_,h0⟩|⟨Y,c,rfl,hF,_⟩
   ·rw[QX.mp h0];rfl
   ·rw[hF,TH];rfl
  refine⟨_,ai gw,.inr (.app ?_ ?_)⟩
  ·refine PV.bel_le (P9 _) ?_;rw[PV.bel];clear hX fin hXi
   induction X with
   | nil=>rw[RL,PV.bels]
   | cons x xs ih=>rw[O8,PV.bels,ih];rfl
  ·rw[fin] at k;exact k
theorem vw {as st Q}(h:fD as st Q):aG Γ fW (frame 2 as) st (ag st Q):=by obtain⟨p,q,rfl,hp,hq,hle,k⟩:=h;unfold fW;walk_at "WP";refine⟨lM hp.a hq.b,lM hq.a hp.b,lM hp.b hq.b,p.1*q.2-q.1*p.2,p.2*q.2,?_,QR hp.pos hq.pos,Eh hp.b hq.b,.inl k⟩;rw[Int.natCast_sub hle,PZ,PZ,PZ]
theorem wW {as st Q}(h:fF as st Q):aG Γ f' (frame 2 as) st (ag st Q):=by obtain⟨p,q,rfl,hp,hq,h0,k⟩:=h;unfold f';walk_at "WP";refine⟨lM hp.a hq.b,lM hp.b hq.a,p.1*q.2,p.2*q.1,?_,QR hp.pos h0,Eh hp.b hq.a,.inl k⟩;rw[PZ,PZ]
theorem tI {as st Q}(h:eD as st Q):aG Γ eV (frame 2 as) st (ag st Q):=by obtain⟨p,q,rfl,hp,hq,k⟩:=h;unfold eV;walk_at "WP";refine⟨lM hp.a hq.b,lM hq.a hp.b,?_⟩;rw[<-PZ,<-PZ];simp only[Int.ofNat_lt];exact .inl k
theorem xR {as st Q}(h:dw as st Q):aG Γ gP (frame 4 as) st (ag st Q):=by
 obtain⟨n,d,rfl,h0,h1,k⟩:=h;unfold gP;walk_at "WP";refine vj Γm (fun j ρ s=>s=st/\∃a:Nat,ρ=[some (.int n),some (.int d),some (.int a),some (.int j)]/\Nat.gcd a j=Nat.gcd n d) (n:=d) ⟨rfl,n,rfl,rfl⟩ ?_;rintro m ρ s ⟨rfl,a,rfl,hg⟩;walk_at "WP";by_cases hb:(0:Int)<m
 ·rw[O0 hb];exact⟨hb,a % m,T9 _ (by omega),m,rfl,by simp,by rw[<-hg,SI a m,Nat.gcd_rec m a,SI]⟩
 ·rw[OY hb];have:m=0:=by omega
  subst this;rw[Nat.gcd_zero_right] at hg;subst hg;refine⟨pv h0 h1,pv h0 h1,?_⟩;rw[<-SQ,<-SQ];exact .inl k
theorem uX {as st Q}(h:cg as st Q):aG Γ eU (frame 3 as) st (ag st Q):=by
 obtain⟨p,many,rfl,⟨q,r,hp,hq,hr0,hr1⟩,hm,hm2,k⟩:=h;have g0:Gr st p st:=.refl ⟨q,r,hp,hq,hr0,hr1⟩;unfold eU;walk_at "WP";refine⟨_,ai hp,_,rB,?_⟩;walk_at "WP";by_cases hz:0<q
 ·rw[O0 hz];refine⟨_,ai hp,_,rB,?_⟩;walk_at "WP";refine⟨zK hm hm2,_,hp,0,rfl,?_⟩;exact .inl (k _ _ (Int.emod_nonneg _ (by omega)) (Int.emod_lt_of_pos _ hm) (g0.set ⟨TR (by omega) (by omega),hr0,hr1⟩))
 ·rw[OY hz];refine⟨_,ai hp,_,qD,?_⟩;walk_at "WP";refine⟨oo (by decide) (by decide),_,hp,1,rfl,?_⟩;have hs:∀z,(st.set p (pc q z))[p]?=some (pc q z):=fun z=>P0 (eh hp);refine⟨_,ai (hs _),_,qD,_,ai (hs _),_,qD,?_⟩;walk_at "WP";refine⟨zL (by omega) (by omega),zK (by decide) (by decide),hm,?_⟩;exact .inl (k _ _ (Int.emod_nonneg _ (by omega)) (Int.emod_lt_of_pos _ hm) (g0.set ⟨hq,by omega,by omega⟩))
def PtI (ns:List Int)(m:Nat)(n:Nat)(s0:AH)(i:Nat)(ρ:Fr)(s:AH):Prop:=∃(z:Nat) (a:Option PV),s=s0/\ρ=[some (.rdl (ns.map PV.int)),some (.int m),some (.ref n),some (.int z),a,none]/\z<2147483629
theorem yy {as st Q}(h:dv as st Q):aG Γ gN (frame 6 as) st (ag st Q):=by
 obtain⟨ns,m,rfl,hl,hm,k⟩:=h;unfold gN;walk_at "WP";rw[L6 hl];refine⟨_,ai au,by simp;omega,?_⟩;refine comp_map Γm (fun x=>match x with | .int z=>.int z.natAbs|v=>v) rfl (fun x hx=>?_) ?_
 ·obtain⟨z,_,rfl⟩:=O9.mp hx;walk_at "WP"
 refine⟨zL (by decide) (by decide),_,ai au,?_⟩;have e1:(ns.map PV.int).map (fun x=>match x with | .int z=>PV.int z.natAbs|v=>v)=(ns.map fun z=>((z.natAbs:Nat):Int)).map PV.int:=by simp
 rw[e1];generalize hs:st++[Cell.lst (List.map PV.int ns)]=s1;generalize hA:(ns.map fun z=>((z.natAbs:Nat):Int))=A;have lA:A.length=ns.length:=by rw[<-hA];simp
 have nA:∀x∈A,0<=x:=fun x hx=>by rw[<-hA] at hx;obtain⟨z,_,rfl⟩:=O9.mp hx;omega
 refine en Γm (PtI ns m s1.length (s1++[.lst (A.map PV.int)])) ⟨11+7*m,none,rfl,by simp,by omega⟩ ?_ ?_
 ·rintro i v ρ s hi ⟨z,a,rfl,rfl,hz⟩;rw[PC] at hi;obtain⟨y,hy,rfl⟩:=P1.mp hi;have y0:=nA y (OZ hy);refine⟨rfl,?_⟩;walk_at "WP";refine⟨oo (by decide) (by decide),((z:Int)*48271+y % 2147483629+1).toNat % 2147483629,some (.int y),rfl,?_,by omega⟩;have e:((z:Int)*48271+y % 2147483629+1) % 2147483629=((((z:Int)*48271+y % 2147483629+1).toNat % 2147483629:Nat):Int):=by omega
  rw[e]
 ·rintro ρ s ⟨z,a,rfl,rfl,hz⟩;refine⟨rfl,?_⟩;walk_at "WP";have el:List.map PV.int A++[[PV.int 0],[PV.int 0],[PV.int 0],[PV.int 0],[PV.int 0],[PV.int 0],[PV.int 0],[PV.int 0],[PV.int 0]].flatten=(A++[0,0,0,0,0,0,0,0,0]).map PV.int:=by simp
  rw[el];have gl:∀g:AH,(s1++g)[s1.length+3]?=g[3]?:=fun g=>eH (k:=3);have lm:m<(A++[0,0,0,0,0,0,0,0,0]).length:=by simp;omega
  refine⟨by simp,(by first|(simp;done)|(simp;omega)),_,ai (by rw[gl];rfl),_,BY lm,K4,?_⟩;have y0:0<=(A++[0,0,0,0,0,0,0,0,0]).getD m 0:=by
   rw[List.getD_eq_getElem?_getD,O6 lm,Option.getD_some];have:=TJ lm;rcases P7.mp this with h|h
   ·exact nA _ h
   ·simp at h;omega
  generalize (A++[0,0,0,0,0,0,0,0,0]).getD m 0=y at y0;walk_at "WP";have b0:0<=b2z (decide (1000000000000000000<=y))/\b2z (decide (1000000000000000000<=y))<=1:=by unfold b2z;split <;> omega
  refine⟨oo (by omega) (by omega),.inl (k _ _ ⟨_,by rw[<-hs,PY]⟩ (by rw[<-hs,PL];exact O7 (Q1 _ _) (Q1 _ _)) ⟨_,_,eH (k:=4),Int.mul_nonneg y0 b0.1,by omega,by omega⟩)⟩
theorem tZ {α:Type}(U:List α):U=[]\/∃Y c,U=Y++[c]:=by
 rcases List.eq_nil_or_concat U with h|⟨Y,c,h⟩
 ·exact .inl h
 ·exact .inr ⟨Y,c,by rw[h,List.concat_eq_append]⟩
noncomputable abbrev cu (U:List Un3):Un3:=(U.getLast?).getD (0,0,0)
theorem wJ {U:List Un3}:atI (uV (0,0,0)::U.map uV) (-1)=some (uV (cu U)):=by
 rcases tZ U with rfl|⟨Y,c,rfl⟩
 ·exact eS (xs:=[])
 ·have:uV (0,0,0)::(Y++[c]).map uV=(uV (0,0,0)::Y.map uV)++[uV c]:=by simp
  rw[this,eS];simp[cu]
theorem zI {X:List Un3}:dh 5 (X.map uV)=true:=jY fun v hv=>by obtain⟨p,_,rfl⟩:=O9.mp hv;rfl
theorem yQ:∀ {Y:List Un3}{b hh:Nat}{c:Un3},RU b hh (Y++[c])->c.2.1<=c.2.2/\c.1<=c.2.2/\b<c.1/\hh<=c.2.1/\∀w,Y.getLast?=some w->w.1<c.1/\w.2.2<=c.2.1
 | [],b,hh,c,h=>⟨h.2.2.1,h.2.2.2.1,h.1,h.2.1,fun w z=>by simp at z⟩
 | y::Y,b,hh,c,⟨h1,h2,h3,h4,h5⟩=>by
  obtain⟨k1,k2,k3,k4,k5⟩:=yQ h5;refine⟨k1,k2,by omega,by omega,fun w hw=>?_⟩;cases Y with
  | nil=>simp at hw;subst hw;exact⟨k3,k4⟩
  | cons z Z=>rw[RK] at hw;exact k5 w hw
theorem wj {Y:List Un3}{c:Un3}(h:RUF (Y++[c])):c.2.1<=c.2.2/\c.1<=c.2.2/\∀w,Y.getLast?=some w->w.1<c.1:=by
 cases Y with
 | nil=>exact⟨h.1,h.2.1,fun w z=>by simp at z⟩
 | cons y Y =>
  obtain⟨k1,k2,k3,k4,k5⟩:=yQ h.2.2.2;refine⟨k1,k2,fun w hw=>?_⟩;cases Y with
  | nil=>simp at hw;subst hw;exact k3
  | cons z Z=>rw[RK] at hw;exact(k5 w hw).1
theorem Bi:∀ {U:List Un3}{b hh:Nat}{u:Un3},RU b hh U->(U=[]->b<u.1/\hh<=u.2.1/\u.2.1<=u.2.2/\u.1<=u.2.2)->(∀v,U.getLast?=some v->v.1<u.1/\v.2.2<=u.2.1/\u.2.1<=u.2.2/\u.1<=u.2.2)->RU b hh (U++[u])
 | [],b,hh,u,_,h1,_=>by obtain⟨a1,a2,a3,a4⟩:=h1 rfl;exact⟨a1,a2,a3,a4,trivial⟩
 | v::U,b,hh,u,⟨k1,k2,k3,k4,k5⟩,_,h2=>by
  refine⟨k1,k2,k3,k4,Bi k5 (fun e=>?_) fun w hw=>h2 w ?_⟩
  ·subst e;exact h2 v rfl
  ·cases U with
   | nil=>simp at hw
   | cons z Z=>rw[RK];exact hw
theorem Eo (h:RUF U)(a:App U u):RUF (U++[u]):=by
 cases U with
 | nil =>obtain⟨a1,a2,a3⟩:=a.fst rfl;exact⟨a1,a2,a3,trivial⟩
 | cons v U =>
  obtain⟨k1,k2,k3,k4⟩:=h;refine⟨k1,k2,k3,Bi k4 (fun e=>?_) fun w hw=>a.nxt w ?_⟩
  ·subst e;exact a.nxt v rfl
  ·cases U with
   | nil=>simp at hw
   | cons z Z=>rw[RK];exact hw
theorem rA (b:Bool):-(2 ^ 64)<b2z b:=by unfold b2z;split <;> omega
theorem rq (b:Bool):b2z b<2 ^ 64:=by unfold b2z;split <;> omega
theorem E8 {x:Int}{c:Bool}(h:0<=x):∃m:Nat,x*b2z c=m/\(m:Int)<=x:=by
 cases c with
 | true=>exact⟨x.toNat,by show x*1=_;omega,by omega⟩
 | false=>exact⟨0,by show x*0=_;omega,by omega⟩
theorem Ga (a b:Nat):∃M:Nat,(if (a:Int)<b then (b:Int) else a)=M/\a<=M/\b<=M/\(M=a\/M=b):=by
 by_cases h:a<b
 ·exact⟨b,by rw[O0 (by omega)],by omega,by omega,.inr rfl⟩
 ·exact⟨a,by rw[OY (by omega)],by omega,by omega,.inl rfl⟩
theorem wN {as st Q}(h:cE as st Q):aG Γ fS (frame 9 as) st (ag st Q):=by
 obtain⟨p,n,far,U,rfl,hp,hne,hn,f0,f1,hU,hl,hB,k⟩:=h;unfold fS;walk_at "WP";refine⟨_,fj hn,by simp;omega,_,ai (eH (k:=1)),_,wJ,_,rfl,rfl,_,_,rfl,_,_,rfl,_,_,rfl,rfl,?_⟩;have hlb:(cu U).1<=(cu U).2.2/\(cu U).1<=4*10 ^ 9+3*10 ^ 8*U.length/\(cu U).2.2<=4*10 ^ 9+3*10 ^ 8*U.length:=by
  rcases tZ U with rfl|⟨Y,c,rfl⟩
  ·exact⟨OX _,P9 _,P9 _⟩
  ·have e:cu (Y++[c])=c:=by simp[cu]
   rw[e];have b:=hB c (by simp);exact⟨(wj hU).2.1,b.1,b.2.2⟩
 obtain⟨l0,l1,l2⟩:=hlb;refine⟨p,6,rfl,hp.app,by decide,by decide,fun w s1 w0 w1 g1=>?_⟩;refine⟨p,far,rfl,g1.pot,f0,by omega,fun y s2 y0 y1 g2=>?_⟩;obtain⟨y,rfl⟩:∃m:Nat,y=m:=⟨y.toNat,by omega⟩;have G2:=((Gr.refl hp).app.trans g1).trans g2;have hn2:s2[n]?=some (.lst (U.map uV)):=G2.get hn hne;walk_at "WP";refine lH (xs:=U.map uV) (fj hn2) au zI ?_;have gS:Gr st p (s2++[Cell.lst []]):=G2.app;cases hE:(U.map uV).isEmpty with
 | true =>
  rw[O0 rfl];by_cases w0:w=0
  ·rw[O0 w0];refine .inl ?_;have e:PV.tup [.int 0,.int (1+(y:Int)-1),.int (1+(y:Int)-1)]=uV (0,y,y):=by show PV.tup [.int 0,.int (1+(y:Int)-1),.int (1+(y:Int)-1)]=PV.tup [.int 0,.int (y:Int),.int (y:Int)];rw[show 1+(y:Int)-1=y by omega]
   rw[e];have U0:U=[]:=by simpa using hE
   subst U0;refine k (0,y,y) _ ⟨fun _=>⟨OX _,P9 _,fun _=>rfl⟩,fun v hv=>by simp at hv⟩ (fun u hu=>?_) gS;rw[PM] at hu;subst hu;exact⟨P9 _,by show y<=_;omega,by show y<=_;omega⟩
  rw[OY w0];refine⟨p,far,rfl,gS.pot,f0,by omega,fun z1 s4 z10 z11 g4=>?_⟩;obtain⟨m1,em1,lm1⟩:=E8 (c:=decide (w<3)) z10;walk_at "WP";refine⟨oo (rA _) (rq _),?_⟩;rw[em1];refine⟨p,far,rfl,g4.pot,f0,by omega,fun z2 s5 z20 z21 g5=>?_⟩;obtain⟨m2,em2,lm2⟩:=E8 (c:=!decide (w=2)) z20;walk_at "WP";refine⟨oo (rA _) (rq _),?_⟩;rw[em2];obtain⟨M,eM,M1,M2,M3⟩:=Ga ((cu U).2.2+m1) ((cu U).1+(1+y));have e1:((cu U).2.2:Int)+m1=(((cu U).2.2+m1:Nat):Int):=by omega
  have e2:((cu U).1:Int)+(1+y)=(((cu U).1+(1+y):Nat):Int):=by omega
  rw[e1,e2,eM];have e3:(M:Int)+m2=((M+m2:Nat):Int):=by omega
  rw[e3];refine .inl (k ((cu U).1+(1+y),(cu U).2.2+m1,M+m2) _ ⟨fun e=>⟨by dsimp only;omega,by dsimp only;omega,fun z=>?_⟩,fun v hv=>?_⟩ (fun u hu=>?_) ((gS.trans g4).trans g5))
  ·have:(cu U).1+(1+y)=0:=z;omega
  ·have:cu U=v:=by simp[cu,hv]
   rw[this] at M1 M2 |-
   exact⟨by dsimp only;omega,by dsimp only;omega,by dsimp only;omega,by dsimp only;omega⟩
  ·rw[PM] at hu;subst hu;exact⟨by dsimp only;omega,by dsimp only;omega,by dsimp only;omega⟩
 | false =>
  rw[OY (by decide)];refine⟨p,far,rfl,gS.pot,f0,by omega,fun z1 s4 z10 z11 g4=>?_⟩;obtain⟨m1,em1,lm1⟩:=E8 (c:=decide (w<3)) z10;walk_at "WP";refine⟨oo (rA _) (rq _),?_⟩;rw[em1];refine⟨p,far,rfl,g4.pot,f0,by omega,fun z2 s5 z20 z21 g5=>?_⟩;obtain⟨m2,em2,lm2⟩:=E8 (c:=!decide (w=2)) z20;walk_at "WP";refine⟨oo (rA _) (rq _),?_⟩;rw[em2];obtain⟨M,eM,M1,M2,M3⟩:=Ga ((cu U).2.2+m1) ((cu U).1+(1+y));have e1:((cu U).2.2:Int)+m1=(((cu U).2.2+m1:Nat):Int):=by omega
  have e2:((cu U).1:Int)+(1+y)=(((cu U).1+(1+y):Nat):Int):=by omega
  rw[e1,e2,eM];have e3:(M:Int)+m2=((M+m2:Nat):Int):=by omega
  rw[e3];refine .inl (k ((cu U).1+(1+y),(cu U).2.2+m1,M+m2) _ ⟨fun e=>⟨by dsimp only;omega,by dsimp only;omega,fun z=>?_⟩,fun v hv=>?_⟩ (fun u hu=>?_) ((gS.trans g4).trans g5))
  ·have:(cu U).1+(1+y)=0:=z;omega
  ·have:cu U=v:=by simp[cu,hv]
   rw[this] at M1 M2 |-
   exact⟨by dsimp only;omega,by dsimp only;omega,by dsimp only;omega,by dsimp only;omega⟩
  ·rw[PM] at hu;subst hu;exact⟨by dsimp only;omega,by dsimp only;omega,by dsimp only;omega⟩
theorem Bz {X:List PV}{x:PV}:jc (X++[x]) none (some (-1))=X:=by
 unfold jc;have e:HT.sIx (X++[x]).length (X++[x]).length (some (-1))=X.length:=by show (if (-1:Int)<0 then ((-1:Int)+((X++[x]).length:Int)).toNat else min (-1:Int).toNat (X++[x]).length)=_;rw[O0 (by decide)];simp;omega
 rw[HT.sIx_none,e];simp
theorem oR {as st Q}(h:bw as st Q):aG Γ dj (frame 7 as) st (ag st Q):=by
 obtain⟨p,n,U,v,rfl,hp,hne,hn,v1,v2,v3,hw,hl,k⟩:=h;unfold dj;walk_at "WP";have em:(U++[v]).map uV=U.map uV++[uV v]:=by simp
 rw[em] at hn;refine⟨_,ay (fj hn),?_⟩;rw[Bz];refine⟨by simp;omega,_,ai (eH (k:=2)),_,wJ,?_⟩;walk_at "WP";refine⟨_,ai (fj hn),_,eS,_,rfl,rfl,_,_,rfl,_,_,rfl,_,_,rfl,rfl,?_⟩;refine⟨p,3,rfl,hp.app,by decide,by decide,fun y s1 y0 y1 g1=>?_⟩;obtain⟨y,rfl⟩:∃m:Nat,y=m:=⟨y.toNat,by omega⟩;have G1:=(Gr.refl hp).app.trans g1;have hb:(cu U).1<=v.1:=by
  cases hg:U.getLast? with
  | none=>simp[cu,hg]
  | some w=>have:=hw w hg;simp[cu,hg];omega
 walk_at "WP";by_cases he:(v.1:Int)=(cu U).1
 ·rw[O0 he];have e1:(v.1:Int)+(1+y)=((v.1+(1+y):Nat):Int):=by omega
  have e2:(v.2.2:Int)+(1+y)=((v.2.2+(1+y):Nat):Int):=by omega
  rw[e1,e2];refine .inl (k (v.1+(1+y),v.2.2,v.2.2+(1+y)) _ (by dsimp only;omega) (by dsimp only;omega) (by dsimp only;omega) (fun u hu=>?_) G1);rw[PM] at hu;subst hu;exact⟨by dsimp only;omega,by dsimp only;omega,by dsimp only;omega⟩
 ·rw[OY he];obtain⟨A,eA⟩:∃A:Nat,(v.1:Int)-(cu U).1=A:=⟨v.1-(cu U).1,by omega⟩;obtain⟨B,eB⟩:∃B:Nat,(v.2.2:Int)-v.2.1=B:=⟨v.2.2-v.2.1,by omega⟩;rw[eA,eB];have my:y=0\/y=1\/y=2:=by omega
  obtain⟨A',eA',A0,A1⟩:∃A':Nat,(1+(y:Int))*A=A'/\0<A'/\A'<=3*A:=by refine⟨(1+y)*A,by rw[PZ];rfl,QR (by omega) (by omega),SR _ (by omega)⟩
  obtain⟨B',eB',B1⟩:∃B':Nat,(1+(y:Int))*B=B'/\B'<=3*B:=by refine⟨(1+y)*B,by rw[PZ];rfl,SR _ (by omega)⟩
  rw[eA',eB'];refine⟨zL (by omega) (by omega),zL (by omega) (by omega),?_⟩;rw[<-SW,<-SW];refine .inl (k (v.1+A',v.2.2,v.2.2+B') _ (by dsimp only;omega) (by dsimp only;omega) (by dsimp only;omega) (fun u hu=>?_) G1);rw[PM] at hu;subst hu;exact⟨by dsimp only;omega,by dsimp only;omega,by dsimp only;omega⟩
theorem rZ {as st Q}(h:bU as st Q):aG Γ ej (frame 1 as) st (ag st Q):=by
 obtain⟨p,rfl,hp,k⟩:=h;unfold ej;walk_at "WP";refine⟨p,12,rfl,hp,by decide,by decide,fun x s1 x0 x1 g1=>?_⟩;walk_at "WP";refine⟨Lc,p,999999999999,rfl,g1.pot,by decide,by decide,fun y s2 y0 y1 g2=>?_⟩;walk_at "WP";refine⟨p,3,rfl,g2.pot.app,by decide,by decide,fun z s3 z0 z1 g3=>?_⟩;walk_at "WP";obtain⟨v,ev,d,rfl,d0,d1⟩:=Gx (L:=[PV.int 1,PV.int (1+x),PV.int (1+y)]) (P:=fun v=>∃d:Nat,v=.int d/\0<d/\d<10 ^ 12) (fun v hv=>by
  simp only[List.mem_cons,List.not_mem_nil,or_false] at hv;rcases hv with rfl|rfl|rfl
  ·exact⟨1,rfl,by decide,by decide⟩
  ·exact⟨(1+x).toNat,by congr 1;omega,by omega,by omega⟩
  ·exact⟨(1+y).toNat,by congr 1;omega,by omega,by omega⟩) z0 z1
 refine⟨_,ai (g3.get au g2.ne),_,ev,?_⟩;exact((g1.trans g2).app.trans g3).tmp rfl fun s5 g5 _=>.inl (k _ _ d0 d1 g5)
theorem yi {as st Q}(h:dA as st Q):aG Γ gK (frame 2 as) st (ag st Q):=by
 obtain⟨x,d,U,rfl,hx,hx2,d0,d1,hl,k⟩:=h;unfold gK;walk_at "WP";have be:d<2 ^ 8000:=RX d1 Lp;refine⟨_,hx,by simp;omega,?_⟩;refine FW.comp_map Γm (fun x=>match x with | .tup [.int a,.int b,.int c]=>pcV (A9 d (a.toNat,b.toNat,c.toNat))|v=>v) ?_ (fun y hy=>?_) ?_
 ·rcases hx2 with rfl|⟨n,rfl⟩
  ·trivial
  ·rfl
 ·obtain⟨u,_,rfl⟩:=O9.mp hy;walk_at "WP";refine⟨by decide,?_⟩;refine FW.comp_map Γm (fun x=>match x with | .int z=>fr (bV z.toNat d)|v=>v) trivial (fun x hx=>?_) ?_
  ·simp only[List.mem_cons,List.not_mem_nil,or_false] at hx;rcases hx with rfl|rfl|rfl
   ·walk_at "WP";exact⟨u.1,d,rfl,d0,be,rfl,rfl⟩
   ·walk_at "WP";exact⟨u.2.1,d,rfl,d0,be,rfl,rfl⟩
   ·walk_at "WP";exact⟨u.2.2,d,rfl,d0,be,rfl,rfl⟩
  ·refine⟨_,ai au,.app ?_ ⟨rfl,rfl⟩⟩;simp[PV.bel,PV.bels,fr]
 ·refine⟨_,ai au,.app ?_ (.inl ?_)⟩
  ·refine PV.bel_le (P9 _) ?_;rw[PV.bel];clear k hx hx2 hl
   induction U with
   | nil=>rfl
   | cons x xs ih=>rw[O8,O8,PV.bels,ih];rfl
  ·have:(U.map uV).map (fun x=>match x with | .tup [.int a,.int b,.int c]=>pcV (A9 d (a.toNat,b.toNat,c.toNat))|v=>v)=(U.map (A9 d)).map pcV:=by rw[RA,RA];rfl
   rw[this];exact k
def UnI (st:AH)(p n:Nat)(most far:Nat)(i:Nat)(ρ:Fr)(s:AH):Prop:=∃(U:List Un3) (a b:Option PV),Gr st p s/\s[n]?=some (.lst (U.map uV))/\RUF U/\U.length<=i/\i<=most/\BdU (4*10 ^ 9+3*10 ^ 8*U.length) U/\ρ=[some (.ref p),some (.int most),some (.int far),some (.ref n),a,b]
theorem Bl {p:Prop}{inst:Decidable p}{A B:Prop}(h1:p->A)(h2:¬p->B):@ite Prop p inst A B:=by
 by_cases h:p
 ·rw[O0 h];exact h1 h
 ·rw[OY h];exact h2 h
theorem BdU.mono {N M:Nat}(h:BdU N U)(hm:N<=M):BdU M U:=fun u hu=>⟨O7 (h u hu).1 hm,O7 (h u hu).2.1 hm,O7 (h u hu).2.2 hm⟩
theorem Ot:yt 10 8:=⟨by decide,by decide,by decide⟩
theorem uw {as st Q}(h:cf as st Q):aG Γ eX (frame 6 as) st (ag st Q):=by
 obtain⟨p,most,rfl,hp,hm,k⟩:=h;have pl:=hp.lt;unfold eX;walk_at "WP";refine⟨Ot,p,4,rfl,hp.app,by decide,by decide,fun y s1 y0 y1 g1=>?_⟩;walk_at "WP";obtain⟨v,ev,far,rfl,f0,f1⟩:=Gx (L:=[PV.int 4,PV.int 4,PV.int 30,PV.int 100000000]) (P:=fun v=>∃d:Nat,v=.int d/\0<d/\d<=10 ^ 8) (fun v hv=>by
  simp only[List.mem_cons,List.not_mem_nil,or_false] at hv;rcases hv with rfl|rfl|rfl|rfl
  ·exact⟨4,rfl,by decide,by decide⟩
  ·exact⟨4,rfl,by decide,by decide⟩
  ·exact⟨30,rfl,by decide,by decide⟩
  ·exact⟨_,rfl,by decide,by decide⟩) y0 y1
 refine⟨_,ai (g1.get au (by omega)),_,ev,?_⟩;refine((Gr.refl hp).app.trans g1).tmp rfl fun s2 g2 _=>?_;refine⟨p,_,rfl,g2.pot.app,by omega,by omega,fun j s3 j0 j1 g3=>?_⟩;obtain⟨j,rfl⟩:∃m:Nat,j=m:=⟨j.toNat,by omega⟩;refine⟨_,rfl,by omega,by omega,?_⟩;have n1:st.length<=s2.length:=g2.len;have nne:s2.length≠p:=g2.ne;refine en Γm (UnI st p s2.length most far) ⟨[],none,none,g2.app.trans g3,g3.get au nne,trivial,P9 _,P9 _,fun u hu=>(nomatch hu),rfl⟩ ?_ ?_
 ·rintro i v ρ s hi ⟨U,a,b,g,hn,hU,hl,him,hB,rfl⟩;obtain⟨rfl,hi⟩:=xX hi;refine⟨trivial,?_⟩;walk_at "WP";refine⟨p,s2.length,far,U,rfl,g.pot,nne,hn,by omega,by omega,hU,by omega,hB,fun u s4 ap bd g4=>?_⟩;have G4:=g.trans g4;have hn4:=g4.get hn nne;have fin:∀(u:Un3) (s':AH),Gr st p s'->s'[s2.length]?=some (.lst (U.map uV))->(u.1<=u.2.2->App U u)->BdU (4*10 ^ 9+3*10 ^ 8*(U.length+1)) [u] ->
    (if (u.1:Int)<=u.2.2 then (∃xs,bH s' (.ref s2.length)=some xs)/\∃xs,s'[s2.length]?=some (.lst xs)/\xs.length<100000/\UnI st p s2.length most far (i+1) [some (.ref p),some (.int most),some (.int far),some (.ref s2.length),some (.int i),some (uV u)] (List.set s' s2.length (.lst (xs++[uV u])))
    else UnI st p s2.length most far (i+1) [some (.ref p),some (.int most),some (.int far),some (.ref s2.length),some (.int i),some (uV u)] s'):=by
   intro u s' gs hs ap bd;have bd':BdU (4*10 ^ 9+3*10 ^ 8*(U.length+1)) (U++[u]):=fun w hw=>by
    rcases P7.mp hw with hw|hw
    ·have:=hB w hw;omega
    ·exact bd w hw
   by_cases q:(u.1:Int)<=u.2.2
   ·rw[O0 q];refine⟨⟨_,ay hs⟩,_,hs,by simp;omega,U++[u],_,_,gs.setN n1,?_,Eo hU (ap (by omega)),by simp;omega,by omega,by simpa using bd',rfl⟩;rw[P0 (eh hs)];simp
   ·rw[OY q];exact⟨U,_,_,gs,hs,hU,by omega,by omega,hB,rfl⟩
  walk_at "WP";refine lH (xs:=U.map uV) (fj hn4) au zI ?_;have G5:Gr st p (s4++[Cell.lst []]):=G4.app;have hn5:(s4++[Cell.lst []])[s2.length]?=some (.lst (U.map uV)):=fj hn4;generalize s4++[Cell.lst []]=s5 at G5 hn5;rcases tZ U with hU0|⟨Y,c,hU0⟩
  ·rw[OY (by rw[hU0];decide)];exact fin u s5 G5 hn5 (fun _=>ap) bd
  rw[O0 (by rw[hU0];simp)];refine⟨p,4,rfl,G5.pot,by decide,by decide,fun w s6 w0 w1 g6=>?_⟩;have G6:=G5.trans g6;have hn6:=g6.get hn5 nne;have em:(Y++[c]).map uV=Y.map uV++[uV c]:=by simp
  have hn7:s6[s2.length]?=some (.lst (Y.map uV++[uV c])):=by rw[hn6,hU0,em]
  walk_at "WP";by_cases q1:w=0
  ·rw[O0 q1];refine⟨_,ai hn7,_,eS,?_⟩;walk_at "WP";refine⟨LV,?_⟩;generalize lit:(1000000000:Int)=N9;refine Bl (fun q2=>?_) fun q2=>?_
   ·refine⟨_,ai hn7,_,eS,?_⟩;walk_at "WP";refine⟨LV,?_⟩;refine Bl (fun q3=>?_) fun q3=>?_
    ·rw[hU0] at hU;obtain⟨c1,c2,c3⟩:=wj hU;refine⟨p,_,Y,c,rfl,G6.pot,nne,by rw[hn7,em],by omega,by omega,c1,c3,by rw[hU0] at hl;simp at hl;omega,fun u' s7 u1 u2 u3 ub g7=>?_⟩;walk_at "WP";refine fin u' s7 (G6.trans g7) (g7.get hn6 nne) (fun q=>⟨fun e=>by rw[hU0] at e;simp at e,fun v hv=>?_⟩) (ub.mono (Q1 _ _));rw[hU0] at hv;simp at hv;subst hv;exact⟨u1,u2,u3,q⟩
    ·exact fin u s6 G6 hn6 (fun _=>ap) bd
   ·exact fin u s6 G6 hn6 (fun _=>ap) bd
  ·rw[OY q1];exact fin u s6 G6 hn6 (fun _=>ap) bd
 ·rintro ρ s ⟨U,a,b,g,hn,hU,hl,him,hB,rfl⟩;refine⟨trivial,?_⟩;walk_at "WP";have hl':(bY 0 (j:Int).toNat).length=j:=by simp[bY]
  rw[hl'] at hl him;exact .inl (k _ U _ g n1 hn hU (by omega) fun u hu=>by have:=hB u hu;omega)
theorem Rt.at_:∀ {r:List Pc}{b hh:Rat}{i:Nat}{p:Pc},Rt b hh r->r[i]?=some p->p.Ok/\p.L<=p.H/\p.E<=p.H/\b<p.E/\hh<=p.L
 | q::r,b,hh,0,p,⟨h1,h2,h3,h4,h5,h6⟩,e=>by cases e;exact⟨h1,h4,h5,h2,h3⟩
 | q::r,b,hh,i+1,p,⟨h1,h2,h3,h4,h5,h6⟩,e=>by obtain⟨k1,k2,k3,k4,k5⟩:=h6.at_ (i:=i) (by simpa using e);exact⟨k1,k2,k3,by grind,by grind⟩
theorem Rt.two:∀ {r:List Pc}{b hh:Rat}{i:Nat}{q p:Pc},Rt b hh r->r[i]?=some q->r[i+1]?=some p->q.E<p.E/\q.H<=p.L
 | a::r,b,hh,0,q,p,⟨h1,h2,h3,h4,h5,h6⟩,e1,e2=>by cases e1;have:=h6.at_ (i:=0) (by simpa using e2);exact⟨this.2.2.2.1,this.2.2.2.2⟩
 | a::r,b,hh,i+1,q,p,⟨h1,h2,h3,h4,h5,h6⟩,e1,e2=>h6.two (i:=i) (by simpa using e1) (by simpa using e2)
theorem RtF.at_ {i:Nat}(h:RtF L)(e:L[i]?=some p):p.Ok/\p.L<=p.H/\p.E<=p.H:=by
 cases L with
 | nil=>simp at e
 | cons a r =>
  cases i with
  | zero=>cases e;exact⟨h.1,h.2.1,h.2.2.1⟩
  | succ i =>obtain⟨k1,k2,k3,k4,k5⟩:=h.2.2.2.2.at_ (i:=i) (by simpa using e);exact⟨k1,k2,k3⟩
theorem RtF.two {i:Nat}(h:RtF L)(e1:L[i]?=some q)(e2:L[i+1]?=some p):q.E<p.E/\q.H<=p.L:=by
 cases L with
 | nil=>simp at e1
 | cons a r =>
  cases i with
  | zero =>cases e1;obtain⟨k1,k2,k3,k4,k5⟩:=h.2.2.2.2.at_ (i:=0) (by simpa using e2);exact⟨k4,k5⟩
  | succ i=>exact h.2.2.2.2.two (i:=i) (by simpa using e1) (by simpa using e2)
noncomputable def bg (L:List Pc):Nat->Nat × Nat
 | 0=>(0,1)
 | i+1=>((L[i]?).map Pc.e).getD (0,1)
noncomputable def hg (L:List Pc):Nat->Nat × Nat
 | 0=>(0,1)
 | i+1=>((L[i]?).map Pc.h).getD (0,1)
theorem Jt {j:Nat}(hp:Sz j p)(hq:Sz j q)(h:val q<=val p):decide (p.1*q.2<q.1*p.2)=false:=PF fun z=>by have:=(gT hp.pos hq.pos).mp z;grind
theorem Ca {α:Type}{L:List α}:(L.map fun _=>true).all id=true:=by simp
theorem NG.at_:∀ {L:List Pc}{b:Nat × Nat}{i:Nat}{a p:Pc},NG b L->L[i]?=some a->L[i+1]?=some p->gB (if i=0 then b else bg L i) a p=false
 | [],_,_,_,_,_,e,_=>by simp at e
 | [_],_,i,_,_,_,_,e=>by simp at e
 | x::y::r,b,0,a,p,h,e1,e2=>by cases e1;cases e2;exact h.1
 | x::y::r,b,i+1,a,p,h,e1,e2=>by
  have:=h.2.at_ (i:=i) (by simpa using e1) (by simpa using e2);rw[OY (by omega)];cases i with
  | zero=>simpa[bg] using this
  | succ i=>rw[OY (by omega)] at this;simpa[bg] using this
theorem bg0 {i:Nat}:(if i=0 then (0,1) else bg L i)=bg L i:=by
 cases i with
 | zero=>rfl
 | succ i=>rw[OY (by omega)]
theorem bgS {L:List Pc}{i:Nat}(h:L[i]?=some q):bg L (i+1)=q.e:=by show ((L[i]?).map Pc.e).getD (0,1)=_;rw[h];rfl
theorem nb {i:Nat}(hR:RtF L)(hq:L[i]?=some q):Cop (bg L i)/\val (bg L i)<=q.E/\(val (bg L i)=q.E->q.L=q.H)/\(i≠0->val (bg L i)<q.E):=by
 obtain⟨qok,q1,q2⟩:=hR.at_ hq;cases i with
 | zero =>
  refine⟨Cy,?_,?_,fun z=>absurd rfl z⟩
  ·show val (0,1)<=_;rw[bF];exact kI qok.e.pos
  ·show val (0,1)=_->_;rw[bF];cases L with
   | nil=>simp at hq
   | cons a r=>cases hq;exact hR.2.2.2.1
 | succ i =>have il:=(OT.mp hq).1;have ha:L[i]?=some L[i]:=O6 (by omega);obtain⟨k1,k2⟩:=hR.two ha hq;rw[bgS ha];exact⟨(hR.at_ ha).1.e,QW k1,fun z=>absurd z (by grind),fun _=>k1⟩
theorem bgZ {i k:Nat}(hz:SzL k L)(h:i<=L.length)(h1:1<=k):Sz k (bg L i):=by
 cases i with
 | zero=>exact(⟨T6 (by decide),S6 (by omega),by decide⟩:Sz k (0,1))
 | succ i =>have ha:L[i]?=some L[i]:=O6 (by omega);rw[bgS ha];exact(hz _ (OZ ha)).e
theorem FT {j k:Nat}(hp:Sz j p)(hq:Sz k q)(h:val q<val p):0<(bG p q).1:=by refine(pB (dE hp.pos hq.pos).pos).mpr ?_;rw[fo hp.pos hq.pos (QW h)];grind
theorem vO {m i:Nat}(h:(bY 1 m)[i]?=some v):v=.int (1+(i:Int))/\i<m:=by
 unfold bY at h;rw[PC] at h;have hi:i<m:=by
  by_cases hi:i<m
  ·exact hi
  ·rw[QU (by simp;omega)] at h;cases h
 rw[RD hi] at h;cases h;exact⟨rfl,hi⟩
def IlI (s0:AH)(nb:Nat)(L:List Pc)(ρ:Fr)(s:AH):Prop:=∃g a b c d,s=s0++g/\ρ=[some (gk L),some (.ref nb),a,b,c,d]
def IrI (s0:AH)(nb nr:Nat)(L:List Pc)(k:Nat)(R:List (Nat × Nat))(j:Nat)(ρ:Fr)(s:AH):Prop:=∃g a b,s=s0++.lst ((R.take j).map fr)::g/\nr=s0.length/\ρ=[some (gk L),some (.ref nb),some (.int k),some (.ref nr),a,b]
theorem pA:aW 4 (gk X)=true:=nQ fun v hv=>by obtain⟨p,_,rfl⟩:=O9.mp hv;rfl
theorem wR {M:List PV}:PV.same (.tup M) (.tup [])=M.isEmpty:=by cases M <;> simp[PV.same,PV.sames]
theorem RU.rt {d:Nat}(h0:0<d):∀ {U:List Un3}{b hh:Nat},RU b hh U->Rt ((b:Rat)/d) ((hh:Rat)/d) (U.map (A9 d))
 | [],_,_,_=>trivial
 | u::r,b,hh,⟨h1,h2,h3,h4,h5⟩=>by
  have dp:=dI h0;have lt:∀ {x y:Nat},x<y->(x:Rat)/d<(y:Rat)/d:=fun h=>by
   rw[S5 dp];have e:∀y:Rat,y/d*d=y:=fun y=>by grind
   rw[e];exact SJ.mpr h
  have le:∀ {x y:Nat},x<=y->(x:Rat)/d<=(y:Rat)/d:=fun {x y} h=>by
   by_cases e:x=y
   ·rw[e];exact TC
   ·exact QW (lt (by omega))
  have ih:=RU.rt h0 h5;refine⟨⟨.low h0,.low h0,.low h0⟩,?_,?_,?_,?_,?_⟩
  ·show _<val (bV u.1 d);rw[bj h0];exact lt h1
  ·show _<=val (bV u.2.1 d);rw[bj h0];exact le h2
  ·show val (bV u.2.1 d)<=val (bV u.2.2 d);rw[bj h0,bj h0];exact le h3
  ·show val (bV u.1 d)<=val (bV u.2.2 d);rw[bj h0,bj h0];exact le h4
  ·show Rt (val (bV u.1 d)) (val (bV u.2.2 d)) _;rw[bj h0,bj h0];exact ih
theorem RUF.rt {d:Nat}(h0:0<d)(h:RUF U):RtF (U.map (A9 d)):=by
 cases U with
 | nil=>trivial
 | cons u r =>
  obtain⟨h1,h2,h3,h4⟩:=h;have dp:=dI h0;have le:∀ {x y:Nat},x<=y->(x:Rat)/d<=(y:Rat)/d:=fun {x y} h=>by
   rw[<-Q4,S5 dp];have e:∀y:Rat,y/d*d=y:=fun y=>by grind
   rw[e,Q4];exact Rat.natCast_le_natCast.mpr h
  refine⟨⟨.low h0,.low h0,.low h0⟩,?_,?_,?_,?_⟩
  ·show val (bV u.2.1 d)<=val (bV u.2.2 d);rw[bj h0,bj h0];exact le h1
  ·show val (bV u.1 d)<=val (bV u.2.2 d);rw[bj h0,bj h0];exact le h2
  ·show 0=val (bV u.1 d)->val (bV u.2.1 d)=val (bV u.2.2 d);rw[bj h0,bj h0,bj h0];intro z;have:u.1=0:=by
    have e:(u.1:Rat)=0:=by grind
    exact Rat.natCast_eq_zero_iff.mp e
   rw[h3 this]
  ·show Rt (val (bV u.1 d)) (val (bV u.2.2 d)) _;rw[bj h0,bj h0];exact h4.rt h0
theorem yD {as st Q}(h:a8 as st Q):aG Γ gR (frame 2 as) st (ag st Q):=by obtain⟨p,q,rfl,hp,hq,k⟩:=h;unfold gR;walk_at "WP";refine⟨lM hp.a hq.b,lM hq.a hp.b,?_⟩;rw[<-PZ,<-PZ];simp only[Int.ofNat_lt];exact .inl k
theorem uM {n:String}(h:bT st v=some n):(bI "tuple" n=true/\∃xs,v=.tup xs)\/(bI "tuple" n=false/\∀xs,v≠.tup xs):=by
 cases v with
 | tup xs=>cases h;exact .inl ⟨by decide,xs,rfl⟩
 | ref k =>unfold bT at h;simp only at h;split at h <;> cases h <;> exact .inr ⟨by decide,fun xs e=>nomatch e⟩
 | fn _=>cases h
 | _=>cases h;exact .inr ⟨by decide,fun xs e=>nomatch e⟩
theorem qj {xs:List PV}(h:xs.length=3):∃x y z,xs=[x,y,z]:=by
 match xs,h with
 | [x,y,z],_=>exact⟨x,y,z,rfl⟩
theorem tN {xs:List PV}(h:xs.length≠3):pcP (.tup xs)=none:=by
 match xs,h with
 | [],_=>rfl
 | [_],_=>rfl
 | [_,_],_=>rfl
 | [_,_,_],h=>exact absurd rfl h
 | _::_::_::_::_,_=>rfl
theorem yV (h:∀xs,v≠.tup xs):pcP v=none:=by
 cases v with
 | tup xs=>exact absurd rfl (h xs)
 | _=>rfl
theorem tF (h:∀xs,v≠.tup xs):fR v=none:=by
 cases v with
 | tup xs=>exact absurd rfl (h xs)
 | _=>rfl
theorem fK (h:fR v=none):iO v=false:=by unfold iO;rw[h]
theorem sJ {L:List Pc}(h:∀p∈L,p.Ok):iO (gk L)=hV L:=by unfold iO;rw[tw h]
theorem nD {a:PV}:(pcP (.tup [a,b,c])).isSome=(bt a && (bt b && bt c)):=by rw[<-yd,<-yd,<-yd];show ((frP a).bind fun x=>(frP b).bind fun y=>(frP c).map fun z=>(⟨x,y,z⟩:Pc)).isSome=_;cases frP a <;> cases frP b <;> cases frP c <;> rfl
theorem up6 (h:Sz 600 p):Sz 3000 p:=h.mono (by decide)
theorem xu {as st Q}(h:dz as st Q):aG Γ gX (frame 1 as) st (ag st Q):=by
 obtain⟨v,rfl,hb,k⟩:=h;obtain⟨n,hn⟩:=bu hb;unfold gX;walk_at "WP";refine⟨n,hn,?_⟩;rcases uM hn with⟨e,xs,rfl⟩|⟨e,hx⟩
 ·rw[O0 e];walk_at "WP";by_cases hl:xs.length=3
  ·obtain⟨a,b,c,rfl⟩:=qj hl;rw[O0 (show ((([a,b,c]:List PV).length:Nat):Int)=3 from rfl)];refine⟨by simp,?_⟩;rw[PV.bel] at hb;refine FW.comp_map Γm (fun x=>.bl (bt x)) trivial (fun x hx=>?_) ?_
   ·walk_at "WP";exact⟨x,rfl,jw hb hx,rfl,rfl⟩
   ·refine⟨_,ay au,_,cN (f:=bt),.app rfl ?_⟩;rw[nD] at k;have:([a,b,c].map bt).all id=(bt a && (bt b && bt c)):=by simp
    rw[this];exact .inl k
  ·rw[OY (by omega)];rw[tN hl] at k;exact .inl k
 ·rw[OY (by rw[e];decide)];rw[yV hx] at k;exact .inl k
theorem mZ {as st Q}(h:bf as st Q):aG Γ cV (frame 4 as) st (ag st Q):=by
 obtain⟨p,rfl,hz,k⟩:=h;unfold cV;walk_at "WP";refine⟨p.h,p.l,rfl,up6 hz.h,up6 hz.l,_,rfl,?_⟩;by_cases h1:p.h.1*p.l.2<p.l.1*p.h.2
 ·rw[OY (by rw[PJ h1];decide)];refine .inl (k false ⟨fun z=>Bool.noConfusion z,fun z=>?_⟩);have:=(gT hz.h.pos hz.l.pos).mp h1;exact absurd z.1 (S7.mpr this)
 ·rw[O0 (PF h1)];refine⟨p.h,p.e,rfl,up6 hz.h,up6 hz.e,_,rfl,.inl (k _ ?_)⟩;rw[Bool.not_eq_true',decide_eq_false_iff_not,gT hz.h.pos hz.e.pos,Q4];refine⟨fun z=>⟨?_,z⟩,fun z=>z.2⟩;rw[gT hz.h.pos hz.l.pos,Q4] at h1;exact h1
theorem mO {as st Q}(h:bp as st Q):aG Γ cS (frame 4 as) st (ag st Q):=by
 obtain⟨p,rfl,ok,hz,k⟩:=h;unfold cS;walk_at "WP";refine jk (q:=(0,1)) ?_;by_cases h1:p.e=(0,1)
 ·rw[OY (by rw[PJ h1];decide)];refine jk (.inl (k _ ?_));rw[decide_eq_true_eq];refine⟨fun z _=>by unfold Pc.L Pc.H;rw[z],fun z=>jW ok.l ok.h (z ?_)⟩;unfold Pc.E;rw[h1,bF]
 ·rw[O0 (PF h1)];refine .inl (k true ⟨fun _ z=>absurd (jW ok.e Cy ?_) h1,fun _=>rfl⟩);rw[bF];exact z.symm
theorem mB {as st Q}(h:aV as st Q):aG Γ cA (frame 2 as) st (ag st Q):=by
 obtain⟨a,p,rfl,ha,hp,k⟩:=h;unfold cA;walk_at "WP";refine⟨a.e,p.e,rfl,up6 ha.e,up6 hp.e,_,rfl,?_⟩;by_cases h1:a.e.1*p.e.2<p.e.1*a.e.2
 ·rw[O0 (PJ h1)];refine⟨p.l,a.h,rfl,up6 hp.l,up6 ha.h,_,rfl,.inl (k _ ?_)⟩;rw[Bool.not_eq_true',decide_eq_false_iff_not,gT hp.l.pos ha.h.pos,Q4];exact⟨fun z=>⟨(gT ha.e.pos hp.e.pos).mp h1,z⟩,fun z=>z.2⟩
 ·rw[OY (by rw[PF h1];decide)];refine .inl (k false ⟨fun z=>Bool.noConfusion z,fun z=>absurd ((gT ha.e.pos hp.e.pos).mpr z.1) h1⟩)
theorem Gp:∀ {r:List Pc}{a:Pc},(∀p∈r,p.Ok)->(∀p∈r,p.L<=p.H/\p.E<=p.H)->(∀(i:Nat) q p,(a::r)[i]?=some q->(a::r)[i+1]?=some p->q.E<p.E/\q.H<=p.L)->Rt a.E a.H r
 | [],a,_,_,_=>trivial
 | p::r,a,ok,h1,h3=>by obtain⟨k1,k2⟩:=h3 0 a p rfl rfl;obtain⟨k3,k4⟩:=h1 p PD;exact⟨ok p PD,k1,k2,k3,k4,Gp (fun q hq=>ok q (OV _ hq)) (fun q hq=>h1 q (OV _ hq)) fun i q p' e1 e2=>h3 (i+1) q p' (by simpa using e1) (by simpa using e2)⟩
theorem DM {L:List Pc}(ok:∀p∈L,p.Ok)(h1:∀p∈L,p.L<=p.H/\p.E<=p.H)(h2:∀p,L[0]?=some p->0=p.E->p.L=p.H)(h3:∀(i:Nat) q p,L[i]?=some q->L[i+1]?=some p->q.E<p.E/\q.H<=p.L):RtF L:=by
 cases L with
 | nil=>trivial
 | cons a r =>obtain⟨k3,k4⟩:=h1 a PD;exact⟨ok a PD,k3,k4,h2 a rfl,Gp (fun q hq=>ok q (OV _ hq)) (fun q hq=>h1 q (OV _ hq)) h3⟩
theorem RtF.first (h:RtF L)(e:L[0]?=some p):0=p.E->p.L=p.H:=by
 cases L with
 | nil=>cases e
 | cons a r=>cases e;exact h.2.2.2.1
theorem VSz.row {L:List Pc}(ok:∀p∈L,p.Ok)(h:VSz (gk L)):SzL 600 L/\L.length<1000:=by obtain⟨h1,h2⟩:=h _ rfl;refine⟨fun p hp=>?_,by simpa using h1⟩;have h3:=h2 (pcV p) (O9.mpr ⟨p,hp,rfl⟩) _ rfl;obtain⟨a1,a2⟩:=h3 (fr p.e) (by simp) _ _ rfl;obtain⟨b1,b2⟩:=h3 (fr p.l) (by simp) _ _ rfl;obtain⟨c1,c2⟩:=h3 (fr p.h) (by simp) _ _ rfl;obtain⟨o1,o2,o3⟩:=ok p hp;exact⟨⟨a1,a2,o1.pos⟩,⟨b1,b2,o2.pos⟩,⟨c1,c2,o3.pos⟩⟩
open Classical in
noncomputable def alP (x:PV):Bool :=
 match pcP x with
 | some p=>decide (p.L<=p.H/\p.E<=p.H)
 | none=>false
open Classical in
noncomputable def beP (x:PV):Bool :=
 match x with
 | .tup [x,y]=>(match pcP x,pcP y with
  | some a,some p=>decide (a.E<p.E/\a.H<=p.L)
  | _,_=>false)
 | _=>false
theorem yF {p:Pc}(h:p.Ok):alP (pcV p)=true↔p.L<=p.H/\p.E<=p.H:=by unfold alP;rw[tQ h];exact decide_eq_true_iff
theorem xk {a p:Pc}(ha:a.Ok)(hp:p.Ok):beP (.tup [pcV a,pcV p])=true↔a.E<p.E/\a.H<=p.L:=by unfold beP;simp only[tQ ha,tQ hp];exact decide_eq_true_iff
theorem jG {a b:Bool}{P:Prop}(h1:a=true↔P)(h2:b=true↔P):a=b:=RN.mpr (h1.trans h2.symm)
theorem jz {L:List Pc}{i:Nat}(h:(gO (L.map pcV) ((L.drop 1).map pcV))[i]?=some v):∃a p,L[i]?=some a/\L[i+1]?=some p/\v=.tup [pcV a,pcV p]:=by obtain⟨x,y,e1,e2,rfl⟩:=qF h;rw[PC] at e1 e2;obtain⟨a,ha,rfl⟩:=P1.mp e1;obtain⟨p,hp,rfl⟩:=P1.mp e2;rw[List.getElem?_drop] at hp;exact⟨a,p,ha,by rw[Nat.add_comm];exact hp,rfl⟩
theorem pD {L:List Pc}(ok:∀p∈L,p.Ok):((gO (L.map pcV) ((L.drop 1).map pcV)).map beP).all id=true↔∀(i:Nat) q p,L[i]?=some q->L[i+1]?=some p->q.E<p.E/\q.H<=p.L:=by
 rw[TM,QF];constructor
 ·intro h i q p e1 e2;have:(gO (L.map pcV) ((L.drop 1).map pcV))[i]?=some (.tup [pcV q,pcV p]):=by
   have hl:i<(gO (L.map pcV) ((L.drop 1).map pcV)).length:=by rw[lG];have:=(OT.mp e2).1;simp;omega
   obtain⟨a,b,h1,h2,h3⟩:=jz (O6 hl);rw[e1] at h1;rw[e2] at h2;cases h1;cases h2;rw[O6 hl,h3]
  exact(xk (ok q (OZ e1)) (ok p (OZ e2))).mp (h _ (OZ this))
 ·intro h v hv;obtain⟨i,hi⟩:=QL hv;obtain⟨a,p,h1,h2,rfl⟩:=jz hi;exact(xk (ok a (OZ h1)) (ok p (OZ h2))).mpr (h i a p h1 h2)
open Classical in
theorem lC {c:Bool}(h:c=true↔RtF L):c=hV L:=by unfold hV;exact jG h decide_eq_true_iff
theorem DR {as st Q}(h:fL as st Q):aG Γ jr (frame 1 as) st (ag st Q):=by
 obtain⟨v,rfl,hb,hz,k⟩:=h;obtain⟨n,hn⟩:=bu hb;unfold jr;walk_at "WP";refine⟨n,hn,?_⟩;rcases uM hn with⟨e,xs,rfl⟩|⟨e,hx⟩
 case inr =>rw[O0 e];rw[fK (tF hx)] at k;exact .inl k
 rw[OY (by rw[e];decide)];obtain⟨lx,_⟩:=hz xs rfl;have hb':=hb;rw[PV.bel] at hb';refine⟨xs,rfl,by omega,?_⟩;refine FW.comp_map Γm (fun x=>.bl (pcP x).isSome) trivial (fun x hx=>?_) ?_
 ·walk_at "WP";exact⟨x,rfl,jw hb' hx,rfl,rfl⟩
 refine⟨_,ay au,_,cN (f:=fun x=>(pcP x).isSome),.app rfl ?_⟩;have ea:(xs.map fun x=>(pcP x).isSome).all id=(fR (.tup xs)).isSome:=by rw[TM];exact jP
 rw[ea];walk_at "WP";cases hr:fR (.tup xs) with
 | none =>rw[fK hr] at k;exact .inl k
 | some L =>
  obtain⟨ev,ok⟩:=iR hr;obtain rfl:xs=L.map pcV:=by cases ev;rfl
  obtain⟨sz,ll⟩:=hz.row ok;rw[sJ ok] at k;rw[OY (by simp)];refine⟨by simp;omega,?_⟩;refine FW.comp_map Γm (fun x=>.bl (alP x)) trivial (fun x hx=>?_) ?_
  ·obtain⟨p,hp,rfl⟩:=O9.mp hx;walk_at "WP";exact⟨p,rfl,sz p hp,fun c hc=>⟨PU PV.bl (jG hc (yF (ok p hp))),rfl⟩⟩
  refine⟨_,ay au,_,cN (f:=alP),.app rfl ?_⟩;have e1:((L.map pcV).map alP).all id=true↔∀p∈L,p.L<=p.H/\p.E<=p.H:=by
   rw[TM,QF];constructor
   ·intro h p hp;exact(yF (ok p hp)).mp (h _ (O9.mpr ⟨p,hp,rfl⟩))
   ·intro h v hv;obtain⟨p,hp,rfl⟩:=O9.mp hv;exact(yF (ok p hp)).mpr (h p hp)
  walk_at "WP";cases c1:((L.map pcV).map alP).all id with
  | false =>
   rw[O0 rfl];have:false=hV L:=lC ⟨fun z=>Bool.noConfusion z,fun z=>by
    rw[RV] at c1;exact absurd (e1.mpr fun p hp=>by obtain⟨i,hi⟩:=QL hp;exact(z.at_ hi).2) c1⟩
   rw[<-this] at k;exact .inl k
  | true =>
   rw[OY (by decide)];have a1:=e1.mp c1;have last:∀(hf:∀p,L[0]?=some p->0=p.E->p.L=p.H),(gO (L.map pcV) (jc (L.map pcV) (some 1) none)).length<100000 /\
     zO Γ (E.call 13 (Es.cons (E.var 0) (Es.cons (E.var 1) Es.nil))) (Tg.tup (Tgs.cons (Tg.name 0) (Tgs.cons (Tg.name 1) Tgs.nil))) Es.nil (fun st'=>gW st (PV.tup (L.map pcV)) st'/\gW st (PV.tup (jc (L.map pcV) (some 1) none)) st') [none,none] (gO (L.map pcV) (jc (L.map pcV) (some 1) none)) st
      fun vs st3=>∃xs,bH (st3++[Cell.lst vs]) (PV.ref (List.length st3))=some xs/\∃x,mz xs=some x/\Tmp st (fun v st1=>Ret st Q v st1) (PV.bl (x.all id)) (st3++[Cell.lst vs]):=by
    intro hf;rw[Nl,<-TV];refine⟨by rw[lG];simp;omega,?_⟩;refine yT Γm (fun j acc s=>s=st/\acc=((gO (L.map pcV) ((L.drop 1).map pcV)).take j).map fun x=>.bl (beP x)) ⟨rfl,by simp⟩ ?_ ?_
    ·rintro j x acc s hj ⟨rfl,rfl⟩;refine⟨⟨trivial,trivial⟩,?_⟩;obtain⟨a,p,h1,h2,rfl⟩:=jz hj;have m1:=OZ h1;have m2:=OZ h2;walk_at "WP";refine⟨a,p,rfl,sz a m1,sz p m2,fun c hc=>⟨rfl,?_⟩⟩;rw[SH,hj,Q8,jG hc (xk (ok a m1) (ok p m2))];rfl
    ·rintro acc s ⟨rfl,rfl⟩;rw[RG];refine⟨⟨trivial,trivial⟩,_,ay au,_,cN (f:=beP),.app rfl ?_⟩
     ·refine .inl ?_;have:(List.map beP (gO (L.map pcV) ((L.drop 1).map pcV))).all id=hV L:=lC ⟨fun z=>DM ok a1 hf ((pD ok).mp z),fun z=>(pD ok).mpr fun i q p e1 e2=>z.two e1 e2⟩;rw[this];exact k
   refine uG (n:=4) (by decide) pA rfl ?_;rw[wR];cases L with
   | nil =>rw[OY (by decide)];exact last fun p e=>by cases e
   | cons a r =>
    rw[O0 (show (List.map pcV (a::r)).isEmpty=false from rfl)];have am:a∈a::r:=PD;refine⟨pcV a,rB,a,rfl,ok a am,sz a am,fun c hc=>?_⟩;walk_at "WP";cases c with
    | false =>
     rw[O0 rfl];have:false=hV (a::r):=lC ⟨fun z=>Bool.noConfusion z,fun z=>by have:=hc.mpr (z.first rfl);cases this⟩
     rw[<-this] at k;exact .inl k
    | true =>rw[OY (by decide)];exact last fun p e=>by cases e;exact hc.mp rfl
theorem Fj (h:pcV a=pcV p):a=p:=by
 obtain⟨⟨a1,a2⟩,⟨a3,a4⟩,⟨a5,a6⟩⟩:=a;obtain⟨⟨p1,p2⟩,⟨p3,p4⟩,⟨p5,p6⟩⟩:=p;simp only[pcV,fr,PV.tup.injEq,List.cons.injEq,PV.int.injEq,and_true] at h;obtain⟨⟨h1,h2⟩,⟨h3,h4⟩,h5,h6⟩:=h;have h1:a1=p1:=by omega
 have h2:a2=p2:=by omega
 have h3:a3=p3:=by omega
 have h4:a4=p4:=by omega
 have h5:a5=p5:=by omega
 have h6:a6=p6:=by omega
 subst h1 h2 h3 h4 h5 h6;rfl
theorem Bj {M:List Pc}(h:gk L=gk M):L=M:=by
 have h:L.map pcV=M.map pcV:=PV.tup.inj h
 induction L generalizing M with
 | nil=>cases M with|nil=>rfl|cons _ _=>cases h
 | cons a r ih =>
  cases M with
  | nil=>cases h
  | cons b s =>simp only[List.map_cons,List.cons.injEq] at h;rw[Fj (a:=a) (p:=b) (PV.tup.injEq _ _ ▸ by simpa using h.1),ih (by rw[gk,gk,h.2]) h.2]
open Classical in
theorem mY (h:hV L=true):RtF L:=by unfold hV at h;exact P2 h
open Classical in
theorem Aq (h:RtF L):(gk (sY L)).same (gk L)=stB L:=by
 unfold stB;refine jG (P:=NG (0,1) L) ⟨fun z=>?_,fun z=>?_⟩ decide_eq_true_iff
 ·have:=Bj (PV.same_eq z);have n:=CQ h;rw[this] at n;exact n
 ·rw[Dz z];exact oh _
theorem xD {as st Q}(h:dB as st Q):aG Γ gH (frame 1 as) st (ag st Q):=by
 obtain⟨v,rfl,hb,hz,k⟩:=h;unfold gH;walk_at "WP";refine⟨v,rfl,hb,hz,_,rfl,?_⟩;unfold ir at k;unfold iO;cases hr:fR v with
 | none =>rw[hr] at k;exact .inl k
 | some L =>
  rw[hr] at k;obtain⟨rfl,ok⟩:=iR hr;obtain⟨sz,ll⟩:=hz.row ok;dsimp only at k |-
  by_cases hB:hV L=true
  ·rw[hB] at k;rw[O0 hB];have hR:RtF L:=mY hB;refine⟨L,rfl,sz,hR.lok,ll,?_⟩;refine uG (n:=4) (by decide) pA pA ?_;rw[Aq hR];exact .inl k
  ·rw[OY hB];rw[RV.mpr hB] at k;exact .inl k
theorem Dp {n d:Nat}(h:0<d):(decide (((n/Nat.gcd n d:Nat):Int)=n) && decide (((d/Nat.gcd n d:Nat):Int)=d))=decide (Nat.gcd n d=1):=by
 have hg:0<Nat.gcd n d:=R5 _ h;refine jG (P:=Nat.gcd n d=1) ⟨fun z=>?_,fun z=>?_⟩ decide_eq_true_iff
 ·rw[OU,decide_eq_true_eq,decide_eq_true_eq] at z;have z2:d/Nat.gcd n d=d:=by omega
  by_cases g1:Nat.gcd n d=1
  ·exact g1
  ·have:=Nat.div_lt_self h (show 1<Nat.gcd n d by omega);omega
 ·rw[z];simp
theorem mU {as st Q}(h:bo as st Q):aG Γ cU (frame 1 as) st (ag st Q):=by
 obtain⟨v,rfl,hb,hz,k⟩:=h;obtain⟨n,hn⟩:=bu hb;unfold cU;walk_at "WP";refine⟨n,hn,?_⟩;obtain⟨kt,kf⟩:=qy hn;cases e:bI "tuple" n with
 | false =>rw[kf e] at k;exact .inl k
 | true =>
  obtain⟨xs,rfl⟩:=kt e;walk_at "WP";by_cases hl:xs.length=2
  ·obtain⟨x,y,rfl⟩:=C_ hl;obtain⟨bx,by'⟩:=vU hb;rw[jg] at k;walk_at "WP";refine⟨x,rfl,bx,?_⟩;cases x with
   | int i =>
    simp only[gL];walk_at "WP";refine⟨y,rfl,by',?_⟩;cases y with
    | int j =>
     simp only[gL];walk_at "WP";by_cases h0:0<=i
     ·rw[O0 h0];by_cases h1:0<j
      ·rw[O0 h1];obtain⟨z1,z2⟩:=hz i j rfl;have e1:i.natAbs=i.toNat:=by omega
       have e2:j.natAbs=j.toNat:=by omega
       refine⟨i.toNat,j.toNat,?_,by omega,OW (by rw[<-e2];exact z2) (ux (by decide)),?_⟩
       ·rw[QI h0,QI (by omega)]
       ·refine wD ?_;have i1:i=(i.toNat:Int):=by omega
        have j1:j=(j.toNat:Int):=by omega
        have:=Dp (n:=i.toNat) (d:=j.toNat) (by omega);rw[<-i1,<-j1] at this;rw[this];have e3:decide (0<=i/\1<=j/\Nat.gcd i.natAbs j.natAbs=1)=decide (Nat.gcd i.toNat j.toNat=1):=by rw[e1,e2];simp[h0,show 1<=j by omega]
        simp only[e3] at k;exact .inl k
      ·rw[OY h1];have h1':¬(1<=j):=by omega
       simp only[h1',false_and,and_false,decide_false] at k;exact .inl k
     ·rw[OY h0];simp only[h0,false_and,decide_false] at k;exact .inl k
    | _=>simp only[gL];walk_at "WP";exact .inl k
   | _=>simp only[gL];walk_at "WP";exact .inl k
  ·rw[wU hl] at k;rw[O0 (by omega)];exact .inl k
def RjI (st:AH)(L:List Pc)(i:Nat)(ρ:Fr)(s:AH):Prop:=∃a b c d,s=st/\ρ=[some (gk L),some (fr (bg L i)),some (fr (hg L i)),a,b,c,d]/\(∀(j:Nat) p,j<i->L[j]?=some p->p.L<=p.H/\p.E<=p.H)/\(0<i->∀p,L[0]?=some p->0=p.E->p.L=p.H) /\
 ∀(j:Nat) q p,j+1<i->L[j]?=some q->L[j+1]?=some p->q.E<p.E/\q.H<=p.L
theorem o9 {as st Q}(h:bD as st Q):aG Γ df (frame 7 as) st (ag st Q):=by
 obtain⟨L,rfl,ok,hz,k⟩:=h;unfold df;walk_at "WP";have s01:Sz 600 (0,1):=⟨T6 (by decide),S6 (by decide),by decide⟩;refine en Γm (RjI st L) ⟨none,none,none,none,rfl,rfl,fun j p h=>absurd h (RP _),fun h=>absurd h (QV _),fun j q p h=>absurd h (RP _)⟩ ?_ ?_
 ·rintro i v ρ s hi ⟨a,b,c,d,rfl,rfl,I1,I2,I3⟩;refine⟨trivial,?_⟩;obtain⟨x,hx,rfl⟩:=mX hi;rw[PC] at hx;obtain⟨p,hp,rfl⟩:=P1.mp hx;have pm:=OZ hp;have pz:=hz p pm;have pok:=ok p pm;have il:=(OT.mp hp).1;have facts:Sz 600 (bg L i)/\Sz 600 (hg L i)/\(i=0->bg L i=(0,1)/\hg L i=(0,1))/\(∀j q,i=j+1->L[j]?=some q->bg L i=q.e/\hg L i=q.h/\q.E<=q.H):=by
   cases i with
   | zero=>exact⟨s01,s01,fun _=>⟨rfl,rfl⟩,fun j q e=>by omega⟩
   | succ i =>
    have hq:L[i]?=some L[i]:=O6 (by omega);have e1:bg L (i+1)=(L[i]).e:=by show ((L[i]?).map Pc.e).getD (0,1)=_;rw[hq];rfl
    have e2:hg L (i+1)=(L[i]).h:=by show ((L[i]?).map Pc.h).getD (0,1)=_;rw[hq];rfl
    have qz:=hz _ (OZ hq);refine⟨by rw[e1];exact qz.e,by rw[e2];exact qz.h,fun e=>by omega,fun j q e hj=>?_⟩;obtain rfl:i=j:=by omega
    rw[hq] at hj;cases hj;exact⟨e1,e2,(I1 i _ (by omega) hq).2⟩
  obtain⟨zb,zh,f0,f1⟩:=facts;have no:∀ {c:Bool},(RtF L->False)->Q (.bl (hV L)) s->c=false->Q (.bl c) s:=fun h q e=>by subst e;have:false=hV L:=lC ⟨fun z=>Bool.noConfusion z,fun z=>(h z).elim⟩;rw[this];exact q
  have lt:∀ {x y:Nat × Nat},Sz 600 x->Sz 600 y->(x.1*y.2<y.1*x.2↔val x<val y):=fun hx hy=>gT hx.pos hy.pos;have two:RtF L->∀j q,i=j+1->L[j]?=some q->q.E<p.E/\q.H<=p.L:=fun hR j q e hq=>by subst e;exact hR.two hq hp
  have hgL:RtF L->val (hg L i)<=p.L:=fun hR=>by
   cases i with
   | zero=>rw[(f0 rfl).2,bF];exact kI pok.l.pos
   | succ i =>have hq:L[i]?=some L[i]:=O6 (by omega);rw[(f1 i _ rfl hq).2.1];exact(two hR i _ rfl hq).2
  have bgL:RtF L->val (bg L i)<=p.L:=fun hR=>by
   cases i with
   | zero=>rw[(f0 rfl).1,bF];exact kI pok.l.pos
   | succ i =>have hq:L[i]?=some L[i]:=O6 (by omega);obtain⟨e1,e2,e3⟩:=f1 i _ rfl hq;rw[e1];have:=(two hR i _ rfl hq).2;grind
  walk_at "WP";refine⟨_,_,rfl,up6 pz.h,up6 pz.l,?_⟩;by_cases h1:p.h.1*p.l.2<p.l.1*p.h.2
  ·rw[PJ h1];walk_at "WP";refine .inl (no (fun hR=>?_) k rfl);exact absurd (hR.at_ hp).2.1 (S7.mpr ((lt pz.h pz.l).mp h1))
  rw[PF h1];walk_at "WP";refine⟨_,_,rfl,up6 pz.l,up6 zh,?_⟩;by_cases h2:p.l.1*(hg L i).2<(hg L i).1*p.l.2
  ·rw[PJ h2];walk_at "WP";exact .inl (no (fun hR=>absurd (hgL hR) (S7.mpr ((lt pz.l zh).mp h2))) k rfl)
  rw[PF h2];walk_at "WP";refine⟨_,_,rfl,up6 pz.l,up6 zb,?_⟩;by_cases h3:p.l.1*(bg L i).2<(bg L i).1*p.l.2
  ·rw[PJ h3];walk_at "WP";exact .inl (no (fun hR=>absurd (bgL hR) (S7.mpr ((lt pz.l zb).mp h3))) k rfl)
  rw[PF h3];walk_at "WP";refine⟨_,_,rfl,up6 pz.h,up6 pz.e,?_⟩;by_cases h4:p.h.1*p.e.2<p.e.1*p.h.2
  ·rw[PJ h4];walk_at "WP";exact .inl (no (fun hR=>absurd (hR.at_ hp).2.2 (S7.mpr ((lt pz.h pz.e).mp h4))) k rfl)
  rw[PF h4];walk_at "WP";refine⟨_,_,rfl,up6 zb,up6 pz.e,?_⟩;rw[lt pz.h pz.l,Q4] at h1;rw[lt pz.l zh,Q4] at h2;rw[lt pz.h pz.e,Q4] at h4;have nx:(val (bg L i)<p.E\/(i=0/\(0=p.E->p.L=p.H)))->RjI s L (i+1) [some (gk L),some (fr p.e),some (fr p.h),some (.int (0+(i:Int))),some (fr p.e),some (fr p.l),some (fr p.h)] s:=fun hh=>by
   have e1:bg L (i+1)=p.e:=by show ((L[i]?).map Pc.e).getD (0,1)=_;rw[hp];rfl
   have e2:hg L (i+1)=p.h:=by show ((L[i]?).map Pc.h).getD (0,1)=_;rw[hp];rfl
   refine⟨some (.int (0+(i:Int))),some (fr p.e),some (fr p.l),some (fr p.h),rfl,by rw[e1,e2],fun j q hj hq=>?_,fun _ q hq=>?_,fun j q r hj hq hr=>?_⟩
   ·by_cases hji:j<i
    ·exact I1 j q hji hq
    ·obtain rfl:j=i:=by omega
     rw[hp] at hq;cases hq;exact⟨h1,h4⟩
   ·by_cases hi0:0<i
    ·exact I2 hi0 q hq
    ·obtain rfl:i=0:=by omega
     rw[hp] at hq;cases hq;rcases hh with hh|hh
     ·rw[(f0 rfl).1,bF] at hh;intro z;rw[<-z] at hh;exact absurd hh (by grind)
     ·exact hh.2
   ·by_cases hji:j+1<i
    ·exact I3 j q r hji hq hr
    ·obtain rfl:i=j+1:=by omega
     rw[hp] at hr;cases hr;obtain⟨k1,k2,k3⟩:=f1 j q rfl hq;rw[k2] at h2;refine⟨?_,h2⟩;rcases hh with hh|hh
     ·rw[k1] at hh;exact hh
     ·omega
  by_cases h5:(bg L i).1*p.e.2<p.e.1*(bg L i).2
  ·rw[PJ h5];walk_at "WP";simpa using nx (.inl ((lt zb pz.e).mp h5))
  ·rw[PF h5];rw[lt zb pz.e,Q4] at h5;walk_at "WP";by_cases hi0:i=0
   ·subst hi0;rw[OY (by decide)];have e0:p.E=0:=by rw[(f0 rfl).1,bF] at h5;have:=kI (p:=p.e) pok.e.pos;have h5:p.E<=0:=h5;have:0<=p.E:=this;grind
    refine⟨_,_,rfl,up6 pz.e,up6 zb,?_⟩;rw[Jt pz.e zb (by rw[(f0 rfl).1,bF];exact kI pok.e.pos)];walk_at "WP";refine jk ?_;by_cases h6:p.l=p.h
    ·rw[PJ h6];walk_at "WP";simpa using nx (.inr ⟨rfl,fun _=>by unfold Pc.L Pc.H;rw[h6]⟩)
    ·rw[PF h6];walk_at "WP";exact .inl (no (fun hR=>h6 (jW pok.l pok.h (hR.first hp e0.symm))) k rfl)
   ·rw[O0 (by omega)];refine .inl (no (fun hR=>?_) k rfl);obtain⟨j,rfl⟩:∃j,i=j+1:=⟨i-1,by omega⟩;have hq:L[j]?=some L[j]:=O6 (by omega);obtain⟨k1,k2,k3⟩:=f1 j _ rfl hq;rw[k1] at h5;have:=(two hR j _ rfl hq).1;exact absurd h5 (S7.mpr this)
 ·rintro ρ s ⟨a,b,c,d,rfl,rfl,I1,I2,I3⟩;refine⟨trivial,?_⟩;walk_at "WP";have ll:(i7 0 (L.map pcV)).length=L.length:=by rw[nj,O1]
  rw[ll] at I1 I2 I3;have:true=hV L:=lC ⟨fun _=>DM ok (fun p hp=>?_) (fun p hp=>I2 (OT.mp hp).1 p hp) fun i q p h1 h2=>I3 i q p (OT.mp h2).1 h1 h2,fun _=>rfl⟩
  ·rw[this];exact .inl k
  ·obtain⟨i,hi⟩:=QL hp;exact I1 i p (OT.mp hi).1 hi
theorem sP {xs:List PV}{i:Nat}(h:xs[i]?=some x)(hx:pcP x=none):fR (.tup xs)=none:=by
 have:=jP (xs:=xs);show bQ (xs.map pcP)=none;cases e:bQ (xs.map pcP) with
 | none=>rfl
 | some L =>rw[e] at this;have a:=QF.mp this x (OZ h);rw[hx] at a;cases a
theorem r9 {as st Q}(h:bR as st Q):aG Γ dZ (frame 2 as) st (ag st Q):=by
 obtain⟨v,rfl,hb,hz,k⟩:=h;obtain⟨n,hn⟩:=bu hb;unfold dZ;walk_at "WP";refine⟨n,hn,?_⟩;rcases uM hn with⟨e,xs,rfl⟩|⟨e,hx⟩
 case inr =>rw[O0 e];rw[fK (tF hx)] at k;exact .inl k
 rw[OY (by rw[e];decide)];obtain⟨lx,zx⟩:=hz xs rfl;have hb':=hb;rw[PV.bel] at hb';refine⟨xs,rfl,?_⟩;refine en Γm (fun i ρ s=>s=st/\(∃a,ρ=[some (.tup xs),a])/\∀j x,j<i->xs[j]?=some x->(pcP x).isSome=true) ⟨rfl,⟨_,rfl⟩,fun j x h=>absurd h (RP _)⟩ ?_ ?_
 ·rintro i x ρ s hi ⟨rfl,⟨a,rfl⟩,I⟩;refine⟨trivial,?_⟩;have bx:=jw hb' (OZ hi);obtain⟨m,hm⟩:=bu bx;have no:pcP x=none->Ret s Q (.bl false) s:=fun h=>by rw[fK (sP hi h)] at k;exact .inl k
  walk_at "WP";refine⟨m,hm,?_⟩;rcases uM hm with⟨e,ys,rfl⟩|⟨e,hx⟩
  case inr =>rw[O0 e];exact no (yV hx)
  rw[OY (by rw[e];decide)];walk_at "WP";by_cases hl:ys.length=3
  ·obtain⟨a,b,c,rfl⟩:=qj hl;rw[OY (show ¬ ¬((([a,b,c]:List PV).length:Nat):Int)=3 from fun z=>z rfl)];refine⟨by simp,?_⟩;rw[PV.bel] at bx;refine FW.comp_map Γm (fun x=>.bl (bt x)) trivial (fun y hy=>?_) ?_
   ·walk_at "WP";exact⟨y,rfl,jw bx hy,zx _ (OZ hi) _ rfl y hy,rfl,rfl⟩
   ·refine⟨_,ay au,_,cN (f:=bt),.app rfl ?_⟩;have:([a,b,c].map bt).all id=(pcP (.tup [a,b,c])).isSome:=by rw[nD];simp
    rw[this];walk_at "WP";cases hc:pcP (.tup [a,b,c]) with
    | none=>exact no hc
    | some p =>
     rw[OY (by simp)];refine fun j y hj hy=>?_;by_cases hji:j<i
     ·exact I j y hji hy
     ·obtain rfl:j=i:=by omega
      rw[hi] at hy;cases hy;rw[hc];rfl
  ·rw[O0 (by omega)];exact no (tN hl)
 ·rintro ρ s ⟨rfl,⟨a,rfl⟩,I⟩;refine⟨trivial,?_⟩;walk_at "WP";have all:(xs.all fun x=>(pcP x).isSome)=true:=QF.mpr fun x hx=>by obtain⟨i,hi⟩:=QL hx;exact I i x (OT.mp hi).1 hi
  rw[jP] at all;obtain⟨L,hL⟩:=Option.isSome_iff_exists.mp all;have hr:fR (.tup xs)=some L:=hL;obtain⟨ev,ok⟩:=iR hr;obtain rfl:xs=L.map pcV:=by cases ev;rfl
  obtain⟨sz,ll⟩:=hz.row ok;rw[sJ ok] at k;exact⟨L,rfl,ok,sz,.inl k⟩
theorem Gb:∀ {L:List Pc}{b:Nat × Nat},(∀(i:Nat) a p,L[i]?=some a->L[i+1]?=some p->gB (if i=0 then b else bg L i) a p=false)->NG b L
 | [],_,_=>trivial
 | [_],_,_=>trivial
 | a::p::r,b,h=>by
  refine⟨h 0 a p rfl rfl,Gb fun i q s h1 h2=>?_⟩;have:=h (i+1) q s (by simpa using h1) (by simpa using h2);rw[OY (by omega)] at this;cases i with
  | zero=>simpa[bg] using this
  | succ i=>rw[OY (by omega)];simpa[bg] using this
open Classical in
theorem Dd {c:Bool}(h:c=true↔NG (0,1) L):c=stB L:=by unfold stB;exact jG h decide_eq_true_iff
theorem pO {as st Q}(h:bJ as st Q):aG Γ dF (frame 6 as) st (ag st Q):=by
 obtain⟨L,rfl,hR,hz,hl,k⟩:=h;unfold dF;walk_at "WP";rw[O1];refine⟨by omega,?_⟩;refine FW.comp_map Γm (fun x=>match x with | .tup [a,_,_]=>a|v=>v) trivial (fun x hx=>?_) ?_
 ·obtain⟨p,_,rfl⟩:=O9.mp hx;walk_at "WP"
 have em:(L.map pcV).map (fun x=>match x with | .tup [a,_,_]=>a|v=>v)=L.map (fun p=>fr p.e):=by rw[RA];rfl
 rw[em];have gl:∀g:AH,(st++g)[st.length]?=g[0]?:=fun g=>vm;refine⟨_,by rw[PY,gl];rfl,by simp;omega,by omega,by omega,?_⟩;walk_at "WP";generalize hs0:st++[Cell.lst [PV.tup [PV.int 0,PV.int 1]],Cell.lst (L.map fun p=>fr p.e),Cell.lst (PV.tup [PV.int 0,PV.int 1]::L.map fun p=>fr p.e)]=s0;have hb:s0[st.length+2]?=some (.lst (PV.tup [PV.int 0,PV.int 1]::L.map fun p=>fr p.e)):=by rw[<-hs0];exact eH (k:=2)
 have hbi:∀i,i<=L.length->atI (PV.tup [PV.int 0,PV.int 1]::L.map fun p=>fr p.e) (i:Int)=some (fr (bg L i)):=fun i hi=>by
  refine cB ?_;cases i with
  | zero=>rfl
  | succ i =>have ha:L[i]?=some L[i]:=O6 (by omega);rw[SB,PC,ha,bgS ha];rfl
 have hpi:∀(i:Nat) (p:Pc),L[i]?=some p->atI (L.map pcV) (i:Int)=some (pcV p):=fun i p hp=>cB (by rw[PC,hp];rfl);have no:∀g:AH,(NG (0,1) L->False)->Ret st Q (.bl false) (s0++g):=fun g h=>by have:false=stB L:=Dd ⟨fun z=>Bool.noConfusion z,fun z=>(h z).elim⟩;rw[<-this] at k;refine .inr ?_;rw[<-hs0,PY];exact .app rfl k
 refine en Γm (fun i ρ s=>IlI s0 (st.length+2) L ρ s/\∀(j:Nat) a p,j<i->L[j]?=some a->L[j+1]?=some p->gB (bg L j) a p=false) ⟨⟨[],none,none,none,none,by simp,rfl⟩,fun j a p h=>absurd h (RP _)⟩ ?_ ?_
 ·rintro i v ρ s hi ⟨⟨g,a,b,c,d,rfl,rfl⟩,Ij⟩;obtain⟨rfl,hi⟩:=vO hi;refine⟨trivial,?_⟩;have il:i+1<L.length:=by omega
  obtain⟨q,hq⟩:∃q,L[i]?=some q:=⟨_,O6 (by omega)⟩;obtain⟨p,hp⟩:∃p,L[i+1]?=some p:=⟨_,O6 il⟩;have pz:=hz p (OZ hp);have qz:=hz q (OZ hq);obtain⟨pok,p1,p2⟩:=hR.at_ hp;obtain⟨qok,q1,q2⟩:=hR.at_ hq;obtain⟨t1,t2⟩:=hR.two hq hp;obtain⟨n1,n2,n3,n4⟩:=nb hR hq;have bz:Sz 600 (bg L i):=bgZ hz (by omega) (by decide);have yes:gB (bg L i) q p=true->NG (0,1) L->False:=fun h hN=>by have ng:=hN.at_ hq hp;rw[bg0,h] at ng;cases ng
  have nx:gB (bg L i) q p=false->∀(j:Nat) a p,j<i+1->L[j]?=some a->L[j+1]?=some p->gB (bg L j) a p=false:=fun h j a r hj h1 h2=>by
   by_cases hji:j<i
   ·exact Ij j a r hji h1 h2
   ·obtain rfl:j=i:=by omega
    rw[hq] at h1;rw[hp] at h2;cases h1;cases h2;exact h
  have e1:1+(i:Int)=((i+1:Nat):Int):=by omega
  have e2:((i+1:Nat):Int)-1=((i:Nat):Int):=by omega
  walk_at "WP";rw[e1];refine⟨_,hpi _ _ hp,?_⟩;walk_at "WP";rw[e2];refine⟨_,hpi _ _ hq,?_⟩;walk_at "WP";refine jk ?_;by_cases hpq:p.l=q.h
  ·rw[PJ hpq];walk_at "WP";refine⟨_,hpi _ _ hq,?_⟩;walk_at "WP";refine⟨_,ai (fj hb),_,hbi i (by omega),?_⟩;refine jk ?_;obtain⟨s,hs⟩:=Sl.ex t1;by_cases ne:q.e=bg L i
   ·rw[PJ ne];walk_at "WP";refine no _ (yes ((nL n1 qok pok n2 t1 q1 p1 hs).mpr ⟨hpq,?_⟩));unfold Sl;have e:val (bg L i)=q.E:=by rw[<-ne]
    have:=n3 e;rw[e];grind
   have lt:val (bg L i)<q.E:=by have:val (bg L i)≠q.E:=fun z=>ne (jW qok.e n1 z.symm);grind
   rw[PF ne];walk_at "WP";have R0:∀j,j<2->∃w,L[i+j]?=some w/\w.Ok/\w.Sz 600/\w.L<=w.H/\val (bg L (i+j))<w.E/\[gJ (bG q.h q.l) (bG q.e (bg L i)),gJ (bG p.h p.l) (bG p.e (bg L (i+1)))][j]?=some (gJ (bG w.h w.l) (bG w.e (bg L (i+j)))):=fun j hj=>by
    have:j=0\/j=1:=by omega
    rcases this with rfl|rfl
    ·exact⟨q,hq,qok,qz,q1,lt,rfl⟩
    ·refine⟨p,hp,pok,pz,p1,?_,rfl⟩;rw[bgS hq];exact t1
   refine en Γm (IrI (s0++g) (st.length+2) (s0.length+g.length) L (i+1) [gJ (bG q.h q.l) (bG q.e (bg L i)),gJ (bG p.h p.l) (bG p.e (bg L (i+1)))]) ⟨[],c,d,by simp,by simp,rfl⟩ ?_ ?_
   ·rintro j v ρ s hj ⟨g',a,b,rfl,hnr,rfl⟩;have j2:j<2:=by have:=(OT.mp hj).1;simpa using this
    refine⟨trivial,?_⟩;obtain⟨w,hw,wok,wz,w1,w2,hr⟩:=R0 j j2;have ev:v=.int ((i+j:Nat):Int):=by
     have:j=0\/j=1:=by omega
     rcases this with rfl|rfl <;> (cases hj;rfl)
    subst ev;have bzw:Sz 600 (bg L (i+j)):=bgZ hz (by omega) (by decide);have up:∀ {z:Nat × Nat},Sz 600 z->Sz 3000 z:=fun z=>z.mono (by decide);walk_at "WP";refine⟨_,hpi _ _ hw,?_⟩;walk_at "WP";refine⟨_,hpi _ _ hw,?_⟩;walk_at "WP";refine⟨_,_,rfl,up wz.h,up wz.l,nv (up wz.h) (up wz.l) w1,?_⟩;have gr':((s0++g)++Cell.lst (List.map fr (List.take j [gJ (bG q.h q.l) (bG q.e (bg L i)),gJ (bG p.h p.l) (bG p.e (bg L (i+1)))]))::g')[s0.length+g.length]?=some (.lst (List.map fr (List.take j [gJ (bG q.h q.l) (bG q.e (bg L i)),gJ (bG p.h p.l) (bG p.e (bg L (i+1)))]))):=by rw[hnr];exact gw
    have hb':∀x:AH,(s0++(g++x))[st.length+2]?=some (.lst (PV.tup [PV.int 0,PV.int 1]::L.map fun p=>fr p.e)):=fun x=>fj hb;rw[PY] at gr';refine⟨⟨_,ay gr'⟩,_,hpi _ _ hw,?_⟩;walk_at "WP";refine⟨_,ai (hb' _),_,hbi _ (by omega),_,_,rfl,up wz.e,up bzw,nv (up wz.e) (up bzw) (QW w2),?_⟩;refine⟨_,_,rfl,(jI wz.h wz.l).mono (by decide),(jI wz.e bzw).mono (by decide),FT wz.e bzw w2,?_⟩;refine⟨_,gr',by simp;omega,g',_,_,?_,hnr,rfl⟩;rw[<-PY,hnr,pq,SH,hr];simp
   ·rintro ρ s ⟨g',a,b,rfl,hnr,rfl⟩;refine⟨trivial,?_⟩;have gr':((s0++g)++Cell.lst (List.map fr [gJ (bG q.h q.l) (bG q.e (bg L i)),gJ (bG p.h p.l) (bG p.e (bg L (i+1)))])::g')[s0.length+g.length]?=some (.lst [fr (gJ (bG q.h q.l) (bG q.e (bg L i))),fr (gJ (bG p.h p.l) (bG p.e (bg L (i+1))))]):=by rw[hnr];exact gw
    rw[PY] at gr';walk_at "WP";refine⟨_,ai gr',_,rB,_,ai gr',_,qD,?_⟩;refine jk ?_;have ner:gJ (bG q.h q.l) (bG q.e (bg L i))=gJ (bG p.h p.l) (bG p.e (bg L (i+1)))↔gB (bg L i) q p=true:=by
     rw[bgS hq,nL n1 qok pok n2 t1 q1 p1 hs];have c1:=dE (p:=q.h) (q:=q.l) qok.h.pos qok.l.pos;have c2:=dE (p:=q.e) (q:=bg L i) qok.e.pos n1.pos;have c3:=dE (p:=p.h) (q:=p.l) pok.h.pos pok.l.pos;have c4:=dE (p:=p.e) (q:=q.e) pok.e.pos qok.e.pos;have v1:=fo qok.h.pos qok.l.pos q1;have v2:=fo qok.e.pos n1.pos (QW lt);have v3:=fo pok.h.pos pok.l.pos p1;have v4:=fo pok.e.pos qok.e.pos (QW t1);have d1:0<val (bG q.e (bg L i)):=by rw[v2];grind
     have d2:0<val (bG p.e q.e):=by rw[v4];grind
     have w1:p.E-q.E≠0:=by grind
     have w2:q.E-val (bg L i)≠0:=by grind
     have u1:=zl c1.pos c2.pos d1;have u2:=zl c3.pos c4.pos d2;rw[v1,v2] at u1;rw[v3,v4] at u2;constructor
     ·intro z;refine⟨hpq,?_⟩;have z:=PU val z;rw[u1,u2] at z;unfold Sl at hs |-
      grind
     ·rintro⟨_,z⟩;refine jW (vE c1.pos ((pB c2.pos).mpr d1)) (vE c3.pos ((pB c4.pos).mpr d2)) ?_;rw[u1,u2];unfold Sl at hs z;grind
    by_cases ge:gB (bg L i) q p=true
    ·rw[PJ (ner.mpr ge)];walk_at "WP";have:=no (g++Cell.lst (List.map fr [gJ (bG q.h q.l) (bG q.e (bg L i)),gJ (bG p.h p.l) (bG p.e (bg L (i+1)))])::g') (yes ge);simpa using this
    ·rw[PF fun z=>ge (ner.mp z)];walk_at "WP";exact⟨⟨_,_,_,_,_,rfl,rfl⟩,nx (RV.mpr ge)⟩
  ·rw[PF hpq];walk_at "WP";refine⟨⟨g,_,_,_,_,rfl,rfl⟩,nx ?_⟩;unfold gB;rw[PF hpq,SE]
 ·rintro ρ s ⟨⟨g,a,b,c,d,rfl,rfl⟩,Ij⟩;refine⟨trivial,?_⟩;walk_at "WP";have lr:(bY 1 ((L.length:Int)-1).toNat).length=L.length-1:=by simp[bY]
  have:true=stB L:=Dd ⟨fun _=>Gb fun i a p h1 h2=>by rw[bg0];refine Ij i a p ?_ h1 h2;have:=(OT.mp h2).1;rw[lr];omega,fun _=>rfl⟩
  rw[<-this] at k;refine .inr ?_;rw[<-hs0,PY];exact .app rfl k
theorem Bw (c:Nat):(!(Builtin.Str.occurrences "0123456789" ⟨#[c]⟩ 0 (Str.length "0123456789") 1).isEmpty)=decide (48<=c/\c<=57):=by
 have f:=SA (Str.ofString "0123456789") c;refine f.trans ?_;have e:c∈(Str.ofString "0123456789").cps.toList↔48<=c/\c<=57:=by show c∈[48,49,50,51,52,53,54,55,56,57]↔_;simp only[List.mem_cons,List.not_mem_nil,or_false];omega
 exact decide_eq_decide.mpr e
noncomputable def inF:PV->Bool
 | .str x=>!(Builtin.Str.occurrences "0123456789" x 0 (Str.length "0123456789") 1).isEmpty
 | _=>false
theorem y_ (z:Str):((dU z).map inF).all id=z.cps.toList.all (fun c=>decide (48<=c/\c<=57)):=by unfold dU;rw[RA,TM];congr 1;funext c;exact Bw c
theorem figs_ne {z:Str}:z=Str.ofString ""↔z.cps.toList=[]:=⟨fun h=>by rw[h];rfl,fun h=>l_ h⟩
theorem Ba {c:Nat}:(({ cps:=#[c] }:Str)=Str.ofString "0")↔c=48:=⟨fun h=>by have:=PU (fun z:Str=>z.cps.toList) h;exact List.head_eq_of_cons_eq this,fun h=>by rw[h];rfl⟩
theorem wx {n:String}(h:bT st x=some n):(bI "str" n=true->∃z,x=.str z)/\(bI "str" n=false->rdF x=none):=by
 cases x with
 | str z=>cases h;exact⟨fun _=>⟨z,rfl⟩,fun z=>absurd z (by decide)⟩
 | ref k =>unfold bT at h;simp only at h;split at h <;> cases h <;> exact⟨fun z=>absurd z (by decide),fun _=>rfl⟩
 | fn a=>cases h
 | _=>cases h;exact⟨fun z=>absurd z (by decide),fun _=>rfl⟩
theorem nB {as st Q}(h:bc as st Q):aG Γ cT (frame 1 as) st (ag st Q):=by
 obtain⟨z,rfl,hl,k⟩:=h;unfold cT;walk_at "WP";by_cases h0:z=Str.ofString ""
 ·rw[O0 h0];have e:bN z=false:=by subst h0;rfl
  rw[e] at k;exact .inl k
 rw[OY h0];refine⟨by simp only[dU,List.length_map];rw[<-aq];omega,?_⟩;refine FW.comp_map Γm (fun v=>.bl (inF v)) trivial (fun v hv=>?_) ?_
 ·obtain⟨c,hc,rfl⟩:=O9.mp hv;walk_at "WP";rfl
 refine⟨_,ay au,_,cN (f:=inF),.app rfl ?_⟩;rw[y_];obtain⟨c,r,hz⟩:∃c r,z.cps.toList=c::r:=by
  cases e:z.cps.toList with
  | nil=>exact absurd (figs_ne.mpr e) h0
  | cons c r=>exact⟨c,r,rfl⟩
 cases ha:z.cps.toList.all (fun c=>decide (48<=c/\c<=57)) with
 | false =>
  walk_at "WP";have e:bN z=false:=by unfold bN;rw[ha];simp
  rw[e] at k;exact .inl k
 | true =>
  walk_at "WP";by_cases h1:z=Str.ofString "0"
  ·rw[O0 h1];have e:bN z=true:=by subst h1;decide
   rw[e] at k;exact .inl k
  ·rw[OY h1];refine⟨by omega,c,by rw[hz];exact cB (xs:=c::r) (j:=0) rfl,?_⟩;have e:bN z=!decide (({ cps:=#[c] }:Str)=Str.ofString "0"):=by unfold bN;rw[ha,hz,PF h1];simp[Ba]
   rw[<-e];exact .inl k
theorem B3 (h:bN z=true)(hl:z.length<=5000)(k:Nat):PySem.NumText.digitsVal (z.cps.toList.take k)<2 ^ 20000:=by have:=tU (l:=z.cps.toList.take k) fun c hc=>(ju h).1 c (RW hc);rw[aq] at hl;exact EV this (by rw[P8];omega)
theorem rS {as st Q}(h:aR as st Q):cw Γ ΓR ei (frame 4 as) st (lh st Q) (pR st Q):=by
 obtain⟨z,rfl,hl,k⟩:=h;unfold ei;walk_at "WP";refine⟨z,rfl,hl,?_⟩;cases hz:bN z with
 | false =>rw[hz] at k;walk_at "WP";exact .inl k
 | true =>
  rw[hz,O0 rfl] at k;walk_at "WP";have e64:((z.length:Int) % 64)=((z.length % 64:Nat):Int):=by omega
  rw[e64];have hh:z.length % 64<=z.length:=Nat.mod_le ..;obtain⟨nd,ne⟩:=ju hz;have hc:=C8 hh;have hcl:(je z none (some ((z.length % 64:Nat):Int))).length=z.length % 64:=by rw[aq,hc,P8,<-aq];omega
  have h0:(Str.ofString "0").length=1:=rfl;have ef:(Str.ofString "0"++je z none (some ((z.length % 64:Nat):Int))).cps.toList=48::z.cps.toList.take (z.length % 64):=by rw [aY,hc];rfl
  have h1:(Str.ofString "0"++je z none (some ((z.length % 64:Nat):Int))).length=1+z.length % 64:=by rw [aq,ef,QK,P8,<-aq];omega
  have hr:=SS (x:=Str.ofString "0"++je z none (some ((z.length % 64:Nat):Int))) (by
   intro c hc;rw[ef] at hc;rcases PQ.mp hc with rfl|hc
   ·decide
   ·exact nd c (RW hc)) (by rw[ef];exact fun z=>nomatch z) (by omega)
  rw[ef,Bs] at hr;refine⟨by omega,by omega,by omega,by omega,_,hr,by omega,by omega,by omega,by omega,by omega,?_⟩;have hn:rSz ((z.length % 64:Nat):Int) z.length 64=z.length/64:=by unfold rSz;split <;> omega
  rw[hn];refine en Γm (fun i ρ s=>s=st/\∃c,ρ=[some (.str z),some (.int ((z.length % 64:Nat):Int)),some (.int (PySem.NumText.digitsVal (z.cps.toList.take (z.length % 64+i*64)):Nat)),c]) ⟨rfl,none,by rw[T2,Nat.add_zero]⟩ (fun i v ρ s hi hI=>?_) ?_
  ·obtain⟨rfl,c,rfl⟩:=hI;have hin:i<z.length/64:=by have:=(OT.mp hi).1;simpa[iX] using this
   have hv:v=.int ((z.length % 64+i*64:Nat):Int):=by unfold iX at hi;rw[PC,RD hin] at hi;rw[<-P4 hi];simp
   subst hv;refine⟨trivial,?_⟩;have hb:z.length % 64+i*64+64<=z.length:=by omega
   have hm:=FA (z:=z) (a:=z.length % 64+i*64) (b:=z.length % 64+i*64+64) (by omega) hb;rw[show z.length % 64+i*64+64-(z.length % 64+i*64)=64 by omega] at hm;have eb:((z.length % 64+i*64:Nat):Int)+64=((z.length % 64+i*64+64:Nat):Int):=by omega
   walk_at "WP";rw[eb];have hml:(je z (some ((z.length % 64+i*64:Nat):Int)) (some ((z.length % 64+i*64+64:Nat):Int))).length=64:=by rw[aq,hm,P8,RE,<-aq];omega
   have hr2:=SS (x:=je z (some ((z.length % 64+i*64:Nat):Int)) (some ((z.length % 64+i*64+64:Nat):Int))) (by intro c hc;rw[hm] at hc;exact nd c (List.mem_of_mem_drop (RW hc))) (fun e=>by rw[aq,e] at hml;cases hml) (by omega)
   refine⟨.inl ⟨B3 hz hl _,by decide +kernel⟩,by omega,by omega,_,hr2,⟨s,[],(Q7 _).symm,rfl,fun _ _=>.inl rfl,rfl,?_⟩⟩;walk_at "WP";have ev:PySem.NumText.digitsVal (z.cps.toList.take (z.length % 64+(i+1)*64))=PySem.NumText.digitsVal (z.cps.toList.take (z.length % 64+i*64))*10 ^ 64+PySem.NumText.digitsVal (je z (some ((z.length % 64+i*64:Nat):Int)) (some ((z.length % 64+i*64+64:Nat):Int))).cps.toList:=by rw[hm,show z.length % 64+(i+1)*64=(z.length % 64+i*64)+64 by omega,List.take_add,zN,show ((z.cps.toList.drop (z.length % 64+i*64)).take 64).length=64 by rw[<-hm,<-aq];exact hml,<-hm]
   rw[ev];rw[SW,PZ];rfl
  ·rintro ρ s ⟨rfl,c,rfl⟩;refine⟨trivial,?_⟩;walk_at "WP";have e:z.length % 64+(iX ((z.length % 64:Nat):Int) 64 (z.length/64)).length*64=z.length:=by simp only[iX,List.length_map,List.length_range];omega
   rw[e,aq,RG];exact .inl k
theorem Ho (z:Str):rdF (.str z)=if bN (jb z)=true then (if oS z=true then (if bN (ie z)=true/\2<=aN (ie z)/\Nat.gcd (aN (jb z)) (aN (ie z))=1 then some (aN (jb z),aN (ie z)) else none) else some (aN (jb z),1)) else none:=rfl
theorem oY {as st Q}(h:aJ as st Q):cw Γ ΓR dt (frame 6 as) st (lh st Q) (pR st Q):=by
 obtain⟨x,rfl,⟨hb,hl⟩,k⟩:=h;unfold dt;walk_at "WP";obtain⟨n,hn⟩:=bu hb;obtain⟨k1,k2⟩:=wx hn;refine⟨n,hn,?_⟩;cases hk:bI "str" n with
 | false =>rw[O0 rfl];rw[k2 hk] at k;exact .inl k
 | true =>
  rw[OY (by decide)];obtain⟨z,rfl⟩:=k1 hk;have hl:=hl z rfl;refine⟨z,rfl,by omega,?_⟩;rw[zm];have hA:=DP z;have hB:=B_ z;rw[Ho] at k;cases hs:oS z with
  | false =>
   rw[OY (by decide)];rw[hs,yH hs] at k;refine⟨rfl,_,_,rfl,_,_,rfl,_,_,rfl,rfl,z,rfl,hl,?_⟩;cases hz:bN z with
   | true =>rw[hz] at k;rw[O0 rfl];simp only[tV];walk_at "WP";exact .inl k
   | false =>rw[hz] at k;exact .inl k
  | true =>
   rw[O0 rfl];rw[hs] at k;refine⟨rfl,_,_,rfl,_,_,rfl,_,_,rfl,rfl,_,rfl,by omega,?_⟩;cases hz:bN (jb z) with
   | false =>rw[hz] at k;exact .inl k
   | true =>
    rw[hz,O0 rfl,O0 rfl] at k;rw[O0 rfl];simp only[tV];walk_at "WP";rw[OY (by decide)];refine⟨_,rfl,by omega,?_⟩;cases hy:bN (ie z) with
    | false =>rw[hy,OY (fun z=>absurd z.1 (by decide))] at k;exact .inl k
    | true =>
     rw[hy] at k;rw[O0 rfl];simp only[tV];walk_at "WP";by_cases h2:aN (ie z)<2
     ·rw[OY (fun z=>by omega)] at k;rw[O0 (by omega)];exact .inl k
     ·rw[OY (by omega)];refine⟨_,_,rfl,?_⟩;walk_at "WP";by_cases hg:Nat.gcd (aN (jb z)) (aN (ie z))=1
      ·rw[O0 ⟨rfl,by omega,hg⟩] at k;rw[hg];walk_at "WP";exact .inl k
      ·rw[OY (fun z=>hg z.2.2)] at k;rw[O0 (by omega)];exact .inl k
open PySem L2 HX FW
noncomputable def jn (s:List Nat):List (List Nat)->List Nat
 | []=>[]
 | [x]=>x
 | x::y::r=>x++(s++jn s (y::r))
noncomputable abbrev tl (z:Str):List Nat:=z.cps.toList
theorem u6 (y:Str):∀ps:List Str,tl (Str.join y ps)=jn (tl y) (ps.map tl)
 | []=>rfl
 | [x]=>rfl
 | x::z::r=>by show tl (x++y++Str.join y (z::r))=tl x++(tl y++jn (tl y) ((z::r).map tl));rw[<-u6 y (z::r)];show (x++y++_).cps.toList=_;rw[aY,aY,PY]
theorem fZ (z y:Str):tl z=jn (tl y) ((Txt.split z y).map tl):=by rw[<-u6,R6]
theorem Gu:∀ {ps:List (List Nat)},p∈ps->p <:+: jn s ps
 | [x],h=>by rw[PM.mp h];exact RQ _
 | x::y::r,h=>by
  rcases PQ.mp h with rfl|h
  ·exact⟨[],s++jn s (y::r),rfl⟩
  ·exact(Gu (s:=s) h).trans ⟨x++s,[],by simp[jn]⟩
theorem xW {c:Nat}:∀ {ps:List (List Nat)},c∈jn s ps->c∈s\/∃p∈ps,c∈p
 | [x],h=>.inr ⟨x,PM.mpr rfl,h⟩
 | x::y::r,h=>by
  rcases P7.mp h with h|h
  ·exact .inr ⟨x,PD,h⟩
  ·rcases P7.mp h with h|h
   ·exact .inl h
   ·rcases xW h with h|⟨p,hp,h⟩
    ·exact .inl h
    ·exact .inr ⟨p,OV _ hp,h⟩
theorem yr {s:List Nat}:∀ {ps:List (List Nat)},ps≠[]->(jn s ps).length+s.length=(ps.map List.length).sum+ps.length*s.length
 | [],h=>absurd rfl h
 | [x],_=>by simp[jn]
 | x::y::r,_=>by have:=yr (s:=s) (ps:=y::r) (fun e=>nomatch e);rw[jn,PL,PL,O8,List.sum_cons,QK,Nat.succ_mul];omega
theorem mi (z y:Str):Txt.split z y≠[]:=by
 unfold Txt.split;split
 ·exact fun e=>nomatch e
 ·split
  ·exact fun e=>nomatch e
  ·rw[PySem.StrLaws.partsBetween_eq];obtain⟨p,r,e⟩:=PySem.StrLaws.partsFrom_ne z y.length 0 (Builtin.Str.occurrences z y 0 z.length (z.length+1));rw[e];exact fun e=>nomatch e
theorem hJ {p:Str}(h:p∈Txt.split z y):tl p <:+: tl z:=by rw[fZ z y];exact Gu (O9.mpr ⟨p,h,rfl⟩)
theorem ik {p:Str}(h:p∈Txt.split z y):p.length<=z.length:=by rw[aq,aq];exact(hJ h).length_le
theorem nZ (z y:Str):z.length+y.length=((Txt.split z y).map Str.length).sum+(Txt.split z y).length*y.length:=by have:=yr (s:=tl y) (ps:=(Txt.split z y).map tl) (fun e=>mi z y (List.map_eq_nil_iff.mp e));rw[<-fZ,<-aq,<-aq,RA,O1] at this;rw[this];rw[show (Txt.split z y).map Str.length=(Txt.split z y).map (List.length ∘ tl) from List.map_congr_left fun p _=>aq p]
theorem du {z y:Str}(h:1<=y.length):(Txt.split z y).length*y.length<=z.length+y.length:=by have:=nZ z y;omega
theorem Asked.sub (h:Asked z)(hp:tl p <:+: tl z):Asked p:=fun l hl=>h l (hl.trans hp)
theorem yS:∀(n:Nat) {l:List Nat},l.length=n->(∀c∈l,48<=c/\c<=57)->l≠[]->(l=[48]\/l.head?≠some 48)->dg (PySem.NumText.digitsVal l)=l
 | 0,l,hn,_,h,_=>absurd (QX.mp hn) h
 | n+1,l,hn,hf,hne,hh=>by
  have e:=(List.dropLast_concat_getLast hne).symm;generalize l.dropLast=a at e;generalize l.getLast hne=c at e;subst e;have hc:=hf c (by simp);rw[CJ];cases a with
  | nil=>rw[show PySem.NumText.digitsVal []=0 from rfl,eO (by omega)];simp;omega
  | cons x r =>
   have hx:x≠48:=by
    rcases hh with h|h
    ·simp at h
    ·intro e;subst e;simp at h
   have ih:=yS n (l:=x::r) (by simpa using hn) (fun c h=>hf c (QJ _ h)) (fun e=>nomatch e) (.inr (by simpa using hx));have h0:PySem.NumText.digitsVal (x::r)≠0:=fun e=>by rw[e] at ih;have:dg 0=[48]:=eO (by decide);rw[this] at ih;exact hx (List.cons.inj ih).1.symm
   rw[pF (by omega),show (PySem.NumText.digitsVal (x::r)*10+(c-48))/10=PySem.NumText.digitsVal (x::r) by omega,ih,show (PySem.NumText.digitsVal (x::r)*10+(c-48)) % 10=c-48 by omega,show 48+(c-48)=c by omega]
theorem uq {z:Str}(hf:∀c∈tl z,48<=c/\c<=57)(hne:tl z≠[]):bN z=true↔nt (aN z)=z:=by
 constructor
 ·intro h;refine l_ ?_;rw[pC];refine yS _ rfl hf hne ?_;unfold bN at h;rw[OU,QY] at h;rcases h.2 with h|h
  ·exact .inl (by rw[P2 h];rfl)
  ·exact .inr fun e=>by rw[PJ e] at h;cases h
 ·intro h;have h:dg (aN z)=z.cps.toList:=by rw[<-pC,h]
  obtain⟨c,r,e1,e2⟩:=FM (aN z);unfold bN;rw[OU,OU,QY];refine⟨⟨by cases q:z.cps.toList with|nil=>exact absurd q hne|cons _ _=>rfl,QF.mpr fun c hc=>PJ (hf c hc)⟩,?_⟩;by_cases hc:c=48
  ·left
   have e0:=e2 hc;rw[e0] at h;exact PJ (l_ (by rw[<-h];exact eO (by decide)))
  ·right
   rw[<-h,e1];simp[hc]
theorem uL {z:Str}(hf:∀c∈tl z,48<=c/\c<=57)(h:Asked z):aN z<10 ^ 12:=by have:=tU hf;have hl:=h _ (RQ _) hf;exact OW this (P5 (by decide) hl)
theorem tD (z:Str):oS z=decide (47∈tl z):=SA z 47
theorem gi {p:Str}(h:p∈Txt.split z "/"):47 ∉ tl p:=PySem.StrLaws.split_free z 47 p h
theorem zg {a:Str}(h:Txt.split z "/"=[a]):a=z/\rdW z=if bN z=true then some (aN z,1) else none:=by
 have e:a=z:=by have:=R6 z "/";rw[h] at this;exact this
 subst e;have hs:oS a=false:=by rw[tD];exact PF (gi (by rw[h];exact PM.mpr rfl))
 refine⟨rfl,?_⟩;unfold rdW rdF;simp only[hs,yH hs,Bool.false_eq_true,if_false]
theorem wt (h1:47 ∉ tl x)(h2:47 ∉ tl y)(h3:47 ∉ tl a)(h4:47 ∉ tl b)(h:x++("/":Str)++y=a++("/":Str)++b):x=a/\y=b:=by have e:=qJ h1 h2;rw[h,qJ h3 h4] at e;simp only[List.cons.injEq,PV.str.injEq,and_true,true_and] at e;exact⟨e.1.symm,e.2.symm⟩
theorem zE {a:Str}(h:Txt.split z "/"=[a,b]):z=a++("/":Str)++b/\rdW z=if bN a=true/\bN b=true/\2<=aN b/\Nat.gcd (aN a) (aN b)=1 then some (aN a,aN b) else none:=by
 have e:a++("/":Str)++b=z:=by have:=R6 z "/";rw[h] at this;exact this
 have fa:47 ∉ tl a:=gi (by rw[h];simp);have fb:47 ∉ tl b:=gi (by rw[h];simp);have hs:oS z=true:=by rw[tD,<-e];refine PJ ?_;show 47∈(a++("/":Str)++b).cps.toList;rw[aY,aY];simp;exact .inr (.inl (by decide +kernel))
 have p1:=qJ fa fb;rw[e,zm,O0 hs] at p1;simp only[List.cons.injEq,PV.str.injEq,and_true,true_and] at p1;refine⟨e.symm,?_⟩;unfold rdW rdF;simp only[hs,p1.1,p1.2,if_true];by_cases ha:bN a=true
 ·simp only[ha,if_true,true_and]
 ·rw[OY ha,OY (fun q=>ha q.1)]
theorem uA (c:Nat):∀l:List Nat,0<=PyProof.Rows.cnt c l
 | []=>by show (0:Int)<=PyProof.Rows.cnt c [];rw[show PyProof.Rows.cnt c []=0 from rfl];decide
 | x::l=>by have:=uA c l;rw[Q6];split <;> omega
theorem xa (h:2<(Txt.split z "/").length):rdW z=none:=by
 obtain ⟨a,b,c,r,e⟩:∃a b c r,Txt.split z "/"=a::b::c::r:=by
  match Txt.split z "/",h with
  | a::b::c::r,_=>exact⟨a,b,c,r,rfl⟩
 have hj:=fZ z "/";rw[e] at hj;have hc:((Builtin.Str.occurrences z "/" 0 z.length (z.length+1)).length:Int)=PyProof.Rows.cnt 47 z.cps.toList:=PyProof.Rows.count_cnt z 47;have hj:z.cps.toList=tl a++(47::(tl b++(47::jn [47] ((c::r).map tl)))):=hj;rw[hj,SD,Q6,O0 rfl,SD,Q6,O0 rfl] at hc;have n1:=uA 47 (tl a);have n2:=uA 47 (tl b);have n3:=uA 47 (jn [47] ((c::r).map tl));obtain⟨h1,h2⟩:=we (z:=z) (by omega);unfold rdW rdF;simp only[h1,h2,Bool.false_eq_true,false_and,if_true,if_false];split <;> rfl
theorem lE (y:Str)(ps:List Str):Txt.join y ps=Str.join y ps:=PySem.StrLaws.glued_eq_join y ps
noncomputable abbrev pk (z:Str):Bool:=z.cps.toList.all (fun c=>decide (48<=c/\c<=57))
theorem fI (h:pk z=true):∀c∈tl z,48<=c/\c<=57:=fun c hc=>P2 (QF.mp h c hc)
theorem uk (h:bN z=true):pk z=true:=QF.mpr fun c hc=>PJ ((ju h).1 c hc)
theorem uj (h:bN z=true):z≠Str.ofString "":=fun e=>(ju h).2 (by rw[e];rfl)
theorem mh {z:Str}(h:z≠Str.ofString ""):tl z≠[]:=fun e=>h (figs_ne.mpr e)
theorem wB (n d:Nat):bt (.tup [.int n,.int d])=decide (1<=d/\Nat.gcd n d=1):=by rw[jg];simp only[Int.natAbs_natCast];congr 1;exact propext ⟨fun h=>⟨by omega,h.2.2⟩,fun h=>⟨by omega,by omega,h.2⟩⟩
open Classical in
theorem BX {S:List Str}(hS:Txt.split z "/"=S)(hl:¬2<S.length):∃A B:Str,S[0]?=some A/\(S++[("1":Str)])[1]?=some B/\tl A <:+: tl z/\(B="1"\/tl B <:+: tl z) /\
  (S.any (fun j=>j == Str.ofString "")=true->rdW z=none)/\(pk (Txt.join "" S)=false->rdW z=none) /\
  (S.any (fun j=>j == Str.ofString "")=false->pk (Txt.join "" S)=true->pk A=true/\pk B=true/\A≠Str.ofString ""/\B≠Str.ofString "" /\
   rdW z=if bt (.tup [.int (aN A),.int (aN B)])=true/\ft (aN A) (aN B)=z then some (aN A,aN B) else none):=by
 have hne:=mi z "/";rw[lE];have hin:∀p∈S,tl p <:+: tl z:=fun p hp=>hJ (hS ▸ hp);rcases S with _|⟨a,_|⟨b,_|⟨c,r⟩⟩⟩
 ·exact absurd hS hne
 ·obtain⟨rfl,hr⟩:=zg hS;refine ⟨a,"1",rfl,rfl,RQ _,.inl rfl,?_,?_,?_⟩
  ·intro h;rw[hr,OY (fun q=>uj q (by simpa using h))]
  ·intro h;rw [hr,OY (fun q=>by rw [show pk (Str.join "" [a])=pk a from rfl,uk q] at h;cases h)]
  ·intro h1 h2;have h1:a≠Str.ofString "":=by simpa using h1
   have h2:pk a=true:=h2;refine⟨h2,rfl,h1,by decide,?_⟩;rw[hr];have v1:aN (Str.ofString "1")=1:=rfl;rw[v1,wB,PJ (show 1<=1/\Nat.gcd (aN a) 1=1 from ⟨OX _,Nat.gcd_one_right _⟩),show ft (aN a) 1=nt (aN a) from rfl];by_cases q:bN a=true
   ·rw[O0 q,O0 ⟨rfl,(uq (fI h2) (mh h1)).mp q⟩]
   ·rw[OY q,OY (fun w=>q ((uq (fI h2) (mh h1)).mpr w.2))]
 ·obtain⟨ez,hr⟩:=zE hS;have fa:47 ∉ tl a:=gi (by rw[hS];simp);have fb:47 ∉ tl b:=gi (by rw[hS];simp);refine⟨a,b,rfl,rfl,hin a (by simp),.inr (hin b (by simp)),?_,?_,?_⟩
  ·intro h;rw[hr,OY (fun q=>?_)];have n1:=uj q.1;have n2:=uj q.2.1;simp[n1,n2] at h
  ·intro h;rw[hr,OY (fun q=>?_)];have n1:(a.cps.toList.all fun c=>decide (48<=c/\c<=57))=true:=uk q.1;have n2:(b.cps.toList.all fun c=>decide (48<=c/\c<=57))=true:=uk q.2.1;rw [show pk (Str.join "" [a,b])=(a++("":Str)++b).cps.toList.all (fun c=>decide (48<=c/\c<=57)) from rfl,aY,aY,SZ,SZ,n1,n2] at h;cases h
  ·intro h1 h2;rw [show pk (Str.join "" [a,b])=(a++("":Str)++b).cps.toList.all (fun c=>decide (48<=c/\c<=57)) from rfl,aY,aY,SZ,SZ,OU,OU] at h2;have a0:a≠Str.ofString "":=by intro e;simp [e] at h1
   have b0:b≠Str.ofString "":=by intro e;simp [e] at h1
   refine⟨h2.1.1,h2.2,a0,b0,?_⟩;rw[hr,wB];have ia:=uq (fI h2.1.1) (mh a0);have ib:=uq (fI h2.2) (mh b0);have iff:(bN a=true/\bN b=true/\2<=aN b/\Nat.gcd (aN a) (aN b)=1)↔(decide (1<=aN b/\Nat.gcd (aN a) (aN b)=1)=true/\ft (aN a) (aN b)=z):=by
    rw[decide_eq_true_eq];constructor
    ·rintro⟨q1,q2,q3,q4⟩;refine⟨⟨by omega,q4⟩,?_⟩;unfold ft;rw[OY (by omega),ia.mp q1,ib.mp q2,ez]
    ·rintro⟨⟨q1,q2⟩,q3⟩;unfold ft at q3;by_cases h:aN b=1
     ·rw[O0 h] at q3;exfalso;have:=Cs (n:=aN a);rw[q3,ez] at this;apply this;rw[aY,aY];simp;exact .inr (.inl (by decide +kernel))
     ·rw[OY h,ez] at q3;obtain⟨e1,e2⟩:=wt Cs Cs fa fb q3;exact⟨ia.mpr e1,ib.mpr e2,by omega,q2⟩
   by_cases q:bN a=true/\bN b=true/\2<=aN b/\Nat.gcd (aN a) (aN b)=1
   ·rw[O0 q,O0 (iff.mp q)]
   ·rw[OY q,OY (fun w=>q (iff.mpr w))]
 ·exact absurd (by simp:2<(a::b::c::r).length) hl
theorem DK {n:Nat}(h:n<10 ^ 12):(n:Int).natAbs.log2<1920:=AZ (by omega) (by omega)
theorem wY (h1:pk z=true)(h2:z≠Str.ofString "")(h3:z.length<=640):PySem.intText? z=some (aN z:Int):=SS (fI h1) (mh h2) (by omega)
theorem kF {as st Q}(h:aS as st Q):aG Γ ck (frame 1 as) st (ag st Q):=by
 obtain⟨p,rfl,h1,h2,k⟩:=h;unfold ck;walk_at "WP";have l1:(Str.ofString (toString (p.1:Int))).length<=12:=uW h1;have l2:(Str.ofString (toString (p.2:Int))).length<=12:=uW h2;have l3:(Str.ofString "/").length=1:=rfl;refine⟨DK h1,by omega,DK h2,by rw[PySem.Str.length_append];omega,DK h1,_,ai au,?_⟩;by_cases e:p.2=1
 ·have k:Q (.str (nt p.1)) st:=by rw[show ft p.1 p.2=nt p.1 by unfold ft;rw[O0 e]] at k;exact k
  rw[PJ (show (p.2:Int)=1 by omega)];exact⟨_,rfl,.app rfl (.inl k)⟩
 ·have k:Q (.str (nt p.1++("/":Str)++nt p.2)) st:=by rw [show ft p.1 p.2=nt p.1++("/":Str)++nt p.2 by unfold ft;rw [OY e]] at k;exact k
  rw[PF (show ¬(p.2:Int)=1 by omega)];exact⟨_,rfl,.app rfl (.inl k)⟩
theorem jZ {sep:Str}{S:List Str}{B:Nat}(hB:∀y∈S,y.length<=B)(h:S.length*B+S.length*sep.length<=16777216):JoinOk sep S=true:=by unfold JoinOk;rw[PySem.StrLaws.joinFits hB h];rfl
theorem su {as st Q}(h:bS as st Q):aG Γ eC (frame 3 as) st (ag st Q):=by
 obtain⟨z,rfl,h1,h2,k⟩:=h;unfold eC;walk_at "WP";have hm:=du (z:=z) (y:="/") (by decide);have l1:(Str.ofString "/").length=1:=rfl;rw[l1,T7] at hm;generalize hS:Txt.split z (Str.ofString "/")=S at hm;refine⟨by decide,by omega,by omega,_,ai au,?_⟩;by_cases hl:2<S.length
 ·rw[O0 (by rw[O1];omega)];rw[xa (hS ▸ hl)] at k;exact .inr (.app rfl k)
 rw[OY (by rw[O1];omega)];obtain⟨A,B,hA,hB,iA,iB,n1,n2,n3⟩:=BX hS hl;refine .inl ⟨S,au,?_⟩;cases he:S.any (fun j=>j == Str.ofString "") with
 | true =>rw[O0 rfl];rw[n1 he] at k;exact .inr (.app rfl k)
 | false =>
 rw[OY (by decide)];have jl:(Txt.join (Str.ofString "") S).length<=2000:=by
  rw[lE];have:=PySem.StrLaws.join_length_le (Str.ofString "") S;have e0:(Str.ofString "").length=0:=rfl;have sl:z.length+1=(S.map (fun x=>x.length)).sum+S.length:=by have:=nZ z "/";rw[hS,l1,T7] at this;exact this
  rw[e0] at this;omega
 refine⟨S,ay au,?_,by simp only[dU,List.length_map];rw[<-aq];omega,?_⟩
 ·exact jZ (B:=1003) (fun y hy=>O7 (ik (hS ▸ hy)) h1) (by rw [show (Str.ofString "").length=0 from rfl];omega)
 refine FW.comp_map Γm (fun v=>.bl (inF v)) trivial (fun v hv=>?_) ?_
 ·obtain⟨c,hc,rfl⟩:=O9.mp hv;walk_at "WP";rfl
 refine⟨_,ay au,_,cN (f:=inF),.app rfl ?_⟩;rw[y_];cases hf:(Txt.join (Str.ofString "") S).cps.toList.all (fun c=>decide (48<=c/\c<=57)) with
 | false =>rw[n2 hf] at k;walk_at "WP";exact .inr (.app rfl k)
 | true =>
 obtain⟨fA,fB,eA,eB,hr⟩:=n3 he hf;have aA:Asked A:=h2.sub iA;have aB:Asked B:=by
  rcases iB with rfl|iB
  ·intro l hl _;exact O7 hl.length_le (by decide)
  ·exact h2.sub iB
 have vA:=uL (fI fA) aA;have vB:=uL (fI fB) aB;have lA:A.length<=640:=by have:=aA _ (RQ _) (fI fA);rw[aq];omega
 have lB:B.length<=640:=by have:=aB _ (RQ _) (fI fB);rw[aq];omega
 walk_at "WP";refine⟨_,ai au,.str A,cB (j:=0) (by rw[PC,hA];rfl),lA,_,wY fA eA lA,?_⟩;walk_at "WP";refine⟨by rw[O1];omega,_,ai (eH (k:=2)),.str B,cB (j:=1) (by rw[<-List.map_singleton (f:=PV.str),<-Q8,PC,hB];rfl),lB,_,wY fB eB lB,?_⟩;have big:∀n:Nat,n<10 ^ 12->n<2 ^ 600:=fun n hn=>RX hn (OW (by decide:10 ^ 12<2 ^ 40) (P5 (by decide) (by decide)));refine⟨_,rfl,rfl,fun n d e=>?_,?_⟩
 ·simp only[PV.tup.injEq,List.cons.injEq,PV.int.injEq,and_true] at e;rw[<-e.1,<-e.2];exact⟨big _ vA,big _ vB⟩
 rw[hr] at k;cases hi:bt (.tup [.int (aN A),.int (aN B)]) with
 | false =>rw[OY (fun q=>by rw[hi] at q;exact absurd q.1 (by decide))] at k;walk_at "WP";exact .inr (.app rfl k)
 | true =>
  walk_at "WP";refine⟨(aN A,aN B),rfl,vA,vB,?_⟩;walk_at "WP";by_cases e:ft (aN A) (aN B)=z
  ·rw[O0 ⟨hi,e⟩] at k;rw[OY (fun q=>q e)];exact .inr (.app rfl k)
  ·rw[OY (fun q=>e q.2)] at k;rw[O0 e];exact .inr (.app rfl k)
theorem ic {α β γ:Type}{f:α->Option β}{g:β->γ}:∀ {ws:List α},bQ (ws.map fun w=>(f w).map g)=(bQ (ws.map f)).map (List.map g)
 | []=>rfl
 | w::ws=>by
  rw[O8,O8];cases h:f w with
  | none=>rfl
  | some b =>show (bQ (ws.map fun w=>(f w).map g)).map (g b::·)=((bQ (ws.map f)).map (b::·)).map (List.map g);rw[ic];cases bQ (ws.map f) <;> rfl
theorem mP {sp:FSp}{chk:AH->Prop}{f:Str->Option PV}{Q:LK}{Wx:XW}(hc:chk st):∀(ws:List Str) (acc:List PV),(∀w∈ws,∀K:EK,K (Ea (f w)) st->sp [.str w] st K)->(∀vs,bQ (ws.map f)=some vs->Q (acc++vs) st)->(bQ (ws.map f)=none->Wx 0 st)->ff sp chk (ws.map PV.str) acc st Q Wx
 | [],acc,_,h,_=>by have:=h [] rfl;rw[Q7] at this;exact⟨hc,this⟩
 | w::ws,acc,hs,h,hn=>by
  refine⟨hc,hs w PD _ ?_⟩;cases hw:f w with
  | none=>exact hn (by rw[O8,hw];rfl)
  | some v =>
   refine mP hc ws (acc++[v]) (fun w' h'=>hs w' (OV _ h')) (fun vs e=>?_) fun e=>hn ?_
   ·rw[PY];exact h (v::vs) (by rw[O8,hw];show (bQ _).map _=_;rw[e];rfl)
   ·rw[O8,hw];show (bQ _).map _=_;rw[e];rfl
theorem BN {k:Nat}:(pV l).bel k=true:=by
 rw[PV.bel]
 induction l with
 | nil=>rfl
 | cons p l ih=>rw[O8,PV.bels,Bp,ih];rfl
theorem DY {k:Nat}:(lV L).bel k=true:=by
 rw[PV.bel]
 induction L with
 | nil=>rfl
 | cons p l ih=>rw[O8,PV.bels,BN,ih];rfl
theorem D_ (o:Option (Nat × Nat)):frR o=Ea (o.map fr):=by
 cases o with
 | none=>rfl
 | some p=>rfl
theorem uS {as st Q}(h:aX as st Q):cw Γ ΓR e_ (frame 1 as) st (lh st Q) (pR st Q):=by
 obtain⟨z,rfl,h1,k⟩:=h;unfold e_;walk_at "WP";have hm:=du (z:=z) (y:=" ") (by decide);rw [show (Str.ofString " ").length=1 from rfl,T7] at hm;refine⟨by decide,by omega,by omega,_,ai au,by rw[O1];omega,?_⟩;refine mP (f:=fun w=>(rdW w).map fr) (by rw[fU]) _ [] (fun w hw K hK=>⟨_,rfl,⟨rfl,fun z' e=>?_⟩,?_⟩) (fun vs e=>?_) fun e=>?_
 ·cases e;exact O7 (ik hw) h1
 ·rw[D_];exact hK
 ·rw[ic] at e;have hk:rdP z=bQ ((Txt.split z " ").map rdW):=rfl;rw[<-hk] at e;obtain⟨l,e1,rfl⟩:=P1.mp e;rw[e1] at k;rw[PY];exact .inr (.app BN k)
 ·rw[ic] at e;have hk:rdP z=bQ ((Txt.split z " ").map rdW):=rfl;rw[<-hk] at e;rw[SK.mp e] at k;exact .inr (.app rfl k)
theorem uU {as st Q}(h:aZ as st Q):cw Γ ΓR e8 (frame 2 as) st (lh st Q) (pR st Q):=by
 obtain⟨x,rfl,⟨⟨hb,hl⟩,hz⟩,k⟩:=h;unfold e8;walk_at "WP";obtain⟨n,hn⟩:=bu hb;obtain⟨k1,_⟩:=wx hn;refine⟨n,hn,?_⟩;cases hk:bI "str" n with
 | false =>
  rw[O0 rfl];have:rdS x=none:=by
   cases x with
   | str z=>cases hn;exact absurd hk (by decide)
   | _=>rfl
  rw[this] at k;exact .inl k
 | true =>
 rw[OY (by decide)];obtain⟨z,rfl⟩:=k1 hk;have hl:=hl z rfl;have hz:=hz z rfl;show if decide (z=Str.ofString "never")=true then _ else _
 by_cases hv:z=Str.ofString "never"
 ·rw[O0 (PJ hv)];have:rdS (.str z)=some (.tup []):=by rw[rdS,O0 hv]
  rw[this] at k;exact .inl k
 rw[OY (by rw[PF hv];decide)];rw[rdS,OY hv] at k;have hm:=du (z:=z) (y:="; ") (by decide);rw [show (Str.ofString "; ").length=2 from rfl] at hm;refine⟨⟨z,rfl⟩,by decide,by omega,by omega,_,ai au,by rw[O1];omega,?_⟩;refine mP (f:=fun w=>(rdP w).map pV) (by rw[fU]) _ [] (fun w hw K hK=>⟨_,rfl,O7 (ik hw) hl,hK⟩) (fun vs e=>?_) fun e=>?_
 ·rw[ic] at e;have hk:rdL z=bQ ((Txt.split z "; ").map rdP):=rfl;rw[<-hk] at e;obtain⟨L,e1,rfl⟩:=P1.mp e;rw[e1] at k;have hz:=hz L e1;rw[SV];refine⟨_,rfl,DY,hz,?_⟩;cases hi:ir (lV L) with
  | false =>simp only[hi,Bool.false_eq_true,if_false] at k;walk_at "WP";exact .inr (.app rfl k)
  | true =>simp only[hi,if_true] at k;walk_at "WP";exact .inr (.app DY k)
 ·rw[ic] at e;have hk:rdL z=bQ ((Txt.split z "; ").map rdP):=rfl;rw[<-hk] at e;rw[SK.mp e] at k;exact .inr (.app rfl k)
theorem vT {as st Q}(h:cO as st Q):eQ Γ ΓR FX.xs.length LH fV (frame 3 as) st (ag st Q):=by
 obtain⟨x,rfl,h1,k⟩:=h;unfold fV;walk_at "WP";refine⟨x,rfl,h1,?_⟩;cases h:rdS x with
 | some v =>rw[h] at k;exact .inl k
 | none =>rw[h] at k;exact⟨by decide,rfl,_,rfl,.inl k⟩
theorem yB {as st Q}(h:dy as st Q):aG Γ gM (frame 2 as) st (ag st Q):=by
 obtain⟨z,rfl,h1,h2,k⟩:=h;unfold gM;walk_at "WP";refine⟨z,rfl,h1,h2,?_⟩;cases h:rdS (.str z) with
 | none =>rw[h] at k;exact .inl k
 | some v =>
  rw[h] at k;have hv:fg v=false:=by
   rw[rdS] at h;split at h
   ·cases h;rfl
   ·split at h
    ·split at h
     ·cases h;rfl
     ·cases h
    ·cases h
  show if fg v=true then _ else _
  rw[OY (by rw[hv];decide)];exact .inl k
noncomputable def mW:PV->PV
 | .str w=>frV (rdW w)
 | _=>.non
noncomputable def stW:PV->PV
 | .str p=>.tup ((Txt.split p " ").map fun w=>frV (rdW w))
 | _=>.non
theorem mQ {α β γ:Type}{f:α->Option β}{g:α->γ}{h:β->γ}(hf:∀w y,f w=some y->g w=h y):∀ {ws:List α}{l:List β},bQ (ws.map f)=some l->ws.map g=l.map h
 | [],l,e=>by cases e;rfl
 | w::ws,l,e=>by
  rw[O8] at e;cases hw:f w with
  | none=>rw[hw] at e;cases e
  | some y =>rw[hw] at e;obtain⟨l',e1,rfl⟩:=P1.mp (show (bQ (ws.map f)).map (y::·)=some l from e);rw[O8,O8,hf w y hw,mQ hf e1]
theorem qW {α β:Type}{f:α->Option β}:∀ {ws:List α},bQ (ws.map f)=none->∃w∈ws,f w=none
 | [],e=>by cases e
 | w::ws,e=>by
  rw[O8] at e;cases hw:f w with
  | none=>exact⟨w,PD,hw⟩
  | some y =>rw[hw] at e;obtain⟨v,h1,h2⟩:=qW (SK.mp (show (bQ (ws.map f)).map (y::·)=none from e));exact⟨v,OV _ h1,h2⟩
theorem Cq (h:rdP p=some l):stW (.str p)=pV l:=by show PV.tup _=PV.tup _;rw[mQ (g:=fun w=>frV (rdW w)) (h:=fr) (fun w y e=>by rw[e];rfl) h]
theorem BM {ys:List PV}(h:PV.non∈ys):pcP (.tup ys)=none:=by
 by_cases hl:ys.length=3
 ·obtain⟨a,b,c,rfl⟩:=qj hl;have:(pcP (.tup [a,b,c])).isSome=false:=by
   rw[nD];simp only[List.mem_cons,List.not_mem_nil,or_false] at h;rcases h with rfl|rfl|rfl
   ·rfl
   ·rw[show bt .non=false from rfl];simp
   ·rw[show bt .non=false from rfl];simp
  cases e:pcP (.tup [a,b,c]) with
  | none=>rfl
  | some p=>rw[e] at this;cases this
 ·exact tN hl
theorem yh {ps:List Str}(h:bQ (ps.map rdP)=none):fR (.tup ((ps.map PV.str).map stW))=none:=by obtain⟨p,hp,e⟩:=qW h;obtain ⟨w,hw,e2⟩:=qW (show bQ ((Txt.split p " ").map rdW)=none from e);obtain⟨i,hi⟩:=QL hp;refine sP (i:=i) (x:=stW (.str p)) (by rw[PC,PC,hi];rfl) (BM (O9.mpr ⟨w,hw,by rw[e2];rfl⟩))
theorem qq {ps:List Str}(h:bQ (ps.map rdP)=some L):(ps.map PV.str).map stW=L.map pV:=by rw[RA];exact mQ (fun w y e=>Cq e) h
theorem Dy (z:Str)(i j:Nat):tl (Builtin.Str.strSub z i j) <:+: tl z:=by show (Builtin.Str.strSub z i j).cps.toList <:+: _;rw[QA];exact(List.take_prefix _ _).isInfix.trans (List.drop_suffix _ _).isInfix
theorem E_ (z:Str):tl (jb z) <:+: tl z:=by
 unfold jb;split
 ·exact Dy ..
 ·exact RQ _
theorem F0 (z:Str):tl (ie z) <:+: tl z:=by
 unfold ie;split
 ·exact Dy ..
 ·exact List.nil_infix
theorem Ji {n d:Nat}(h:rdW z=some (n,d))(ha:Asked z):n<10 ^ 12/\d<10 ^ 12:=by
 unfold rdW rdF at h;simp only at h;split at h
 ·rename_i hA;have vA:=uL (ju hA).1 (ha.sub (E_ z));split at h
  ·split at h
   ·rename_i hB;cases h;exact⟨vA,uL (ju hB.1).1 (ha.sub (F0 z))⟩
   ·cases h
  ·cases h;exact⟨vA,by decide⟩
 ·cases h
theorem Cu {n:Nat}(hn:n<10 ^ 12):n<2 ^ 600:=RX hn (OW (by decide:10 ^ 12<2 ^ 40) (P5 (by decide) (by decide)))
theorem F1 {k:Nat}:(frV o).bel k=true:=by
 cases o with
 | none=>rfl
 | some p=>exact Bp (p:=p)
theorem yK {k:Nat}:(stW v).bel k=true:=by
 cases v with
 | str p =>
  show PV.bels k _=true;generalize Txt.split p " "=ws
  induction ws with
  | nil=>rfl
  | cons w ws ih=>rw[O8,PV.bels,F1,ih];rfl
 | _=>rfl
theorem sS {xs:List PV}{k:Nat}:(PV.tup (xs.map stW)).bel k=true:=by
 rw[PV.bel]
 induction xs with
 | nil=>rfl
 | cons w ws ih=>rw[O8,PV.bels,yK,ih];rfl
theorem qV {z:Str}(h1:z.length<=1003)(h2:Asked z):VSz (.tup (((Txt.split z "; ").map PV.str).map stW)):=by
 intro xs e;cases e;have hm:=du (z:=z) (y:="; ") (by decide);rw [show (Str.ofString "; ").length=2 from rfl] at hm;refine⟨by rw[O1,O1];omega,fun x hx ys ex y hy n d ey=>?_⟩;obtain⟨x',hx',rfl⟩:=O9.mp hx;obtain⟨p,hp,rfl⟩:=O9.mp hx';have ex:ys=(Txt.split p " ").map fun w=>frV (rdW w):=(PV.tup.inj ex).symm;rw[ex] at hy;obtain⟨w,hw,rfl⟩:=O9.mp hy;cases hr:rdW w with
 | none=>rw[hr] at ey;cases ey
 | some q =>obtain⟨a,b⟩:=q;rw[hr] at ey;have ey:PV.tup [.int a,.int b]=.tup [.int n,.int d]:=ey;simp only[PV.tup.injEq,List.cons.injEq,PV.int.injEq,and_true] at ey;obtain⟨q1,q2⟩:=Ji hr ((h2.sub (hJ hp)).sub (hJ hw));rw[<-ey.1,<-ey.2];exact⟨Cu q1,Cu q2⟩
theorem tJ {as st Q}(h:cb as st Q):aG Γ eZ (frame 2 as) st (ag st Q):=by
 obtain⟨z,rfl,h1,h2,k⟩:=h;unfold eZ;walk_at "WP";by_cases hv:z=Str.ofString "never"
 ·rw[O0 hv];have:rdS (.str z)=some (.tup []):=by rw[rdS,O0 hv]
  rw[this] at k;exact .inl k
 rw[OY hv];rw[rdS,OY hv] at k;have hm:=du (z:=z) (y:="; ") (by decide);rw [show (Str.ofString "; ").length=2 from rfl] at hm;refine⟨by decide,by omega,by omega,_,ai au,by rw[O1];omega,?_⟩;refine FW.comp_map Γm stW (by rw[fU]) (fun x hx=>?_) ?_
 ·obtain⟨p,hp,rfl⟩:=O9.mp hx;have hpl:=ik hp;have hpm:=du (z:=p) (y:=" ") (by decide);rw [show (Str.ofString " ").length=1 from rfl] at hpm;walk_at "WP";refine⟨by decide,by omega,by omega,_,ai (eH (k:=1)),by rw[O1];omega,?_⟩;refine FW.comp_map Γm mW (by rw[fU]) (fun x hx=>?_) ?_
  ·obtain⟨w,hw,rfl⟩:=O9.mp hx;walk_at "WP";exact⟨w,rfl,O7 (ik hw) (O7 hpl h1),(h2.sub (hJ hp)).sub (hJ hw),rfl,rfl⟩
  ·refine⟨_,ai au,?_⟩;have e:List.map mW (List.map PV.str (Txt.split p (Str.ofString " ")))=(Txt.split p (Str.ofString " ")).map fun w=>frV (rdW w):=by rw [RA];rfl
   rw[e];exact ⟨st++[.lst ((Txt.split z (Str.ofString "; ")).map PV.str)],[.lst ((Txt.split p (Str.ofString " ")).map PV.str),.lst ((Txt.split p (Str.ofString " ")).map fun w=>frV (rdW w))],by simp,rfl,Sub.refl _,yK (v:=.str p),rfl,rfl⟩
 refine⟨_,ai au,?_⟩;rw[PY];refine .app sS ⟨_,rfl,sS,qV h1 h2,?_⟩;have hk:rdL z=bQ ((Txt.split z "; ").map rdP):=rfl;cases hL:rdL z with
 | none =>rw[hL] at k hk;rw[fK (yh hk.symm)];walk_at "WP";exact .inl k
 | some L =>
  rw[hL] at k hk;have ev:=qq hk.symm;have hz:=qV h1 h2;rw[ev] at hz |-
  cases hr:fR (lV L) with
  | none =>
   rw[fK hr];have:ir (lV L)=false:=by unfold ir;rw[hr]
   simp only[this,Bool.false_eq_true,if_false] at k;walk_at "WP";exact .inl k
  | some P =>
   have e1:iO (lV L)=hV P:=by unfold iO;rw[hr]
   have e2:ir (lV L)=(hV P && stB P):=by unfold ir;rw[hr]
   obtain⟨e3,ok⟩:=iR hr;rw[e1];cases hb:hV P with
   | false =>rw[hb] at e2;simp only[e2,Bool.false_and,Bool.false_eq_true,if_false] at k;walk_at "WP";exact .inl k
   | true =>
    rw[hb] at e2;have e4:PV.tup (L.map pV)=gk P:=e3;have k:Q ((if ir (lV L)=true then some (lV L) else none:Option PV).getD .non) st:=k;rw[e3] at e2 k;rw[e4] at hz |-
    obtain⟨sz,ll⟩:=hz.row ok;walk_at "WP";refine⟨P,rfl,mY hb,sz,ll,?_⟩;cases hs:stB P with
    | false =>rw[hs] at e2;simp only[e2,Bool.and_false,Bool.false_eq_true,if_false] at k;walk_at "WP";exact .inl k
    | true =>rw[hs] at e2;simp only[e2,Bool.and_true,if_true] at k;walk_at "WP";exact .inl k
noncomputable def mT:PV->Str
 | .tup [.int n,.int d]=>ft n.toNat d.toNat
 | _=>""
noncomputable def pT:PV->Str
 | .tup xs=>Txt.join " " (xs.map mT)
 | _=>""
theorem Jl {B:Nat}:∀ {S:List Str},(∀y∈S,y.length<=B)->(S.map (fun x=>x.length)).sum<=S.length*B:=fun {S} h=>PySem.StrLaws.sumLen_le S h
theorem yJ {sep:Str}{S:List Str}{B:Nat}(h:∀y∈S,y.length<=B):(Txt.join sep S).length<=S.length*B+S.length*sep.length:=by rw[lE];exact O7 (PySem.StrLaws.join_length_le sep S) (Nat.add_le_add_right (Jl h) _)
theorem Gf {p:Pc}(h:(p.e.1<10 ^ 12/\p.e.2<10 ^ 12)/\(p.l.1<10 ^ 12/\p.l.2<10 ^ 12)/\(p.h.1<10 ^ 12/\p.h.2<10 ^ 12)):∀y∈[fr p.e,fr p.l,fr p.h].map mT,y.length<=25:=by
 intro y hy;simp only[List.map_cons,List.map_nil,List.mem_cons,List.not_mem_nil,or_false] at hy;rcases hy with rfl|rfl|rfl
 ·exact x_ h.1.1 h.1.2
 ·exact x_ h.2.1.1 h.2.1.2
 ·exact x_ h.2.2.1 h.2.2.2
theorem vR {as st Q}(h:cD as st Q):aG Γ f_ (frame 1 as) st (ag st Q):=by
 obtain⟨L,rfl,h1,h2,k⟩:=h;unfold f_;walk_at "WP";refine uG (n:=4) (by decide) pA rfl ?_;rw[wR];split
 ·exact .inl (k _ (by decide))
 refine⟨by rw[O1];omega,?_⟩;have s1:(Str.ofString " ").length=1:=rfl;have s2:(Str.ofString "; ").length=2:=rfl;refine FW.comp_map Γm (fun x=>.str (pT x)) trivial (fun x hx=>?_) ?_
 ·obtain⟨p,hp,rfl⟩:=O9.mp hx;have hp:=h2 p hp;walk_at "WP";refine⟨by decide,?_⟩;refine FW.comp_map Γm (fun x=>.str (mT x)) trivial (fun x hx=>?_) ?_
  ·simp only[List.mem_cons,List.not_mem_nil,or_false] at hx;rcases hx with rfl|rfl|rfl
   ·walk_at "WP";exact⟨p.e,rfl,hp.1.1,hp.1.2,rfl,rfl⟩
   ·walk_at "WP";exact⟨p.l,rfl,hp.2.1.1,hp.2.1.2,rfl,rfl⟩
   ·walk_at "WP";exact⟨p.h,rfl,hp.2.2.1,hp.2.2.2,rfl,rfl⟩
  ·exact⟨[fr p.e,fr p.l,fr p.h].map mT,ay au,jZ (Gf hp) (by rw[s1];simp),.app rfl ⟨rfl,rfl⟩⟩
 ·have hB:∀y∈(L.map pcV).map pT,y.length<=78:=by intro y hy;obtain⟨x,hx,rfl⟩:=O9.mp hy;obtain⟨p,hp,rfl⟩:=O9.mp hx;exact O7 (yJ (Gf (h2 p hp))) (by rw[s1];simp)
  refine⟨(L.map pcV).map pT,ay (by rw[au];simp),jZ hB (by rw[O1,O1,s2];omega),.app rfl (.inl (k _ ?_))⟩;have:=yJ (sep:=Str.ofString "; ") hB;rw[O1,O1,s2] at this;omega
theorem l9 (z:Str)(i:Nat):(je z (some (i:Int)) none).length<=z.length-i:=by
 have e:(Builtin.Str.strSliceIndices (some (i:Int)) none 1 z.length).length<=z.length-i:=by
  unfold Builtin.Str.strSliceIndices sliceRange;simp only[show ((1:Int) > 0)=True from by simp,if_true,if_neg (show ¬(i:Int)<0 by omega)];rw[O1,List.length_range];split
  ·rw[Int.ediv_one];omega
  ·exact P9 _
 unfold je;split
 ·rename_i h;have:=beq_iff_eq.mp h;omega
 ·rw[aq];show (List.filterMap (fun x=>z.cps[x]?) (Builtin.Str.strSliceIndices (some (i:Int)) none 1 z.length)).toArray.toList.length<=_;rw[List.toList_toArray];exact O7 (RC ..) e
theorem yz {z:Str}{k:Nat}(h:k<=z.length):(je z none (some (k:Int))).length=k:=by rw[aq,C8 h,P8,<-aq];omega
theorem dJ (x y:Str):(x++y).length=x.length+y.length:=by rw[aq,aY,PL,<-aq,<-aq]
theorem oN {as st Q}(h:bA as st Q):aG Γ dm (frame 6 as) st (ag st Q):=by
 obtain⟨p,z,rfl,h1,h2,k⟩:=h;unfold dm;walk_at "WP";have s0:(Str.ofString "0123456789/; -+n.\n~").length=19:=rfl;refine⟨by omega,p,_,rfl,h1,by omega,by omega,fun x s1 x0 x1 g1=>⟨by omega,p,_,rfl,g1.pot,by omega,by omega,fun y s2 y0 y1 g2=>?_⟩⟩;obtain⟨n,rfl⟩:∃n:Nat,x=n:=⟨x.toNat,by omega⟩;obtain⟨m,rfl⟩:∃m:Nat,y=m:=⟨y.toNat,by omega⟩;have hm:m<(Str.ofString "0123456789/; -+n.\n~").cps.toList.length:=by rw [<-aq];omega
 refine⟨by omega,_,cB (O6 hm),p,_,rfl,g2.pot,by decide,by decide,fun w s3 w0 w1 g3=>?_⟩;have hn:n<=z.length:=by omega
 have c1:=yz hn;have G:=(g1.trans g2).trans g3;walk_at "WP";split
 ·have c2:=l9 z (n+1);refine⟨by omega,by omega,by show _+(je z (some ((n:Int)+1)) none).length<=_;rw[show (n:Int)+1=((n+1:Nat):Int) by omega];omega,.inl (k _ _ ?_ G)⟩;rw[show (n:Int)+1=((n+1:Nat):Int) by omega,dJ];omega
 ·obtain⟨j,hj,hj1⟩:∃j:Nat,(n:Int)+b2z (decide (w=1))=j/\n<=j:=by
   cases decide (w=1)
   ·exact⟨n,by show (n:Int)+0=n;omega,OX _⟩
   ·exact⟨n+1,by show (n:Int)+1=_;omega,by omega⟩
  rw[hj];have c2:=l9 z j;have hs:({ cps:=#[(Str.ofString "0123456789/; -+n.\n~").cps.toList[m]] }:Str).length=1:=rfl;refine⟨by omega,by omega,by omega,by rw[dJ];omega,.inl (k _ _ ?_ G)⟩;rw[dJ,dJ];omega
def yZ (l:List Nat):Prop:=∀m:List Nat,m <:+: l->(∀c∈m,48<=c/\c<=57)->m.length<=12
def mR (l:List Nat)(r:Nat):Prop:=∀m:List Nat,m <:+ l->(∀c∈m,48<=c/\c<=57)->m.length<=r
theorem DU {c r:Nat}(h1:yZ l)(h2:mR l r):(48<=c/\c<=57->mR (l++[c]) (r+1)/\(r+1<=12->yZ (l++[c])))/\(¬(48<=c/\c<=57)->mR (l++[c]) 0/\yZ (l++[c])):=by
 refine⟨fun hc=>?_,fun hc=>?_⟩
 ·have e:mR (l++[c]) (r+1):=by
   intro m hm hf;rcases List.suffix_concat_iff.mp hm with rfl|⟨t,rfl,ht⟩
   ·exact P9 _
   ·have:=h2 t ht fun c hc=>hf c (QJ _ hc);rw[PL];exact Nat.succ_le_succ this
  refine⟨e,fun hr m hm hf=>?_⟩;rcases List.infix_concat_iff.mp hm with hm|hm
  ·exact O7 (e m hm hf) hr
  ·exact h1 m hm hf
 ·have e:mR (l++[c]) 0:=by
   intro m hm hf;rcases List.suffix_concat_iff.mp hm with rfl|⟨t,rfl,ht⟩
   ·exact OX _
   ·exact absurd (hf c (by simp)) hc
  refine⟨e,fun m hm hf=>?_⟩;rcases List.infix_concat_iff.mp hm with hm|hm
  ·exact O7 (e m hm hf) (P9 _)
  ·exact h1 m hm hf
theorem oI {as st Q}(h:bC as st Q):aG Γ dr (frame 3 as) st (ag st Q):=by
 obtain⟨z,rfl,h1,k⟩:=h;unfold dr;walk_at "WP";refine en Γm (fun i ρ s=>s=st/\∃(r:Nat) (c:Option PV),ρ=[some (.str z),some (.int r),c]/\r<=12/\yZ ((tl z).take i)/\mR ((tl z).take i) r) ⟨rfl,0,none,rfl,by decide,fun m hm _=>by rw[List.take_zero] at hm;rw[List.eq_nil_of_infix_nil hm];decide,fun m hm _=>by rw[List.take_zero] at hm;rw[List.eq_nil_of_suffix_nil hm];decide⟩ (fun i v ρ s hi hI=>?_) ?_
 ·obtain⟨rfl,r,c,rfl,hr,n1,n2⟩:=hI;obtain⟨c0,hc,rfl⟩:∃c0,(tl z)[i]?=some c0/\v=.str ⟨#[c0]⟩:=by unfold dU at hi;rw[PC] at hi;obtain⟨c0,e1,e2⟩:=P1.mp hi;exact⟨c0,e1,e2.symm⟩
  refine⟨trivial,?_⟩;have et:(tl z).take (i+1)=(tl z).take i++[c0]:=by rw[SH,hc];rfl
  obtain⟨r1,r2⟩:=DU (c:=c0) n1 n2;rw[<-et] at r1 r2;walk_at "WP";rw[Bw];refine⟨oo (rA _) (rq _),?_⟩;by_cases hd:48<=c0/\c0<=57
  ·rw[PJ hd,show b2z true=1 from rfl,Int.mul_one];split
   ·exact .inl (k false fun z=>Bool.noConfusion z)
   ·exact⟨r+1,by omega,by omega,(r1 hd).2 (by omega),(r1 hd).1⟩
  ·rw[PF hd,show b2z false=0 from rfl,Int.mul_zero,OY (by decide)];exact⟨0,rfl,by decide,(r2 hd).2,(r2 hd).1⟩
 ·rintro ρ s ⟨rfl,r,c,rfl,hr,n1,n2⟩;refine⟨trivial,?_⟩;walk_at "WP";refine .inl (k true fun _=>?_);have:(tl z).take (dU z).length=tl z:=by unfold dU;rw[O1,RG]
  rw[this] at n1;exact n1
theorem CD (w:Str){X:List Str}(h:X≠[]):(Txt.join w X).length+w.length=(X.map Str.length).sum+X.length*w.length:=by have:=yr (s:=tl w) (ps:=X.map tl) (fun e=>h (List.map_eq_nil_iff.mp e));rw[<-u6,<-aq,<-aq,RA,O1] at this;rw[lE,this,show X.map Str.length=X.map (List.length ∘ tl) from List.map_congr_left fun p _=>aq p]
theorem pY {as st Q}(h:bK as st Q):aG Γ dM (frame 7 as) st (ag st Q):=by
 obtain⟨p,z,rfl,h1,h2,k⟩:=h;unfold dM;walk_at "WP";refine⟨p,_,rfl,h1,by decide,by decide,fun x s1 x0 x1 g1=>⟨x,rfl,_,ay au,_,ai (eH (k:=1)),?_⟩⟩;generalize hS:s1++[Cell.lst [PV.str (Str.ofString "; "),PV.str (Str.ofString " ")],Cell.lst (jc [PV.str (Str.ofString "; "),PV.str (Str.ofString " ")] none (some x))]=S;have gS:Gr st p S:=by rw[<-hS];exact g1.app
 have hn:s1.length+1<S.length:=by rw[<-hS];simp
 have hnp:s1.length+1≠p:=by have:=g1.pot.lt;omega
 refine en Γm (fun i ρ s=>Gr S p s/\∃(z':Str) (a b c d e:Option PV),ρ=[some (.ref p),some (.str z'),a,b,c,d,e]/\z'.length=z.length) ⟨.refl gS.pot,z,_,_,_,_,_,rfl,rfl⟩ (fun i v ρ s hi hI=>?_) ?_
 ·obtain⟨gs,z',a,b,c,d,e,rfl,hz⟩:=hI;obtain ⟨w,rfl,hw⟩:∃w:Str,v=.str w/\(w=Str.ofString "; "\/w=Str.ofString " "):=by
   have:=Ej (OZ hi);simp only[List.mem_cons,List.not_mem_nil,or_false] at this;rcases this with rfl|rfl
   ·exact⟨_,rfl,.inl rfl⟩
   ·exact⟨_,rfl,.inr rfl⟩
  have hwl:1<=w.length/\w.length<=2:=by
   rcases hw with rfl|rfl
   ·exact⟨by decide,by decide⟩
   ·exact⟨by decide,by decide⟩
  refine⟨gs.old _ hn hnp,?_⟩;have hm:=du (z:=z') (y:=w) hwl.1;have hm1:(Txt.split z' w).length<=1001+w.length:=O7 (O7 (Nat.le_mul_of_pos_right _ hwl.1) hm) (by omega);have hne:=List.length_pos_iff.mpr (mi z' w);walk_at "WP";have hPl:=nZ z' w;have hin:∀y∈Txt.split z' w,y.length<=1000:=fun y hy=>O7 (ik hy) (by omega);generalize Txt.split z' w=P at hm1 hne hPl hin;have big:((List.map PV.str P).length:Int)<2 ^ 200:=by rw[O1];omega
  refine⟨hwl.1,by omega,by omega,_,ai au,p,_,rfl,gs.pot.app,by rw[O1];omega,big,fun x s2 x0 x1 g2=>?_⟩;have c2:=g2.get au gs.ne;refine⟨⟨_,ay c2⟩,_,ai c2,p,_,rfl,g2.pot,by rw[O1];omega,big,fun y s3 y0 y1 g3=>?_⟩;have c3:=g3.get c2 gs.ne;rw[O1] at x1 y1;obtain⟨j,rfl⟩:∃j:Nat,x=j:=⟨x.toNat,by omega⟩;obtain⟨m,rfl⟩:∃m:Nat,y=m:=⟨y.toNat,by omega⟩;have jl:j<P.length:=by omega
  have el:=List.length_eraseIdx_of_lt jl;have e1:(List.map PV.str P).eraseIdx j=(P.eraseIdx j).map PV.str:=by rw[QD,QD,Q8,List.map_take,TV]
  refine⟨⟨_,ay c3⟩,_,.str P[j],c3,by omega,by omega,by rw[Q9,PC,O6 jl];rfl,?_⟩;rw[Q9,e1];refine⟨_,P0 (eh c3),by rw[O1];omega,by omega,by rw[O1];omega,?_⟩;rw[Q9];have pm:((P.eraseIdx j).take m++P[j]::(P.eraseIdx j).drop m).Perm P:=by refine List.perm_middle.trans ?_;rw[RR];rw[QD];refine List.perm_middle.symm.trans ?_;rw[<-QT jl,RR]
  refine⟨(P.eraseIdx j).take m++P[j]::(P.eraseIdx j).drop m,?_,?_,?_,?_⟩
  ·refine ay ?_;rw[P0 (by rw[SU];exact eh c3),Q8,O8,List.map_take,TV]
  ·refine jZ (B:=1000) (fun y hy=>hin y (pm.mem_iff.mp hy)) ?_;rw[pm.length_eq];have:P.length*w.length<=P.length*2:=Nat.mul_le_mul_left _ hwl.2;omega
  ·exact(((gs.app (g:=[.lst (P.map PV.str)])).trans g2).trans g3 |>.setN gs.len).setN gs.len
  ·have:=CD w (X:=(P.eraseIdx j).take m++P[j]::(P.eraseIdx j).drop m) (by simp);rw[(pm.map Str.length).sum_nat,pm.length_eq] at this;omega
 ·rintro ρ s ⟨gs,z',a,b,c,d,e,rfl,hz⟩;refine⟨gs.old _ hn hnp,?_⟩;walk_at "WP";refine⟨p,_,rfl,gs.pot,by decide,by decide,fun x s2 x0 x1 g2=>⟨x,rfl,by omega,by omega,?_⟩⟩;have e4:(bY 0 x.toNat).length<=3:=by rw[bY,O1,List.length_range];omega
  refine en Γm (fun i ρ s=>Gr S p s/\∃(z':Str) (a b c d e:Option PV),ρ=[some (.ref p),some (.str z'),a,b,c,d,e]/\z'.length<=z.length+i) ⟨gs.trans g2,z',_,_,_,_,_,rfl,by omega⟩ (fun i v ρ s hi hI=>?_) ?_
  ·obtain⟨gs,z',a,b,c,d,e,rfl,hz⟩:=hI;have hi:=(OT.mp hi).1;refine⟨trivial,?_⟩;walk_at "WP";exact⟨p,z',rfl,gs.pot,by omega,fun z2 s3 hz2 g3=>⟨gs.trans g3,z2,rfl,by omega⟩⟩
  ·rintro ρ s ⟨gs,z',a,b,c,d,e,rfl,hz⟩;refine⟨trivial,?_⟩;walk_at "WP";exact .inl (k _ _ (by omega) (gS.trans gs))
def Pr (a b:Nat)(l:List Nat):Prop:=∃i,l[i]?=some a/\l[i+1]?=some b
theorem Pr.jn {a b:Nat}{s:List Nat}(hs:s≠[])(ha:a ∉ s)(hb:b ∉ s):∀ {ps:List (List Nat)},Pr a b (My.jn s ps)->∃p∈ps,Pr a b p
 | [],⟨i,h,_⟩=>by rw[My.jn] at h;cases h
 | [x],h=>⟨x,PM.mpr rfl,h⟩
 | x::y::r,⟨i,h1,h2⟩=>by
  rw[My.jn] at h1 h2;by_cases c1:i+1<x.length
  ·rw[O_ (by omega)] at h1 h2;exact⟨x,PD,i,h1,h2⟩
  ·rw[PB (by omega)] at h2;have sp:0<s.length:=List.length_pos_iff.mpr hs;by_cases c2:i+1-x.length<s.length
   ·rw[O_ c2] at h2;exact absurd (OZ h2) hb
   ·rw[PB (by omega)] at h1;by_cases c3:i-x.length<s.length
    ·rw[O_ c3] at h1;exact absurd (OZ h1) ha
    ·rw[PB (by omega)] at h1 h2;obtain⟨p,hp,h⟩:=Pr.jn hs ha hb (ps:=y::r) ⟨i-x.length-s.length,h1,by rw[show i-x.length-s.length+1=i+1-x.length-s.length by omega];exact h2⟩;exact⟨p,OV _ hp,h⟩
theorem nC {α β:Type}{f:α->Option β}:∀ {ws:List α}{l:List β},bQ (ws.map f)=some l->∀w∈ws,f w≠none
 | [],_,_,w,hw=>nomatch hw
 | v::ws,l,e,w,hw=>by
  rw[O8] at e;cases hv:f v with
  | none=>rw[hv] at e;cases e
  | some y =>
   rw[hv] at e;obtain⟨l',e1,_⟩:=P1.mp (show (bQ (ws.map f)).map (y::·)=some l from e);rcases PQ.mp hw with rfl|hw
   ·rw[hv];exact fun z=>nomatch z
   ·exact nC e1 w hw
theorem Fs (h:rdW w≠none):bN w=true\/∃a b,w=a++("/":Str)++b/\bN a=true/\bN b=true/\2<=aN b:=by
 by_cases hl:2<(Txt.split w "/").length
 ·exact absurd (xa hl) h
 cases e:Txt.split w "/" with
 | nil=>exact absurd e (mi w "/")
 | cons a r =>
  cases r with
  | nil =>
   obtain⟨rfl,hr⟩:=zg e;by_cases q:bN a=true
   ·exact .inl q
   ·rw[hr,OY q] at h;exact absurd rfl h
  | cons b r =>
   cases r with
   | nil =>
    obtain⟨ez,hr⟩:=zE e;by_cases q:bN a=true/\bN b=true/\2<=aN b/\Nat.gcd (aN a) (aN b)=1
    ·exact .inr ⟨a,b,ez,q.1,q.2.1,q.2.2.1⟩
    ·rw[hr,OY q] at h;exact absurd rfl h
   | cons c r=>rw[e] at hl;simp at hl
theorem q8 (h:rdW w≠none):120 ∉ tl w/\¬Pr 47 48 (tl w):=by
 have nt120:∀ {z:Str},bN z=true->120 ∉ tl z:=fun h m=>by have:=(ju h).1 120 m;omega
 rcases Fs h with h|⟨a,b,e,ha,hb,h2⟩
 ·exact⟨nt120 h,fun ⟨i,h1,_⟩=>uu h (OZ h1)⟩
 ·have et:tl w=tl a++(47::tl b):=by rw[e];show (a++("/":Str)++b).cps.toList=_;rw[aY,aY,PY];rfl
  rw[et];refine⟨fun m=>?_,fun ⟨i,h1,h3⟩=>?_⟩
  ·rcases P7.mp m with m|m
   ·exact nt120 ha m
   ·rcases PQ.mp m with m|m
    ·cases m
    ·exact nt120 hb m
  ·by_cases c1:i<(tl a).length
   ·rw[O_ c1] at h1;exact uu ha (OZ h1)
   ·rw[PB (by omega)] at h1 h3;by_cases c2:i=(tl a).length
    ·subst c2;rw[show (tl a).length+1-(tl a).length=1 by omega] at h3;have hh:b.cps.toList.head?=some 48:=by rw[List.head?_eq_getElem?];exact h3
     unfold bN at hb;rw[hh,OU,QY] at hb;rcases hb.2 with h|h
     ·have:=P2 h;rw[this] at h2;exact absurd h2 (by decide)
     ·exact absurd h (by decide)
    ·obtain⟨j,hj⟩:∃j,i-(tl a).length=j+1:=⟨i-(tl a).length-1,by omega⟩;rw[hj,SB] at h1;exact uu hb (OZ h1)
theorem qB (h:rdL z=some L):120 ∉ tl z/\¬Pr 47 48 (tl z):=by
 have h1:=nC (show bQ ((Txt.split z "; ").map rdP)=some L from h);have h2:∀p∈Txt.split z "; ",∀w∈Txt.split p " ",rdW w≠none:=fun p hp w hw=>by
  cases e:rdP p with
  | none=>exact absurd e (h1 p hp)
  | some l=>exact nC (show bQ ((Txt.split p " ").map rdW)=some l from e) w hw
 refine⟨fun m=>?_,fun m=>?_⟩
 ·rw [fZ z "; "] at m;rcases xW m with m|⟨x,hx,m⟩
  ·exact absurd m (by decide)
  ·obtain⟨p,hp,rfl⟩:=O9.mp hx;rw [fZ p " "] at m;rcases xW m with m|⟨x,hx,m⟩
   ·exact absurd m (by decide)
   ·obtain⟨w,hw,rfl⟩:=O9.mp hx;exact(q8 (h2 p hp w hw)).1 m
 ·rw [fZ z "; "] at m;obtain⟨x,hx,m⟩:=Pr.jn (by decide) (by decide) (by decide) m;obtain⟨p,hp,rfl⟩:=O9.mp hx;rw [fZ p " "] at m;obtain⟨x,hx,m⟩:=Pr.jn (by decide) (by decide) (by decide) m;obtain⟨w,hw,rfl⟩:=O9.mp hx;exact(q8 (h2 p hp w hw)).2 m
noncomputable def GL:List Str:=["","Never","never "," never","0 0","0 0 0 0","0 0 0;","0 0 0; ","; 0 0 0","0  0 0","1 0 0","1 2 1","00 0 0","1/1 1 1","2/4 1 1","1 1/0 1","0 0 1","1 0 1;2 1 3","1 0 1; 2 1 2","2 2 3; 1 3 3","1 1 1; 2 0 2","-1 0 0","1 0 1; 1 1 1","0 1 1; 1 1 2","1\n1 1","never; 0 0 0","0/1 0 0","1. 1 1"]
noncomputable def badT:List Str:=GL++[("0 0 ":Str)++kT "7" 4000++("x":Str),("0 0 0; ":Str)++kT "1" 4000++("/0 1 1":Str)]
noncomputable abbrev w3 (a b c:Nat):List (Nat × Nat):=[(a,1),(b,1),(c,1)]
noncomputable def badL:List (List (List (Nat × Nat))):=[[[(0,1),(0,1)]],[[(0,1),(0,1),(0,1),(0,1)]],[w3 1 0 0],[w3 1 2 1],[w3 0 0 1],[w3 1 0 1,w3 2 1 2],[w3 2 2 3,w3 1 3 3],[w3 1 1 1,w3 2 0 2],[w3 1 0 1,w3 1 1 1],[w3 0 1 1,w3 1 1 2]]
theorem FH:∀t∈GL,rdL t=none\/rdL t∈badL.map some:=by decide +kernel
theorem DG:∀t∈GL,t.length<=5000/\t≠"never":=by decide +kernel
theorem Fb:∀L∈badL,smV (lV L)=true:=by decide +kernel
open Classical in
theorem Df (h:stB L=true):NG (0,1) L:=by unfold stB at h;exact P2 h
theorem n_ (h:fR v=some P)(hn:¬(RtF P/\NG (0,1) P)):ir v=false:=by
 unfold ir;rw[h];show (hV P && stB P)=false;cases hb:hV P with
 | false=>rfl
 | true =>
  cases hs:stB P with
  | false=>rfl
  | true=>exact absurd ⟨mY hb,Df hs⟩ hn
theorem FR:∀L∈badL,ir (lV L)=false:=by
 intro L hL;simp only[badL,List.mem_cons,List.not_mem_nil,or_false] at hL;rcases hL with rfl|rfl|rfl|rfl|rfl|rfl|rfl|rfl|rfl|rfl
 ·rfl
 ·rfl
 ·exact n_ (P:=[⟨(1,1),(0,1),(0,1)⟩]) rfl fun h=>absurd h.1.2.2.1 (by decide +kernel)
 ·exact n_ (P:=[⟨(1,1),(2,1),(1,1)⟩]) rfl fun h=>absurd h.1.2.1 (by decide +kernel)
 ·exact n_ (P:=[⟨(0,1),(0,1),(1,1)⟩]) rfl fun h=>absurd h.1.2.2.2.1 (by decide +kernel)
 ·exact n_ (P:=[⟨(1,1),(0,1),(1,1)⟩,⟨(2,1),(1,1),(2,1)⟩]) rfl fun h=>absurd h.2.1 (by decide +kernel)
 ·exact n_ (P:=[⟨(2,1),(2,1),(3,1)⟩,⟨(1,1),(3,1),(3,1)⟩]) rfl fun h=>absurd h.1.2.2.2.2.2.1 (by decide +kernel)
 ·exact n_ (P:=[⟨(1,1),(1,1),(1,1)⟩,⟨(2,1),(0,1),(2,1)⟩]) rfl fun h=>absurd h.1.2.2.2.2.2.2.1 (by decide +kernel)
 ·exact n_ (P:=[⟨(1,1),(0,1),(1,1)⟩,⟨(1,1),(1,1),(1,1)⟩]) rfl fun h=>absurd h.1.2.2.2.2.2.1 (by decide +kernel)
 ·exact n_ (P:=[⟨(0,1),(1,1),(1,1)⟩,⟨(1,1),(1,1),(2,1)⟩]) rfl fun h=>absurd h.2.1 (by decide +kernel)
theorem JN:∀t∈badT,t.length<=5000/\(∀L,rdL t=some L->VSz (lV L))/\rdS (.str t)=none:=by
 intro t ht;rcases P7.mp ht with ht|ht
 ·obtain⟨h1,h2⟩:=DG t ht;have h2:¬t="never":=h2;rw[rdS,OY h2];rcases FH t ht with h|h
  ·rw[h];exact⟨h1,⟨fun L (e:none=some L)=>(nomatch e),rfl⟩⟩
  ·obtain⟨L,hL,e⟩:=O9.mp h;rw[<-e];refine⟨h1,fun M eM=>?_,?_⟩
   ·cases eM;exact Hg (Fb L hL)
   ·show (if ir (lV L)=true then some (lV L) else none)=none;rw[FR L hL];rfl
 ·have key:∀z:Str,rdL z=none->z≠"never"->(∀L,rdL z=some L->VSz (lV L))/\rdS (.str z)=none:=fun z h h2=>by have h2:¬z="never":=h2;rw[rdS,OY h2,h];exact⟨fun L (e:none=some L)=>(nomatch e),rfl⟩
  have r7:(kT (Str.ofString "7") 4000).length=4000:=by rw [k8];rfl
  have r1:(kT (Str.ofString "1") 4000).length=4000:=by rw [k8];rfl
  have len_ne:∀z:Str,1000<z.length->z≠"never":=fun z h e=>by rw [e] at h;exact absurd h (by decide)
  have no:∀z:Str,(120∈tl z\/Pr 47 48 (tl z))->rdL z=none:=fun z h=>by
   cases e:rdL z with
   | none=>rfl
   | some L =>
    rcases h with h|h
    ·exact absurd h (qB e).1
    ·exact absurd h (qB e).2
  simp only[List.mem_cons,List.not_mem_nil,or_false] at ht;rcases ht with rfl|rfl
  ·have hl:(("0 0 ":Str)++kT "7" 4000++("x":Str)).length=4005:=by rw [dJ,dJ,r7];rfl
   refine⟨by omega,key _ (no _ (.inl ?_)) (len_ne _ (by omega))⟩;show 120∈(_++("x":Str)).cps.toList;rw[aY];exact PP _ (by decide)
  ·have hl:(("0 0 0; ":Str)++kT "1" 4000++("/0 1 1":Str)).length=4013:=by rw [dJ,dJ,r1];rfl
   have hl2:(("0 0 0; ":Str)++kT "1" 4000).cps.toList.length=4007:=by rw [<-aq,dJ,r1];rfl
   refine⟨by omega,key _ (no _ (.inr ⟨4007,?_,?_⟩)) (len_ne _ (by omega))⟩
   ·show (_++("/0 1 1":Str)).cps.toList[4007]?=_;rw[aY,PB (by omega),hl2];rfl
   ·show (_++("/0 1 1":Str)).cps.toList[4007+1]?=_;rw[aY,PB (by omega),hl2];rfl
theorem Fm (h:rdS x=some v):aW 4 v=true:=by
 cases x with
 | str z =>
  rw[rdS] at h;split at h
  ·cases h;rfl
  ·split at h
   ·split at h
    ·cases h;refine nQ fun v hv=>?_;obtain⟨l,_,rfl⟩:=O9.mp hv;refine nQ fun v hv=>?_;obtain⟨p,_,rfl⟩:=O9.mp hv;rfl
    ·cases h
   ·cases h
 | _=>cases h
theorem qC {k:Bool->Prop}(h:k true):eqW st (oy (rdS x)) (oy (rdS x)) k:=by
 cases e:rdS x with
 | none=>exact ⟨.tuple [.str "none"],.tuple [.str "none"],by simp [oy,lP,PV.toD,PV.toDs],by simp [oy,lP,PV.toD,PV.toDs],by decide +kernel,by decide +kernel,by rw [show PyData.eqv (.tuple [.str "none"]) (.tuple [.str "none"])=true from by decide +kernel];exact h⟩
 | some v =>
  have hd:=Fm e;obtain⟨d,h1,h2,h3⟩:=iu hd;have sh:SeqAt.shaped (.tuple [.str "told",d])=true:=by
   unfold SeqAt.shaped;rw[OU,decide_eq_true_eq];refine⟨?_,?_⟩
   ·simp only[PyData.canLay0,PyData.canLayAll0,h2,Bool.and_true];decide +kernel
   ·simp only[PyData.depth,PyData.depthAll];omega
  have dp:lP st (oy (some v))=some (.tuple [.str "told",d]):=qh (by simp [oy,PV.toD,PV.toDs,h1]);refine ⟨.tuple [.str "told",d],.tuple [.str "told",d],dp,dp,sh,sh,?_⟩;rw [show PyData.eqv (.tuple [.str "told",d]) (.tuple [.str "told",d])=true from SeqAt.eqv_refl _ (SeqAt.canLay_of_shaped sh)];exact h
structure Kp (S s:AH):Prop where
 len:S.length<=s.length
 old:∀i,i<S.length->s[i]?=S[i]?
theorem Kp.app {S g:AH}(h:Kp S s):Kp S (s++g):=⟨by rw[PL];exact O7 h.len (Q1 _ _),fun i hi=>by rw[O_ (OW hi h.len)];exact h.old i hi⟩
theorem Kp.gr {S:AH}{p:Nat}(h:Kp S s)(g:Gr s p s')(hp:S.length<=p):Kp S s':=⟨O7 h.len g.len,fun i hi=>(g.old i (OW hi h.len) (by omega)).trans (h.old i hi)⟩
theorem Kp.get {S:AH}(h:Kp S s){n:Nat}(e:S[n]?=some c):s[n]?=some c:=(h.old n (eh e)).trans e
mutual
theorem Da:∀ {x:PV}{n m:Nat},x.bel n=true->n<=m->x.bel m=true
 | .non,_,_,_,_=>rfl
 | .bl _,_,_,_,_=>rfl
 | .int _,_,_,_,_=>rfl
 | .str _,_,_,_,_=>rfl
 | .rdl xs,n,m,h,hm=>by rw[PV.bel] at h |-;exact uf h hm
 | .tup xs,n,m,h,hm=>by rw[PV.bel] at h |-;exact uf h hm
 | .ref k,n,m,h,hm=>by rw[PV.bel] at h |-;exact PJ (OW (P2 h) hm)
 | .fn k,n,m,h,hm=>by rw[PV.bel] at h;cases h
theorem uf:∀ {xs:List PV}{n m:Nat},PV.bels n xs=true->n<=m->PV.bels m xs=true
 | [],_,_,_,_=>by rw[PV.bels]
 | x::xs,n,m,h,hm=>by
  rw[PV.bels,OU] at h |-
  exact⟨Da h.1 hm,uf h.2 hm⟩
end
theorem zX {D:aK}{st:AH}(h:∀S,S=st->Fh Γ t b chk D xs ρ S):Fh Γ t b chk D xs ρ st:=h st rfl
theorem K0 {as st Q}(h:km as st Q):aG Γ pS (frame 8 as) st (ag st Q):=by
 obtain⟨ns,rfl,hl,k⟩:=h;unfold pS;walk_at "WP";have l1:(Str.ofString "0 0 ").length=4:=rfl;have l2:(Str.ofString "0 0 0; ").length=7:=rfl;have l3:(Str.ofString "/0 1 1").length=6:=rfl;have l4:(Str.ofString "7").length=1:=rfl;have l5:(Str.ofString "1").length=1:=rfl;have l6:(Str.ofString "x").length=1:=rfl;have r7:(kT (Str.ofString "7") 4000).length=4000:=by rw [k8];rfl
 have r1:(kT (Str.ofString "1") 4000).length=4000:=by rw [k8];rfl
 refine⟨by omega,by omega,by omega,by rw[dJ];omega,by omega,by omega,by omega,by rw[dJ];omega,by split <;> split <;> omega,by split <;> split <;> omega,?_⟩;refine zX fun S hS=>?_;obtain⟨OD,e1,e2,hO,hn⟩:∃OD,S[st.length+3]?=some (.lst OD)/\S[st.length+12]?=some (.lst (badT.map PV.str))/\(OD.length=10)/\∀x∈OD,x.bel S.length=true/\∀z,x≠.str z:=by
  subst hS;refine⟨_,by simp only[List.getElem?_append_right (Nat.le_add_right ..),Nat.add_sub_cancel_left];rfl,by simp only[List.getElem?_append_right (Nat.le_add_right ..),Nat.add_sub_cancel_left];rfl,rfl,fun x hx=>?_⟩;rw[PL];have e7:∀j,j<13->PV.bel (st.length+13) (.ref (st.length+j))=true:=fun j hj=>by rw[PV.bel];exact PJ (Nat.add_lt_add_left hj _)
  simp only[List.mem_cons,List.not_mem_nil,or_false] at hx;rcases hx with rfl|rfl|rfl|rfl|rfl|rfl|rfl|rfl|rfl|rfl
  all_goals first
   | exact⟨e7 0 (by decide),fun z e=>nomatch e⟩
   | exact⟨e7 1 (by decide),fun z e=>nomatch e⟩
   | exact⟨e7 2 (by decide),fun z e=>nomatch e⟩
   | exact⟨by rfl,fun z e=>nomatch e⟩
   | exact⟨by simp[PV.bel,PV.bels],fun z e=>nomatch e⟩
 clear hS;refine en Γm (fun i ρ s=>Kp S s/\∃a b c d e,ρ=[some (.rdl (ns.map PV.int)),some (.ref (st.length+3)),some (.ref (st.length+12)),a,b,c,d,e]) ⟨⟨OX _,fun _ _=>rfl⟩,none,none,none,none,none,rfl⟩ (fun i v ρ s hi hI=>?_) ?_
 ·obtain⟨hp,a,b,c,d,e,rfl⟩:=hI;refine⟨trivial,?_⟩;walk_at "WP";have hi4:i<9:=by have:=(OT.mp hi).1;simp only[bY,List.length_map,List.length_range] at this;revert this;split <;> split <;> omega
  have hv:v=.int (i:Nat):=by unfold bY at hi;obtain⟨m,hm,e⟩:=P1.mp ((PC ..).symm.trans hi);obtain⟨h1,h2⟩:=OT.mp hm;rw[List.getElem_range] at h2;subst h2;rw[<-e];simp
  subst hv;refine⟨ns,i,rfl,hl,hi4,fun p s1 ⟨g,hg⟩ pl hpt=>?_⟩;subst hg;have hp:Kp S (s++g):=hp.app;have hSp:S.length<=p:=O7 (by assumption:Kp S s).len pl;refine⟨p,12,rfl,hpt,by decide,fun n U s2 g2 nl hU _ lu bd=>?_⟩;have hp:=hp.gr g2 hSp;refine⟨p,rfl,g2.pot,fun d s3 d0 d1 g3=>?_⟩;have hp:=hp.gr g3 hSp;have np:n≠p:=by have:=hpt.lt;omega
  refine⟨.ref n,d,U,rfl,ai (g3.get hU np),.inr ⟨n,rfl⟩,d0,d1,by omega,_,rfl,by rw[O1];exact lu,fun q hq=>?_,fun z hz=>?_⟩
  ·obtain⟨u,hu,rfl⟩:=O9.mp hq;obtain⟨b1,b2,b3⟩:=bd u hu;have a1:=ly u.1 d;have a2:=ly u.2.1 d;have a3:=ly u.2.2 d;have c1:=mC u.1 d;have c2:=mC u.2.1 d;have c3:=mC u.2.2 d;exact⟨⟨by show (bV u.1 d).1<_;omega,by show (bV u.1 d).2<_;omega⟩,⟨by show (bV u.2.1 d).1<_;omega,by show (bV u.2.1 d).2<_;omega⟩,by show (bV u.2.2 d).1<_;omega,by show (bV u.2.2 d).2<_;omega⟩
  refine en Γm (fun j ρ s'=>Kp S s'/\Pot s' p/\∃a b c,ρ=[some (.rdl (ns.map PV.int)),some (.ref (st.length+3)),some (.ref (st.length+12)),c,some (.ref p),some (.str z),a,b]) ⟨hp,g3.pot,_,_,_,rfl⟩ (fun j v ρ s4 hj hI=>?_) ?_
  ·obtain⟨hp,hpt,a,b,c,rfl⟩:=hI;refine⟨trivial,?_⟩;walk_at "WP";refine⟨p,z,rfl,hpt,hz,fun z2 s5 hz2 g5=>⟨z2,rfl,hz2,fun b hb=>?_⟩⟩;have hp:=hp.gr g5 hSp;have hpt:=g5.pot;cases b with
   | false =>walk_at "WP";exact⟨hp,hpt⟩
   | true =>
    have ha:=hb rfl;walk_at "WP";refine⟨.str z2,rfl,⟨⟨rfl,fun z' e=>by cases e;omega⟩,fun z' e L hL=>?_⟩,z2,rfl,hz2,ha,qC ?_⟩
    ·cases e;have:=qV hz2 ha;rw[qq hL] at this;exact this
    ·walk_at "WP";exact⟨hp,hpt⟩
  ·rintro ρ s4 ⟨hp,hpt,a,b,c,rfl⟩;refine⟨trivial,?_⟩;walk_at "WP";refine⟨OD,ai (hp.get e1),p,_,rfl,hpt,by omega,by omega,fun x s5 x0 x1 g5=>?_⟩;have hp:=hp.gr g5 hSp;obtain⟨m,rfl⟩:∃m:Nat,x=m:=⟨x.toNat,by omega⟩;have hm:m<OD.length:=by omega
   refine⟨OD,ai (hp.get e1),OD[m],cB (O6 hm),?_⟩;obtain⟨b1,b2⟩:=hn OD[m] (TJ hm);have hr:rdS OD[m]=none:=by
    generalize OD[m]=x at b2;cases x with
    | str z=>exact absurd rfl (b2 z)
    | _=>rfl
   refine⟨OD[m],rfl,⟨⟨Da b1 hp.len,fun z e=>absurd e (b2 z)⟩,fun z e=>absurd e (b2 z)⟩,?_⟩;have:=qC (st:=s5) (x:=OD[m]) (k:=fun k=>if k=false then Ret st Q (PV.bl false) s5 else Kp S s5) (by rw[OY (by decide)];exact hp);rw[hr] at this |-
   exact this
 ·rintro ρ s ⟨hp,a,b,c,d,e,rfl⟩;refine⟨trivial,?_⟩;walk_at "WP";refine⟨_,ai (hp.get e2),by show 30<100000;decide,?_⟩;refine FW.comp_map Γm (fun _=>.bl true) (by rw[fU]) (fun x hx=>?_) ?_
  ·obtain⟨t,ht,rfl⟩:=O9.mp hx;obtain⟨b1,b2,b3⟩:=JN t ht;walk_at "WP";refine⟨.str t,rfl,⟨⟨rfl,fun z e=>by cases e;exact b1⟩,fun z e=>by cases e;exact b2⟩,?_⟩;have:=qC (st:=s) (x:=.str t) (k:=fun k=>k=true/\s=s) ⟨rfl,rfl⟩;rw[b3] at this |-
   exact this
  ·refine⟨_,ay au,_,cN (f:=fun _=>true),.app rfl ?_⟩;rw[Ca];exact .inl (k _)
local macro_rules | `(tactic| walk_at "AR")=>`(tactic| first|exact fun _ _ _ _ _ _ us hl=>ar1 (P:=fun us=>bindArgs _ { pos:=us }=pure (List.zip _ us)) (fun _=>rfl) us hl|exact fun _ _ _ _ _ _ us hl=>ar2 (P:=fun us=>bindArgs _ { pos:=us }=pure (List.zip _ us)) (fun _ _=>rfl) us hl|exact fun _ _ _ _ _ _ us hl=>ar3 (P:=fun us=>bindArgs _ { pos:=us }=pure (List.zip _ us)) (fun _ _ _=>rfl) us hl|exact fun _ _ _ _ _ _ us hl=>ar4 (P:=fun us=>bindArgs _ { pos:=us }=pure (List.zip _ us)) (fun _ _ _ _=>rfl) us hl|exact fun _ _ _ _ _ _ us hl=>ar5 (P:=fun us=>bindArgs _ { pos:=us }=pure (List.zip _ us)) (fun _ _ _ _ _=>rfl) us hl)
abbrev zn (K:W.Frag)(n:Str):Prop:=W.nsIn K mainGlobals n=some none
theorem all_mk {l:W.OpenLaw}{K:W.Frag}(X:K.In h)(G:h.Ns mainGlobals mg)(hfa:mg "law"=some (.ref fa)){gn3:Nat}(d0:DI K "is_whole" iF)(d1:DI K "common_divisor" cF)(d2:DI K "is_fraction" eI)(d3:DI K "fraction" iG)(d4:DI K "less" uT)(d5:DI K "times" pE)(d6:DI K "is_below" iW)(d7:DI K "is_number_text" cJ)(d8:DI K "read_number" eE)(d9:DI K "read_fraction" c_)(d10:DI K "is_piece" iM)(d11:DI K "is_right_alone" cP)(d12:DI K "is_right_first" cQ)(d13:DI K "is_right_behind" cm)(d14:DI K "is_row" mr)(d15:DI K "goes_on" jJ)(d16:DI K "lean" ur)(d17:DI K "is_stair" iK)(d18:DI K "read_piece" fG)(d19:DI K "read_stair" fi)(d20:DI K "_law_pot" iH)(d21:DI K "_law_digit" fE)(d22:DI K "_law_low" iL)(d23:DI K "_law_less" gz)(d24:DI K "_law_over" gA)(d25:DI K "_law_ahead" fh)(d26:DI K "_law_step" gF)(d27:DI K "_law_going_on" c9)(d28:DI K "_law_units" fq)(d29:DI K "_law_bottom" eF)(d30:DI K "_law_row" iY)(d31:DI K "_law_is_whole" cZ)(d32:DI K "_law_is_moment" cI)(d33:DI K "_law_is_right" c8)(d34:DI K "_law_is_row" eG)(d35:DI K "_law_is_lean" dD)(d36:DI K "_law_moment_text" b7)(d37:DI K "_law_text" gu)(d38:DI K "_law_moment" eJ)(d39:DI K "_law_stair" fH)(d40:DI K "_law_one_sign" de)(d41:DI K "_law_altered" dO)(d42:DI K "_law_is_asked" cY)(d43:DI K "_law_told" gy)(d44:DI K "_law_due" iV)(d45:DI K "law" oD)(z0:zn K "isinstance")(z1:zn K "bool")(z2:zn K "int")(z3:zn K "len")(z4:zn K "tuple")(z5:zn K "all")(z6:zn K "range")(z7:zn K "str")(z8:zn K "zip")(z9:zn K "abs")(z10:zn K "divmod")(z11:zn K "max")(z12:zn K "enumerate")(z13:zn K "ValueError")(z14:zn K "min")(tz0:zn K "coming")(tz1:zn K "latest")(tz2:zn K "through")(y0:CI K "HourError" C0)(y1:CI K "NoText" C1)(y2:CI K "NoDay" C2)(y3:CI K "NoTie" C3)(y4:CI K "NotRight" C4)(y5:CI K "Overtaken" C5)(ex0:W.excIn K C0 i6 "ValueError.__new__"=true)(ex1:W.excIn K C1 i6 "ValueError.__new__"=true)(xv0:W.mroIn K C1 (.type "ValueError")=some true)(rl_0_0:W.mroIn K C1 (.ref C0)=some true)(rl_0_1:W.mroIn K C1 (.ref C1)=some true)(rl_0_2:W.mroIn K C1 (.ref C2)=some false)(ne_0_2:C1≠C2)(rl_0_3:W.mroIn K C1 (.ref C3)=some false)(ne_0_3:C1≠C3)(rl_0_4:W.mroIn K C1 (.ref C4)=some false)(ne_0_4:C1≠C4)(rl_0_5:W.mroIn K C1 (.ref C5)=some false)(ne_0_5:C1≠C5)(ga0_:W.nsIn K mainGlobals "FIGURES"=some (some (.str "0123456789" tg0)))(ga1_:W.nsIn K mainGlobals "BLOCK_FIGURES"=some (some (.int 64 tg1)))(ga2_:W.nsIn K mainGlobals "BLOCK"=some (some (.int 10000000000000000000000000000000000000000000000000000000000000000 tg2)))(ga3_:W.nsIn K mainGlobals "NOUGHT"=some (some (.ref ga3)))(gl3_:K.lookup ga3=some ⟨.type "tuple",gd3,.seq #[.int 0 t3_0,.int 1 t3_1] gn3,gs3⟩)(ga4_:W.nsIn K mainGlobals "NEVER_TEXT"=some (some (.str "never" tg4)))
  : ∃fd:FuncData,(∀(s:Shared) (v:Value),BindsTo s fd ⟨[v],[]⟩ [("_law_script",v)])/\Fw K/\(∀x∈bM,W.tabIn K x=none\/∃d,(PyProof.Rows.recsOf q).find? (fun e=>e.name == x)=some d)/\∀base:Heap,K.In base->base.Ns mainGlobals mg->pH K mg base->pd l.prog w K mg base CX0 46 fa fd ["_law_script"] (dP K km):=by
 obtain⟨f,oc,od,kV,dc,pm,an,cd,ct,sl,aL,lL,cL,kL⟩:=d45;have e:=hfa.symm.trans (RY X G aL);cases e;have hb:∀x∈HV,mg x=none:=by
  intro x hx;simp only[HV,List.mem_cons,List.not_mem_nil,or_false] at hx;rcases hx with rfl|rfl|rfl|rfl|rfl|rfl|rfl|rfl|rfl|rfl|rfl|rfl|rfl|rfl|rfl
  ·exact QB X G z0
  ·exact QB X G z1
  ·exact QB X G z2
  ·exact QB X G z3
  ·exact QB X G z4
  ·exact QB X G z5
  ·exact QB X G z6
  ·exact QB X G z7
  ·exact QB X G z8
  ·exact QB X G z9
  ·exact QB X G z10
  ·exact QB X G z11
  ·exact QB X G z12
  ·exact QB X G z13
  ·exact QB X G z14
 have hgl:∀x v,glL.lookup x=some v->∃u y,mg x=some u/\RelV y u/\∀m H,R K m H v y:=by
  intro x v hx;by_cases q0:x=("FIGURES":Str)
  ·subst q0;have e:v=iQ:=by have:glL.lookup ("FIGURES":Str)=some iQ:=rfl;rw[this] at hx;cases hx;rfl
   subst e;exact ⟨_,.str "0123456789",RY X G ga0_,⟨tg0,rfl⟩,fun m H=>R_str.mpr rfl⟩
  by_cases q1:x=("BLOCK_FIGURES":Str)
  ·subst q1;have e:v=bB:=by have:glL.lookup ("BLOCK_FIGURES":Str)=some bB:=rfl;rw[this] at hx;cases hx;rfl
   subst e;exact⟨_,.int 64,RY X G ga1_,⟨tg1,rfl⟩,fun m H=>R_int.mpr rfl⟩
  by_cases q2:x=("BLOCK":Str)
  ·subst q2;have e:v=lZ:=by have:glL.lookup ("BLOCK":Str)=some lZ:=rfl;rw[this] at hx;cases hx;rfl
   subst e;exact⟨_,.int 10000000000000000000000000000000000000000000000000000000000000000,RY X G ga2_,⟨tg2,rfl⟩,fun m H=>R_int.mpr rfl⟩
  by_cases q3:x=("NOUGHT":Str)
  ·subst q3;have e:v=fP:=by have:glL.lookup ("NOUGHT":Str)=some fP:=rfl;rw[this] at hx;cases hx;rfl
   subst e;exact⟨_,.ref ga3,RY X G ga3_,rfl,fun m H=>R_tup.mpr ⟨ga3,[.int 0,.int 1],rfl,.inr ⟨_,_,_,gl3_,rfl,rfl,(show 2<=sizeLine by decide),(.cons ⟨t3_0,rfl⟩ (.cons ⟨t3_1,rfl⟩ .nil))⟩,by simp only[Rs_cons',Rs_nil,R_int,and_self]⟩⟩
  by_cases q4:x=("NEVER_TEXT":Str)
  ·subst q4;have e:v=eK:=by have:glL.lookup ("NEVER_TEXT":Str)=some eK:=rfl;rw[this] at hx;cases hx;rfl
   subst e;exact ⟨_,.str "never",RY X G ga4_,⟨tg4,rfl⟩,fun m H=>R_str.mpr rfl⟩
  exact absurd hx (by simp only[glL,List.lookup_cons,List.lookup_nil];simp only[beq_eq_false_iff_ne.mpr q0,beq_eq_false_iff_ne.mpr q1,beq_eq_false_iff_ne.mpr q2,beq_eq_false_iff_ne.mpr q3,beq_eq_false_iff_ne.mpr q4];exact fun z=>nomatch z)
 have t_coming:=xO tz0;have t_latest:=xO tz1;have t_through:=xO tz2;refine ⟨W.fnOf "law" "law" (cH oD) (af oD) (ae oD) .none kV dc pm an cd ct,fun s v=>.of_eq rfl,?lk,?lq,fun base _ _ B=>?_⟩
 case lk =>
  refine EC fun x hx=>?_;simp only[bM,List.mem_cons,List.not_mem_nil,or_false] at hx;rcases hx with rfl|rfl|rfl
  ·exact .inl t_coming
  ·exact .inl t_latest
  ·exact .inl t_through
 case lq =>
  intro x hx;simp only[bM,List.mem_cons,List.not_mem_nil,or_false] at hx;rcases hx with rfl|rfl|rfl
  ·exact .inl t_coming
  ·exact .inl t_latest
  ·exact .inl t_through
 have T:XT K mg FX.xs ysL (fun k=>([C1]:List Addr).getD k 0) (fun i=>([C0,C1,C2,C3,C4,C5]:List Addr).getD i 0) LH:=by
  refine⟨fun i x e=>?_,fun k hk=>?_,fun k i hk hi=>?_⟩
  ·match i,e with
   | 0,e=>cases e;exact⟨RY X G y0.1,y0.cl⟩
   | 1,e=>cases e;exact⟨RY X G y1.1,y1.cl⟩
   | 2,e=>cases e;exact⟨RY X G y2.1,y2.cl⟩
   | 3,e=>cases e;exact⟨RY X G y3.1,y3.cl⟩
   | 4,e=>cases e;exact⟨RY X G y4.1,y4.cl⟩
   | 5,e=>cases e;exact⟨RY X G y5.1,y5.cl⟩
  ·match k,hk with
   | 0,hk=>exact⟨y1.cl,xv0⟩
  ·match k,hk with
   | 0,hk =>
    match i,hi with
    | 0,hi=>exact⟨rl_0_0,fun z=>absurd z (by decide)⟩
    | 1,hi=>exact⟨rl_0_1,fun z=>absurd z (by decide)⟩
    | 2,hi=>exact⟨rl_0_2,fun _=>ne_0_2⟩
    | 3,hi=>exact⟨rl_0_3,fun _=>ne_0_3⟩
    | 4,hi=>exact⟨rl_0_4,fun _=>ne_0_4⟩
    | 5,hi=>exact⟨rl_0_5,fun _=>ne_0_5⟩
 have G0:JX l.prog w K mg base qc FX Γ ΓR (fun k=>([C1]:List Addr).getD k 0):=by
  refine⟨⟨fun f x hf=>absurd hf (RP _),hb,hgl,Γm⟩,⟨fun f x hf=>absurd hf (RP _),fun k x e=>?_,ΓRm⟩⟩
  match k,e with
  | 0,e=>cases e;exact⟨RY X G y1.1,ex1⟩
 have G1:JX l.prog w K mg base gZ FX Γ ΓR (fun k=>([C1]:List Addr).getD k 0):=G0.nx (sp:=a_) X G d0 vX xK lK yC (by walk_at "AR");have G2:JX l.prog w K mg base kn FX Γ ΓR (fun k=>([C1]:List Addr).getD k 0):=G1.nx (sp:=aQ) X G d1 lR nI kP mI (by walk_at "AR");have G3:JX l.prog w K mg base qN FX Γ ΓR (fun k=>([C1]:List Addr).getD k 0):=G2.nx (sp:=bE) X G d2 rm rW pe rE (by walk_at "AR");have G4:JX l.prog w K mg base Ck FX Γ ΓR (fun k=>([C1]:List Addr).getD k 0):=G3.nx (sp:=cz) X G d3 vH yc vb xT (by walk_at "AR");have G5:JX l.prog w K mg base zd FX Γ ΓR (fun k=>([C1]:List Addr).getD k 0):=G4.nx (sp:=dH) X G d4 Fe Js wm Hh (by walk_at "AR");have G6:JX l.prog w K mg base qX FX Γ ΓR (fun k=>([C1]:List Addr).getD k 0):=G5.nx (sp:=gc) X G d5 B5 Em Ab Ft (by walk_at "AR");have G7:JX l.prog w K mg base gY FX Γ ΓR (fun k=>([C1]:List Addr).getD k 0):=G6.nx (sp:=a8) X G d6 wQ xN lS yD (by walk_at "AR");have G8:JX l.prog w K mg base kq FX Γ ΓR (fun k=>([C1]:List Addr).getD k 0):=G7.nx (sp:=bc) X G d7 mf nN kC nB (by walk_at "AR");have G9:JX l.prog w K mg base i8 FX Γ ΓR (fun k=>([C1]:List Addr).getD k 0):=G8.nxX (sp:=aR) X G d8 q_ rM o8 dS rS (by walk_at "AR");have G10:JX l.prog w K mg base p8 FX Γ ΓR (fun k=>([C1]:List Addr).getD k 0):=G9.nxX (sp:=aJ) X G d9 m5 oP me dq oY (by walk_at "AR");have G11:JX l.prog w K mg base iz FX Γ ΓR (fun k=>([C1]:List Addr).getD k 0):=G10.nx (sp:=dz) X G d10 vD xI uJ xu (by walk_at "AR");have G12:JX l.prog w K mg base h_ FX Γ ΓR (fun k=>([C1]:List Addr).getD k 0):=G11.nx (sp:=bf) X G d11 mx nR kD mZ (by walk_at "AR");have G13:JX l.prog w K mg base gE FX Γ ΓR (fun k=>([C1]:List Addr).getD k 0):=G12.nx (sp:=bp) X G d12 mv nE kU mO (by walk_at "AR");have G14:JX l.prog w K mg base wG FX Γ ΓR (fun k=>([C1]:List Addr).getD k 0):=G13.nx (sp:=aV) X G d13 kK lU kd mB (by walk_at "AR");have G15:JX l.prog w K mg base sG FX Γ ΓR (fun k=>([C1]:List Addr).getD k 0):=G14.nx (sp:=fL) X G d14 zU BB yb DR (by walk_at "AR");have G16:JX l.prog w K mg base Cw FX Γ ΓR (fun k=>([C1]:List Addr).getD k 0):=G15.nx (sp:=ee) X G d15 xP Ap wA Be (by walk_at "AR");have G17:JX l.prog w K mg base p7 FX Γ ΓR (fun k=>([C1]:List Addr).getD k 0):=G16.nx (sp:=jH) X G d16 EJ Hi CW Hv (by walk_at "AR");have G18:JX l.prog w K mg base lQ FX Γ ΓR (fun k=>([C1]:List Addr).getD k 0):=G17.nx (sp:=dB) X G d17 wM yf uc xD (by walk_at "AR");have G19:JX l.prog w K mg base lg FX Γ ΓR (fun k=>([C1]:List Addr).getD k 0):=G18.nxX (sp:=aX) X G d18 sm uh pU eW uS (by walk_at "AR");have G20:JX l.prog w K mg base p_ FX Γ ΓR (fun k=>([C1]:List Addr).getD k 0):=G19.nxX (sp:=aZ) X G d19 rH vc pZ eY uU (by walk_at "AR");have G21:JX l.prog w K mg base mE FX Γ ΓR (fun k=>([C1]:List Addr).getD k 0):=G20.nx (sp:=dv) X G d20 wL yE u_ yy (by walk_at "AR");have G22:JX l.prog w K mg base pP FX Γ ΓR (fun k=>([C1]:List Addr).getD k 0):=G21.nx (sp:=cg) X G d21 so uY rk uX (by walk_at "AR");have G23:JX l.prog w K mg base oE FX Γ ΓR (fun k=>([C1]:List Addr).getD k 0):=G22.nx (sp:=dw) X G d22 vy xo uK xR (by walk_at "AR");have G24:JX l.prog w K mg base oF FX Γ ΓR (fun k=>([C1]:List Addr).getD k 0):=G23.nx (sp:=fD) X G d23 um wy sv vw (by walk_at "AR");have G25:JX l.prog w K mg base k9 FX Γ ΓR (fun k=>([C1]:List Addr).getD k 0):=G24.nx (sp:=fF) X G d24 uP vg rN wW (by walk_at "AR");have G26:JX l.prog w K mg base n8 FX Γ ΓR (fun k=>([C1]:List Addr).getD k 0):=G25.nx (sp:=eD) X G d25 sx uI qw tI (by walk_at "AR");have G27:JX l.prog w K mg base i4 FX Γ ΓR (fun k=>([C1]:List Addr).getD k 0):=G26.nx (sp:=cE) X G d26 ui vi sd wN (by walk_at "AR");have G28:JX l.prog w K mg base mw FX Γ ΓR (fun k=>([C1]:List Addr).getD k 0):=G27.nx (sp:=bw) X G d27 mM pf mF oR (by walk_at "AR");have G29:JX l.prog w K mg base kl FX Γ ΓR (fun k=>([C1]:List Addr).getD k 0):=G28.nx (sp:=cf) X G d28 rR uo qK uw (by walk_at "AR");have G30:JX l.prog w K mg base qi FX Γ ΓR (fun k=>([C1]:List Addr).getD k 0):=G29.nx (sp:=bU) X G d29 qL si oH rZ (by walk_at "AR");have G31:JX l.prog w K mg base i9 FX Γ ΓR (fun k=>([C1]:List Addr).getD k 0):=G30.nx (sp:=dA) X G d30 vf xt t5 yi (by walk_at "AR");have G32:JX l.prog w K mg base ig FX Γ ΓR (fun k=>([C1]:List Addr).getD k 0):=G31.nx (sp:=cM) X G d31 mJ oU lF oK (by walk_at "AR");have G33:JX l.prog w K mg base i_ FX Γ ΓR (fun k=>([C1]:List Addr).getD k 0):=G32.nx (sp:=bo) X G d32 kZ nY kz mU (by walk_at "AR");have G34:JX l.prog w K mg base ku FX Γ ΓR (fun k=>([C1]:List Addr).getD k 0):=G33.nx (sp:=bD) X G d33 ny oM lI o9 (by walk_at "AR");have G35:JX l.prog w K mg base jm FX Γ ΓR (fun k=>([C1]:List Addr).getD k 0):=G34.nx (sp:=bR) X G d34 qa rL oO r9 (by walk_at "AR");have G36:JX l.prog w K mg base gg FX Γ ΓR (fun k=>([C1]:List Addr).getD k 0):=G35.nx (sp:=bJ) X G d35 oQ qU nF pO (by walk_at "AR");have G37:JX l.prog w K mg base oB FX Γ ΓR (fun k=>([C1]:List Addr).getD k 0):=G36.nx (sp:=aS) X G d36 j6 kA jF kF (by walk_at "AR");have G38:JX l.prog w K mg base ko FX Γ ΓR (fun k=>([C1]:List Addr).getD k 0):=G37.nx (sp:=cD) X G d37 va wK rJ vR (by walk_at "AR");have G39:JX l.prog w K mg base l8 FX Γ ΓR (fun k=>([C1]:List Addr).getD k 0):=G38.nx (sp:=bS) X G d38 pN rK o6 su (by walk_at "AR");have G40:JX l.prog w K mg base iZ FX Γ ΓR (fun k=>([C1]:List Addr).getD k 0):=G39.nx (sp:=cb) X G d39 sg ud qM tJ (by walk_at "AR");have G41:JX l.prog w K mg base jq FX Γ ΓR (fun k=>([C1]:List Addr).getD k 0):=G40.nx (sp:=bA) X G d40 nJ pj kW oN (by walk_at "AR");have G42:JX l.prog w K mg base i5 FX Γ ΓR (fun k=>([C1]:List Addr).getD k 0):=G41.nx (sp:=bK) X G d41 oX qS mL pY (by walk_at "AR");have G43:JX l.prog w K mg base oi FX Γ ΓR (fun k=>([C1]:List Addr).getD k 0):=G42.nx (sp:=bC) X G d42 nh pb mH oI (by walk_at "AR");have G44:JX l.prog w K mg base qx FX Γ ΓR (fun k=>([C1]:List Addr).getD k 0):=G43.nxT (sp:=cO) T ex0 X G d43 uN v9 rG vT (by walk_at "AR");have G45:JX l.prog w K mg base F9 FX Γ ΓR (fun k=>([C1]:List Addr).getD k 0):=G44.nx (sp:=dy) X G d44 vZ ye u0 yB (by walk_at "AR");exact D6 (qual:="law") (Bq (st:=oD) lL cL kL) IJ rfl rfl LM G45.g (fun as st Q=>FS) (fun as st Q=>K0)
end My
namespace PySem.W.Fast
def tw5487555648158762335:=Nat
def tw5479974293931210695:=Nat
def tw13926606453908501236:=Nat
def tw1832721795439845945:=Nat
def tw195200523883223215:=Nat
def tw1351844581913558739:=Nat
def tw10694682462862006371:=Nat
def tw16959850031888786150:=Nat
def tw6956408240697610258:=Nat
def tw15987243143509697769:=Nat
def tw6704747164041185188:=Nat
def tw1356829897820942230:=Nat
def tw16822686550865193891:=Nat
def tw2076627647822922062:=Nat
def tw1891178927429692934:=Nat
def tw5031385742115082030:=Nat
def tw10625398615775696137:=Nat
def tw16068243801023804456:=Nat
def tw13856671209584512432:=Nat
def tw13646397896913074620:=Nat
def tw3772901919794038350:=Nat
def tw7070024232250854551:=Nat
def tw2420902121280661545:=Nat
def tw9912390112945904277:=Nat
def tw12921481513796421194:=Nat
def tw5974385934087046473:=Nat
def tw4599196923539978072:=Nat
def tw6393111656334066813:=Nat
def tw8164976150360686574:=Nat
def tw8139895812405253807:=Nat
def tw3715335821888115485:=Nat
def tw3795284918610202290:=Nat
def tw14484504294945451432:=Nat
def tw386798162566542188:=Nat
def tw14847657188452774630:=Nat
def tw13028006841050938601:=Nat
def tw13426443038635498810:=Nat
def tw8391496235330802360:=Nat
def tw11385546281414533202:=Nat
def tw2626866941972593192:=Nat
def tw11484862999087771801:=Nat
def tw14116629007565969057:=Nat
def tw9343694620061125680:=Nat
def tw1701004124050865610:=Nat
def tw16248176206060686581:=Nat
def tw7828840905119885936:=Nat
def tw5523703400145600018:=Nat
def tw16537552322646132310:=Nat
def tw3667371573932760321:=Nat
def tw2366988912686007586:=Nat
def tw5984353709800154278:=Nat
def tw12039120763694083212:=Nat
def tw5608073679781810505:=Nat
def tw568081063368398755:=Nat
def tw4204395097894413188:=Nat
def tw18401721810658705700:=Nat
def tw4840413134078897160:=Nat
def tw8565307144178391208:=Nat
def tw2570871332733915521:=Nat
def tw5179543170191225808:=Nat
def tw14580911872662657987:=Nat
def tw5083993291961888373:=Nat
def tw1150706083256162263:=Nat
def tw15968558004835622392:=Nat
def tw11685675872834471235:=Nat
def tw16516959322657243776:=Nat
def tw6868419334758535505:=Nat
def tw7291376510202302726:=Nat
def tw17670431000360672892:=Nat
def tw11031182212316889984:=Nat
def tw7742214380495135723:=Nat
def tw17292452567027981484:=Nat
def tw11621598647227607031:=Nat
def tw8887255333714530514:=Nat
def tw7181771790902739170:=Nat
def tw17612390464064186410:=Nat
def tw2078022131620137323:=Nat
def tw9361349942720133354:=Nat
def tw9005993761966540399:=Nat
def tw4405018405605451065:=Nat
def tw4189187047914124234:=Nat
def tw2775468893835126390:=Nat
def tw16503851157747131219:=Nat
def tw10302853348714904694:=Nat
def tw13195902422599157796:=Nat
def tw11952305275272820828:=Nat
def tw5942188721781503583:=Nat
def tw17602809231428914835:=Nat
def tw15962663170545875291:=Nat
def tw15066957083887464065:=Nat
def tw770868264748817150:=Nat
def tw8882318064876208353:=Nat
def tw5499157639492025449:=Nat
def tw17726007140314074254:=Nat
def tw10574771756656326993:=Nat
def tw15500540860946704018:=Nat
def tw3758508694544421629:=Nat
def tw11101462118387482360:=Nat
def tw92150603436398827:=Nat
def tw8066341847065425873:=Nat
def tw10864904918519475519:=Nat
def tw7928895268401905974:=Nat
def tw725728614143458359:=Nat
def tw17077447340950394916:=Nat
def tw15453798017239949329:=Nat
def tw110251789014847860:=Nat
def tw7354732315483891504:=Nat
def tw3053189847551442471:=Nat
def tw16075277090354717703:=Nat
def tw3898947889410880967:=Nat
def tw14610554630187982728:=Nat
def tw3066716308901470505:=Nat
def tw4141765750137026751:=Nat
def tw1336146631996173110:=Nat
def tw8941271452947550895:=Nat
def tw9616759983348074902:=Nat
def tw18176222837276766671:=Nat
def tw331252539825980977:=Nat
def tw9038228116606581047:=Nat
def tw8666443438606668628:=Nat
def tw17510361317269617984:=Nat
def tw12907674741448709039:=Nat
def tw10436329060379603708:=Nat
def tw13884008287857470295:=Nat
def tw17379422107566870190:=Nat
def tw4031661087548396287:=Nat
def tw11932863171309605109:=Nat
def tw9655508090773835743:=Nat
def tw14466056901092261955:=Nat
def tw12951063284390055917:=Nat
def tw17472923432692120072:=Nat
def tw10634927887684420966:=Nat
def tw11130436821935986610:=Nat
def tw12876654524400606228:=Nat
def tw7666421080738713866:=Nat
def tw12278444310937149601:=Nat
def tw3140370505566799343:=Nat
def tw16812459582482612079:=Nat
def tw1029194589240625520:=Nat
def tw3343016969377963381:=Nat
def tw4268499511147718908:=Nat
def tw9503064431557601014:=Nat
def tw13436962275986665852:=Nat
def tw13306593875298867659:=Nat
def tw9998655082280968169:=Nat
def tw9246438894561846421:=Nat
def tw9099055801454617241:=Nat
def tw865920851160593387:=Nat
def tw8460252110895516398:=Nat
def tw8402618656089972981:=Nat
def tw8232687164535537912:=Nat
def tw6824642187721555583:=Nat
def tw6443394148381251578:=Nat
def tw6286429858299877260:=Nat
def tw6152605410291309207:=Nat
def tw6149215261137365726:=Nat
def tw6081246157915746192:=Nat
def tw4855555844957630822:=Nat
def tw3974022363634982319:=Nat
def tw3506629183441768290:=Nat
def tw3223554637434499401:=Nat
def tw3079681380267840995:=Nat
def tw2120582877143435456:=Nat
def tw1887193988974643706:=Nat
def tw17837346433127803111:=Nat
def tw15406980729425470681:=Nat
def tw15381694143389435870:=Nat
def tw15045070819641678647:=Nat
def tw14233044567923687371:=Nat
def tw13169657525429322809:=Nat
def tw12783660152187264370:=Nat
def tw11665423921431674249:=Nat
def tw11649524501316431627:=Nat
def tw11364334975985858160:=Nat
def tw10329389548951203157:=Nat
def tw10112878080967378604:=Nat
def tw5848621946544214307:=Nat
def tw6534147880600437937:=Nat
def tw5455769686904069824:=Nat
def tw12973036015836878843:=Nat
def tw11999860185659971276:=Nat
def tw9663561486255267593:=Nat
def tw9395999256430126071:=Nat
def tw9192974862348469646:=Nat
def tw4390773293485661002:=Nat
def tw4333205707920544998:=Nat
def tw3865607486685558350:=Nat
def tw2171930763541382963:=Nat
def tw18177476774357264459:=Nat
def tw1637408014597416410:=Nat
def tw1624078447199277688:=Nat
def tw12779690691791672590:=Nat
def tw12014398749998208674:=Nat
def tw1180157013311022428:=Nat
def tw959782783842176092:=Nat
def tw8579937972098125414:=Nat
def tw6114778080104106281:=Nat
def tw5482379050696384452:=Nat
def tw7386067519516804556:=Nat
def tw585720593952766938:=Nat
def tw4952651522252859281:=Nat
def tw13558647453422919665:=Nat
def tw12985130278655981571:=Nat
def tw12523191167051255233:=Nat
def tw8441367122959015795:=Nat
def tw13591452822966568757:=Nat
def tw14132761568845804887:=Nat
def tw9234100734143524235:=Nat
def tw6612898909197128187:=Nat
def tw598507996255595629:=Nat
def tw3347013577803517996:=Nat
def tw293191768292963195:=Nat
def tw2441692217949451435:=Nat
def tw1641578996709452171:=Nat
def tw14947413417034625009:=Nat
def tw14810294702935393:=Nat
def tw8211455491866381856:=Nat
def tw3150514962013578242:=Nat
def tw8542741049658696861:=Nat
def tw5518335355250648537:=Nat
def tw43149725741263516:=Nat
def tw2845522799813111360:=Nat
def tw16837196702391008520:=Nat
def tw1585801470637252229:=Nat
def tw4642488955276662000:=Nat
def tw3905064356687814895:=Nat
def tw3525269728073013633:=Nat
def tw11992875098916498847:=Nat
def tw9397831152810750248:=Nat
def tw7224125703084403092:=Nat
def tw6894996664713846901:=Nat
def tw16095966151871507353:=Nat
def tw14573961293391869544:=Nat
def tw5311770091907742308:=Nat
def tw7270931185981039472:=Nat
def tw512117246714166048:=Nat
def tw10796959669276748390:=Nat
def tw18182742795237913608:=Nat
def tw15021165797227128638:=Nat
def tw9781265134927939334:=Nat
def tw3597824670439331078:=Nat
def tw3550657524990937665:=Nat
def tw2805154370731678921:=Nat
def tw18093221495065650904:=Nat
def tw1184027332037136196:=Nat
def tw6870536624641120984:=Nat
def tw1376208679496219047:=Nat
def tw1337665693093150146:=Nat
def tw13017157269748032200:=Nat
def tw12874791307210530464:=Nat
def tw11950694500292712958:=Nat
def tw13856682608986191853:=Nat
def tw703017308675613940:=Nat
def tw7206018577678900164:=Nat
def tw7161359301666967946:=Nat
def tw5799186239453732828:=Nat
def tw17577378338275941740:=Nat
def tw15030418666216820453:=Nat
def tw10559964857486105481:=Nat
def tw10163508098795226888:=Nat
def tw14327306562906982789:=Nat
def tw9545508396040457824:=Nat
def tw6638207077578835884:=Nat
def tw15419341800502719913:=Nat
def tw1178089816630520425:=Nat
def tw5184547102214539994:=Nat
def tw2644734733723007924:=Nat
def tw9219713751389949392:=Nat
def tw9083313307838052668:=Nat
def tw4282772185641781478:=Nat
def tw3926698519240027789:=Nat
def tw3594287906107924399:=Nat
def tw283994671746396125:=Nat
def tw2819539164063457467:=Nat
def tw14535253052805136563:=Nat
def tw13557001807627069667:=Nat
def tw13234897122867460914:=Nat
def tw1223206900089945764:=Nat
def tw11042702828771108805:=Nat
def tw10468088080920799581:=Nat
def tw10465431908728153732:=Nat
def tw17460179769408636114:=Nat
def tw9265511813945226382:=Nat
def tw9016162628461838133:=Nat
def tw8416194840021607505:=Nat
def tw6603052835623227635:=Nat
def tw4061093127904758169:=Nat
def tw17161441555019750964:=Nat
def tw16014134541135030827:=Nat
def tw15930201314186608063:=Nat
def tw8567729927883487350:=Nat
def tw8291428265726062272:=Nat
def tw4007941275247651118:=Nat
def tw2896048373668522745:=Nat
def tw194039454063245759:=Nat
def tw18347653323650593775:=Nat
def tw14586748139491096139:=Nat
def tw12712014364842123861:=Nat
def tw12577262674793546612:=Nat
def tw10122965351305437345:=Nat
def tw10004633896676239512:=Nat
def tw9516918726960102458:=Nat
def tw8900247430595615716:=Nat
def tw8730167442845257251:=Nat
def tw7510005525527201126:=Nat
def tw5807623735385976526:=Nat
def tw16546284064040042473:=Nat
def tw775483723493446396:=Nat
def tw884254179300795122:=Nat
def tw6462231688845889850:=Nat
def tw2935910263328976753:=Nat
def tw15970538041811026991:=Nat
def tw13051563769657155673:=Nat
def tw1291006106182618540:=Nat
def tw9747847914661252556:=Nat
def tw9579666937904269763:=Nat
def tw9541952471365248517:=Nat
def tw9441419531555388363:=Nat
def tw8818857071707912643:=Nat
def tw8717514980570207743:=Nat
def tw8713649880656108319:=Nat
def tw862606975957418466:=Nat
def tw8525307363310375279:=Nat
def tw844413256694562933:=Nat
def tw83522188965373875:=Nat
def tw8277907836174770552:=Nat
def tw8054212437078611257:=Nat
def tw7968751333161748278:=Nat
def tw7958214634018227058:=Nat
def tw7648379381012402336:=Nat
def tw7477302737199284123:=Nat
def tw7302875767019674121:=Nat
def tw7198757122656855832:=Nat
def tw6961316699145293486:=Nat
def tw6409472477969085889:=Nat
def tw6374132584715482448:=Nat
def tw6256422756055715960:=Nat
def tw6128368772784451253:=Nat
def tw5941017011682134487:=Nat
def tw5885209822653529657:=Nat
def tw5715498811956680824:=Nat
def tw5497695675675594655:=Nat
def tw5347702154651485833:=Nat
def tw5336616698366272989:=Nat
def tw5257713583756623538:=Nat
def tw5182302066955062921:=Nat
def tw5095975203126750555:=Nat
def tw4992393454215152967:=Nat
def tw4856023737175631431:=Nat
def tw470191964266036885:=Nat
def tw4680200131486386884:=Nat
def tw4524922633816723895:=Nat
def tw4428607753153541737:=Nat
def tw4326474881066171499:=Nat
def tw4226304486063465263:=Nat
def tw4205680976765347150:=Nat
def tw3826887798804714489:=Nat
def tw3696998783199955052:=Nat
def tw3629324926525272098:=Nat
def tw3178518501807198422:=Nat
def tw3097962432553953258:=Nat
def tw2789604826060595892:=Nat
def tw2704124114244721487:=Nat
def tw2618876075655007207:=Nat
def tw2387418205234026862:=Nat
def tw215628183096435077:=Nat
def tw2047593293086133418:=Nat
def tw1836473978822681188:=Nat
def tw18119619448290731914:=Nat
def tw18074992960556862069:=Nat
def tw17702596603807436073:=Nat
def tw16914353633053212757:=Nat
def tw16860528011414215791:=Nat
def tw16786143824822231669:=Nat
def tw16741724743389629117:=Nat
def tw16544328111889746798:=Nat
def tw16431109102777872160:=Nat
def tw16266495010478393792:=Nat
def tw16202852315013465514:=Nat
def tw16121388391376865674:=Nat
def tw1546505892387099367:=Nat
def tw15376326136289311129:=Nat
def tw15319292376306729483:=Nat
def tw15242931706085686852:=Nat
def tw14941861122276483201:=Nat
def tw14923320610449595428:=Nat
def tw14816695052043336170:=Nat
def tw14711689070639601512:=Nat
def tw14685262208810799657:=Nat
def tw14453921584461461322:=Nat
def tw14192638492845644048:=Nat
def tw13590806418720400483:=Nat
def tw1355790347247748180:=Nat
def tw133364715560576072:=Nat
def tw13148902864746752151:=Nat
def tw13039417543407641124:=Nat
def tw12849497358349941723:=Nat
def tw12774819359916092170:=Nat
def tw12512121152229404975:=Nat
def tw12463137700551980123:=Nat
def tw12406900886468570778:=Nat
def tw1230307277232436852:=Nat
def tw12300811785597391572:=Nat
def tw12172940113156352820:=Nat
def tw11901661043558322721:=Nat
def tw11867277992771891977:=Nat
def tw11777451946964757366:=Nat
def tw11746431008027236179:=Nat
def tw11668043566431358977:=Nat
def tw11415191693507403348:=Nat
def tw10972259327086111201:=Nat
def tw10564946745017767158:=Nat
def tw10219986043545751717:=Nat
def tw10015265957201130008:=Nat
def tw9831713569865136305:=Nat
def tw9404800789859023951:=Nat
def tw9329562549541184145:=Nat
def tw9199045287600890218:=Nat
def tw9111124279205646100:=Nat
def tw8915238545926074602:=Nat
def tw866911698654281544:=Nat
def tw8576996369872137587:=Nat
def tw7816736202602487131:=Nat
def tw7780109813115708938:=Nat
def tw7234520464346378609:=Nat
def tw6825169572511835120:=Nat
def tw6793125303890981210:=Nat
def tw6572808139156540766:=Nat
def tw6391864772875747205:=Nat
def tw6247798979072014452:=Nat
def tw593115178765051949:=Nat
def tw5676378527426053855:=Nat
def tw5676213159392901974:=Nat
def tw5674961162172739341:=Nat
def tw5581692231931245650:=Nat
def tw5090254587877024429:=Nat
def tw4834159973508122409:=Nat
def tw4787249360564026199:=Nat
def tw4642068121714359157:=Nat
def tw4057247685706007004:=Nat
def tw3722427219048781793:=Nat
def tw3657011106319065623:=Nat
def tw3278130675855521400:=Nat
def tw27048217307363264:=Nat
def tw2382742634202046217:=Nat
def tw2344696667115714654:=Nat
def tw1906005852289852782:=Nat
def tw18237972314004024642:=Nat
def tw17646890749214554311:=Nat
def tw17561333188591422815:=Nat
def tw17278250135768155650:=Nat
def tw17253395053435899093:=Nat
def tw16207685128769128184:=Nat
def tw14919344900127921647:=Nat
def tw14501568700255759816:=Nat
def tw14242537094138771501:=Nat
def tw1402395495642564475:=Nat
def tw13845208042955687786:=Nat
def tw13795993468145322824:=Nat
def tw13278332674364770573:=Nat
def tw12698778363825941632:=Nat
def tw12292735018129627785:=Nat
def tw12136570633953070269:=Nat
def tw11647233425166491920:=Nat
def tw11646778372585996134:=Nat
def tw10970597092265028817:=Nat
def tw10592919604653675215:=Nat
def tw10451870555661159828:=Nat
def tw10012065648623027593:=Nat
end PySem.W.Fast
open PySem PySem.W PyProof.Rows
local macro_rules | `(tactic| walk_at "DI")=>`(tactic| (refine' FW.DI_mk ?a ?l ?c ?k;(case a=>k_is);(case l=>k_is);(case c=>k_is);(case k=>k_is)))
local macro_rules | `(tactic| walk_at "CI")=>`(tactic| (refine' FW.CI_mk ?a ?b ?c ?d ?e ?f ?g ?h;(case a=>k_is);(case b=>k_is);(case c=>k_is);(case d=>k_is);(case e=>k_is);(case f=>k_is);(case g=>k_is);(case h=>k_is)))
set_option maxRecDepth 100000 in
set_option maxHeartbeats 0 in
theorem PySem.Challenge.cw_hourstairs_k26_whole_no_texts_holds : PySem.Challenge.rw_hourstairs_k26_whole_no_texts.Holds := by
 w_on;o_law;k_head;(case hw=>w_witness2)
 k_fill
 refine FW.walkF (l:=PySem.Challenge.rw_hourstairs_k26_whole_no_texts) (k:=46) (x:="_law_script") rfl rfl ⟨rfl,by decide,by decide,rfl⟩ (fun w h Y=>PySem.W.kIn_of Y) ?F
 case F =>
  intro w mg fa h KX G hmg
  refine' My.all_mk KX G hmg ?d0 ?d1 ?d2 ?d3 ?d4 ?d5 ?d6 ?d7 ?d8 ?d9 ?d10 ?d11 ?d12 ?d13 ?d14 ?d15 ?d16 ?d17 ?d18 ?d19 ?d20 ?d21 ?d22 ?d23 ?d24 ?d25 ?d26 ?d27 ?d28 ?d29 ?d30 ?d31 ?d32 ?d33 ?d34 ?d35 ?d36 ?d37 ?d38 ?d39 ?d40 ?d41 ?d42 ?d43 ?d44 ?d45 ?z0 ?z1 ?z2 ?z3 ?z4 ?z5 ?z6 ?z7 ?z8 ?z9 ?z10 ?z11 ?z12 ?z13 ?z14 ?tz0 ?tz1 ?tz2 ?y0 ?y1 ?y2 ?y3 ?y4 ?y5 ?ex0 ?ex1 ?xv0 ?rl_0_0 ?rl_0_1 ?rl_0_2 ?ne_0_2 ?rl_0_3 ?ne_0_3 ?rl_0_4 ?ne_0_4 ?rl_0_5 ?ne_0_5 ?ga0_ ?ga1_ ?ga2_ ?ga3_ ?gl3_ ?ga4_
  all_goals first|delta My.zn|skip
  (case d0=>walk_at "DI")
  (case d1=>walk_at "DI")
  (case d2=>walk_at "DI")
  (case d3=>walk_at "DI")
  (case d4=>walk_at "DI")
  (case d5=>walk_at "DI")
  (case d6=>walk_at "DI")
  (case d7=>walk_at "DI")
  (case d8=>walk_at "DI")
  (case d9=>walk_at "DI")
  (case d10=>walk_at "DI")
  (case d11=>walk_at "DI")
  (case d12=>walk_at "DI")
  (case d13=>walk_at "DI")
  (case d14=>walk_at "DI")
  (case d15=>walk_at "DI")
  (case d16=>walk_at "DI")
  (case d17=>walk_at "DI")
  (case d18=>walk_at "DI")
  (case d19=>walk_at "DI")
  (case d20=>walk_at "DI")
  (case d21=>walk_at "DI")
  (case d22=>walk_at "DI")
  (case d23=>walk_at "DI")
  (case d24=>walk_at "DI")
  (case d25=>walk_at "DI")
  (case d26=>walk_at "DI")
  (case d27=>walk_at "DI")
  (case d28=>walk_at "DI")
  (case d29=>walk_at "DI")
  (case d30=>walk_at "DI")
  (case d31=>walk_at "DI")
  (case d32=>walk_at "DI")
  (case d33=>walk_at "DI")
  (case d34=>walk_at "DI")
  (case d35=>walk_at "DI")
  (case d36=>walk_at "DI")
  (case d37=>walk_at "DI")
  (case d38=>walk_at "DI")
  (case d39=>walk_at "DI")
  (case d40=>walk_at "DI")
  (case d41=>walk_at "DI")
  (case d42=>walk_at "DI")
  (case d43=>walk_at "DI")
  (case d44=>walk_at "DI")
  (case d45=>walk_at "DI")
  (case z0=>k_is)
  (case z1=>k_is)
  (case z2=>k_is)
  (case z3=>k_is)
  (case z4=>k_is)
  (case z5=>k_is)
  (case z6=>k_is)
  (case z7=>k_is)
  (case z8=>k_is)
  (case z9=>k_is)
  (case z10=>k_is)
  (case z11=>k_is)
  (case z12=>k_is)
  (case z13=>k_is)
  (case z14=>k_is)
  (case tz0=>k_is)
  (case tz1=>k_is)
  (case tz2=>k_is)
  (case y0=>walk_at "CI")
  (case y1=>walk_at "CI")
  (case y2=>walk_at "CI")
  (case y3=>walk_at "CI")
  (case y4=>walk_at "CI")
  (case y5=>walk_at "CI")
  (case ex0=>kernel_rfl)
  (case ex1=>kernel_rfl)
  (case xv0=>k_is)
  (case rl_0_0=>k_is)
  (case rl_0_1=>k_is)
  (case rl_0_2=>k_is)
  (case ne_0_2=>decide)
  (case rl_0_3=>k_is)
  (case ne_0_3=>decide)
  (case rl_0_4=>k_is)
  (case ne_0_4=>decide)
  (case rl_0_5=>k_is)
  (case ne_0_5=>decide)
  (case ga0_=>k_is)
  (case ga1_=>k_is)
  (case ga2_=>k_is)
  (case ga3_=>k_is)
  (case gl3_=>k_is)
  (case ga4_=>k_is)
