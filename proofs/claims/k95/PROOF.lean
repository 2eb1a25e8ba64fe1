import PyProof.Rows.All
import Wide.All
import OpenK.AllK
import Wide.FinOn
import Lean
import PyProof.EqAt
import PyProof.EqKinds
import PyProof.TupleCall
import PyProof.FactsAll.set
import PyProof.DictWalks
import PyProof.CollectWalk
import PyProof.Rows.SetFrom
import PyProof.Rows.SortWalk
import PyProof.TupleKey
import PyProof.DictFindH
import PyProof.DictItems
import PyProof.P3Eq
import PyProof.Rows.SortStr
import PyProof.WalksMore
import PyProof.Rows.MinMaxN
import PyProof.StrCalls2
import PyProof.FString5
import KE.LcSums
import KE.KDictSum
import PyProof.DictCompW
import PyProof.NeKinds
import KE.KEqDict
import KE.KPairComp
import KE.KDictOf
import PyProof.AttrMissHeap
import PyProof.RaisesMany
import PyProof.Rows.CatchOwn
import PyProof.Rows.TopTwo
import PyProof.IsInstanceT
import OpenK.KOwn
import PyProof.ExcBaseAll.ValueError
import PyProof.InstStoreFacts
import OpenK.KMake
import PyProof.ExcAttrAll.ValueError
import PyProof.IsiTupleAll
import OpenK.KMore
import PySem.Challenge.RW_hourstairs_k95_whole_days
open PySem PySem.Spec
open PyProof.Rows hiding K st lo ad
set_option Elab.async false
set_option linter.all false
set_option maxRecDepth 100000
set_option maxHeartbeats 4000000
set_option genSizeOf false
set_option compiler.extract_closed false
set_option genSizeOfSpec false
abbrev MA:=@Bool.false_ne_true
abbrev MB:=@PySem.wpAny_bind
abbrev MC:=@List.getElem?_eq_some_iff
abbrev MD:=@PySem.Heap.get?_push_of_some
abbrev ME:=@List.length_map
abbrev MF:=@List.map_cons
abbrev MG:=@Bool.and_eq_true
abbrev MH:=@List.getElem?_set_ne
abbrev MI:=@List.getElem?_map
abbrev MJ:=@Nat.le_refl
abbrev MK:=@Nat.lt_of_lt_of_le
abbrev ML:=@if_neg
abbrev MM:=@List.mem_cons_of_mem
abbrev MN:=@if_pos
abbrev MP:=@Option.map_eq_some_iff
abbrev MQ:=@List.mem_cons_self
abbrev MR:=@PySem.Heap.lt_size
abbrev MS:=@List.getElem?_append_left
abbrev MT:=@List.mem_of_getElem?
abbrev MU:=@PySem.wpAny_pure
abbrev MV:=@List.mem_map
abbrev MW:=@List.getElem?_set_self
abbrev MX:=@List.getElem?_append_right
abbrev MY:=@Nat.le_trans
abbrev MZ:=@PySem.Heap.get?_push_size
abbrev M1:=@List.mem_singleton
abbrev M3:=@Nat.mul_pos
abbrev M4:=@List.getElem?_eq_getElem
abbrev M5:=@List.size_toArray
abbrev M6:=@Int.natCast_mul
abbrev M7:=@List.mem_append_right
abbrev M8:=@Nat.ne_of_lt
abbrev M9:=@List.mem_append
abbrev M_:=@Nat.lt_of_le_of_lt
abbrev NA:=@List.map_append
abbrev NB:=@List.mem_cons
abbrev NC:=@congrArg
abbrev ND:=@List.filterMap_cons
abbrev NF:=@decide_eq_true
abbrev NG:=@List.map_map
abbrev NH:=@PySem.Heap.get?_update_other
abbrev NI:=@decide_eq_false
abbrev NJ:=@List.getElem?_eq_none
abbrev NK:=@PySem.mem_of_lookup
abbrev NL:=@Option.some.inj
abbrev NM:=@List.map_nil
abbrev NO:=@List.nodup_cons
abbrev NP:=@List.nodup_append
abbrev NQ:=@Nat.le_of_lt
abbrev NR:=@List.mem_filterMap
abbrev NS:=@List.length_cons
abbrev NT:=@List.mem_append_left
abbrev NU:=@List.length_append
abbrev NV:=@Nat.zero_le
abbrev NW:=@Nat.not_lt
abbrev NX:=@List.take_length
abbrev NY:=@Classical.byContradiction
abbrev NZ:=@beq_iff_eq
abbrev N0:=@List.append_assoc
abbrev N1:=@PySem.wpAny_holding
abbrev N2:=@List.any_cons
abbrev N3:=@List.length_filterMap_le
abbrev N4:=@PySem.W.Looks.here
abbrev N5:=@List.length_take
abbrev N6:=@of_decide_eq_true
abbrev N7:=@PySem.SeqAt.canLay_of_shaped
abbrev N8:=@List.take_add_one
abbrev N9:=@List.map_congr_left
abbrev N_:=@PyProof.Rows.slot_tuple_getitem
abbrev OA:=@List.mem_of_find?_eq_some
abbrev OB:=@PySem.Heap.get?_update_self
abbrev OC:=@List.take_append_drop
abbrev OD:=@Nat.lt_irrefl
abbrev OE:=@List.append_nil
abbrev OF:=@List.length_set
abbrev OG:=@PySem.W.mg_none_of
abbrev OH:=@Array.getElem?_eq_some_iff
abbrev OI:=@List.drop_eq_getElem_cons
abbrev OJ:=@List.getElem?_take_of_lt
abbrev OL:=@List.all_cons
abbrev OM:=@Bool.eq_iff_iff
abbrev ON:=@List.of_mem_zip
abbrev OO:=@Option.isSome_map
abbrev OP:=@PySem.F.typeOf_object_class
abbrev OR:=@Nat.pow_le_pow_right
abbrev OS:=@Nat.ne_of_gt
abbrev OT:=@PySem.W.mg_of
abbrev OU:=@List.prefix_refl
abbrev OV:=@List.getElem_mem
abbrev OW:=@Nat.mul_comm
abbrev OX:=@Int.toNat_of_nonneg
abbrev OY:=@List.head?_drop
abbrev OZ:=@Bool.or_eq_true
abbrev O0:=@List.foldl_cons
abbrev O1:=@List.prefix_append
abbrev O2:=@List.find?_eq_none
abbrev O3:=@List.filter_cons_of_neg
abbrev O4:=@List.filter_cons_of_pos
abbrev O5:=@Nat.lt_trans
abbrev O6:=@List.tail_drop
abbrev O7:=@Nat.gcd_comm
abbrev O8:=@List.getElem_cons_drop
abbrev O9:=@List.mem_iff_getElem?
abbrev O_:=@List.filterMap_append
abbrev PB:=@Int.natCast_ediv
abbrev PC:=@PySem.Heap.get?_none_of_le
abbrev PD:=@List.mem_iff_getElem
abbrev PF:=@Nat.le_succ
abbrev PH:=@List.mem_of_mem_take
abbrev PJ:=@Nat.mul_le_mul_right
abbrev PM:=@List.cons.injEq
abbrev PN:=@Nat.not_lt_zero
abbrev PP:=@Int.natCast_add
abbrev PQ:=@Nat.le_antisymm
abbrev PR:=@Int.emod_nonneg
abbrev PU:=@List.length_pos_iff
abbrev PY:=@PySem.W.callWith_K
abbrev PZ:=@List.filterMap_map
abbrev P0:=@Bool.and_false
abbrev P1:=@List.set_cons_zero
abbrev P2:=@List.nodup_nil
abbrev P4:=@Nat.one_lt_two_pow
abbrev P5:=@Option.map_map
abbrev P6:=@Int.emod_lt_of_pos
abbrev P7:=@PySem.Value.isInt_shape
abbrev P8:=@Sum.inr.inj
abbrev P9:=@List.getElem?_set
abbrev P_:=@List.foldl_append
abbrev QA:=@PySem.W.cellsFrom_some
abbrev QB:=@List.filter_cons
abbrev QC:=@List.cons_append
abbrev QD:=@Nat.le_add_right
abbrev QE:=@List.all_eq_true
abbrev QF:=@Nat.lt_asymm
abbrev QG:=@List.mem_filter
abbrev QH:=@Int.natCast_pow
abbrev QI:=@List.forIn_cons
abbrev QJ:=@List.find?_some
abbrev QK:=@List.filter_map
abbrev QL:=@Nat.log2_lt
abbrev QM:=@List.drop_zero
abbrev QN:=@Nat.mul_le_mul
abbrev QO:=@PySem.W.looks_mroIn
abbrev QP:=@Nat.sub_le
abbrev QQ:=@Int.le_of_lt
abbrev QR:=@Nat.le_of_eq
abbrev QS:=@Nat.pow_succ
abbrev QT:=@Iff.rfl
abbrev QU:=@Prod.ext
abbrev QV:=@Rat.not_lt
namespace L2
noncomputable abbrev Key:=Sum Int Str
noncomputable def pL:Key->Value->Bool
 | .inl k,v=>Value.isInt k v
 | .inr x,v=>Value.isStrOf x v
noncomputable def Lh (w:World):Key->Int
 | .inl k=>hashInt k
 | .inr x=>hashStr w x
theorem aT:∀ {k:Key}{v:Value},pL k v=true->(∃i t,k=Sum.inl i/\v=Value.int i t)\/(∃x t,k=Sum.inr x/\v=Value.str x t)
 | .inl i,v,h=>by obtain⟨t,e⟩:=P7 (k:=i) (v:=v) h;exact .inl ⟨i,t,rfl,e⟩
 | .inr x,v,h=>by obtain⟨t,e⟩:=Value.isStrOf_shape (x:=x) (v:=v) h;exact .inr ⟨x,t,rfl,e⟩
theorem yj (i:Int)(t:Tok):pL (.inl i) (.int i t)=true:=by simp[pL,Value.isInt]
theorem yp (x:Str)(t:Tok):pL (.inr x) (.str x t)=true:=by simp[pL,Value.isStrOf]
theorem HH (a b:Int):decide ((Sum.inl a:Key)=Sum.inl b)=(a == b):=by
 by_cases e:a=b
 ·subst e;simp
 ·have h:¬(Sum.inl a:Key)=Sum.inl b:=fun q=>e (Sum.inl.inj q);rw[NI h];exact(beq_eq_false_iff_ne.mpr e).symm
theorem Hu (a b:Str):decide ((Sum.inr a:Key)=Sum.inr b)=decide (a=b):=by
 by_cases e:a=b
 ·subst e;simp
 ·have h:¬(Sum.inr a:Key)=Sum.inr b:=fun q=>e (P8 q);rw[NI h,NI e]
theorem GS (a:Int)(b:Str):decide ((Sum.inl a:Key)=Sum.inr b)=false:=NI (fun q=>nomatch q)
theorem Ho (a:Str)(b:Int):decide ((Sum.inr a:Key)=Sum.inl b)=false:=NI (fun q=>nomatch q)
noncomputable def aE (prog:Program)(w:World):PySem.KeyKind prog w Key where
 is:=pL
 hash:=Lh w
 inj:=fun v a b ha hb=>by
  rcases aT ha with⟨i,t,rfl,rfl⟩|⟨x,t,rfl,rfl⟩
  ·rcases aT hb with⟨j,u,rfl,e⟩|⟨y,u,rfl,e⟩
   ·injection e with e1 _;rw[e1]
   ·exact nomatch e
  ·rcases aT hb with⟨j,u,rfl,e⟩|⟨y,u,rfl,e⟩
   ·exact nomatch e
   ·injection e with e1 _;rw[e1]
 byValue:=fun k v h=>by rcases aT h with⟨i,t,rfl,rfl⟩|⟨x,t,rfl,rfl⟩ <;> rfl
 pyHash:=fun hv h=>by
  rcases aT hv with⟨i,t,rfl,rfl⟩|⟨x,t,rfl,rfl⟩
  ·exact wpAny_pyHash_int h
  ·exact wpAny_pyHash_str h
 eqBool:=fun hu hv h=>by
  rcases aT hu with⟨i,t,rfl,rfl⟩|⟨x,t,rfl,rfl⟩
  ·rcases aT hv with⟨j,u,rfl,rfl⟩|⟨y,u,rfl,rfl⟩
   ·rw[HH] at h;exact wpAny_eqBool_int h
   ·rw[GS] at h;exact SeqAt.EqAt.int_str i t y u _ _ _ _ h
  ·rcases aT hv with⟨j,u,rfl,rfl⟩|⟨y,u,rfl,rfl⟩
   ·rw[Ho] at h;exact SeqAt.EqAt.str_int x t j u _ _ _ _ h
   ·rw[Hu] at h;exact wpAny_eqBool_str h
 «strs»:=fun k x t v h=>by
  rcases aT h with⟨i,u,rfl,e⟩|⟨y,u,rfl,e⟩
  ·exact nomatch e
  ·injection e with e1 _
   subst e1;cases v <;> rfl
theorem t8 (prog:Program)(w:World)(i:Int)(t:Tok):(aE prog w).is (.inl i) (.int i t)=true:=yj i t
theorem kF (prog:Program)(w:World)(x:Str)(t:Tok):(aE prog w).is (.inr x) (.str x t)=true:=yp x t
end L2
namespace L2
inductive V where
 | non|bl (b:Bool)|int (i:Int)|str (x:Str)|byt (b:Array UInt8)|flt (b:UInt64)|ref (a:Addr)|ty (n:String)
 deriving DecidableEq
noncomputable def RelV:V->Value->Prop
 | .non,u=>u=Value.none
 | .bl b,u=>u=Value.bool b
 | .int i,u=>∃t,u=Value.int i t
 | .str x,u=>∃t,u=Value.str x t
 | .byt b,u=>∃t,u=Value.bytes b t
 | .flt b,u=>∃t,u=Value.float b t
 | .ref a,u=>u=Value.ref a
 | .ty n,u=>u=Value.type n
noncomputable abbrev Vals:List V->List Value->Prop:=Paired RelV
theorem Vals.length (r:Vals xs us):xs.length=us.length:=Paired.length r
theorem Vals.get:∀ {xs:List V}{us:List Value}{i:Nat}{x:V},Vals xs us->xs[i]?=some x->∃u,us[i]?=some u/\RelV x u
 | _,_,_,_,.nil,e=>by simp at e
 | _,_,0,_,.cons r _,e=>by simp at e;subst e;exact⟨_,rfl,r⟩
 | _,_,i+1,x,.cons _ t,e=>by obtain⟨u,h1,h2⟩:=Vals.get (i:=i) (x:=x) t (by simpa using e);exact⟨u,by simpa using h1,h2⟩
theorem Vals.set (r:RelV x u):∀ {xs:List V}{us:List Value} (i:Nat),Vals xs us->Vals (xs.set i x) (us.set i u)
 | _,_,_,.nil=>.nil
 | _,_,0,.cons _ t=>.cons r t
 | _,_,i+1,.cons q t=>.cons q (Vals.set r i t)
theorem Vals.append:∀ {xs ys:List V}{us ws:List Value},Vals xs us->Vals ys ws->Vals (xs++ys) (us++ws)
 | _,_,_,_,.nil,s=>s
 | _,_,_,_,.cons r t,s=>.cons r (Vals.append t s)
theorem Vals.take:∀ {xs:List V}{us:List Value} (n:Nat),Vals xs us->Vals (xs.take n) (us.take n)
 | _,_,0,_=>.nil
 | _,_,_+1,.nil=>.nil
 | _,_,n+1,.cons r t=>.cons r (Vals.take n t)
theorem Vals.drop:∀ {xs:List V}{us:List Value} (n:Nat),Vals xs us->Vals (xs.drop n) (us.drop n)
 | _,_,0,r=>r
 | _,_,_+1,.nil=>.nil
 | _,_,n+1,.cons _ t=>Vals.drop n t
noncomputable def RelO:Option V->Option Value->Prop
 | some v,some u=>RelV v u
 | none,none=>True
 | _,_=>False
noncomputable def KV {κ:Type}:List (κ × V)->List (κ × Value)->Prop:=Paired fun (p:κ × V) (q:κ × Value)=>p.1=q.1/\RelV p.2 q.2
noncomputable def kV:Key->V
 | .inl i=>.int i
 | .inr x=>.str x
set_option genInjectivity false
inductive HO where
 | lst (xs:List V)
 | tup (xs:List V)
 | dK (kvs:List (Key × V))|dT (kvs:List (List Key × V))
 | set (S:Int->Bool) (n:Nat)
 | ins (C dx:Addr) (fs:List (Str × V))
 | own (x:Addr)
 | xd (fs:List (Str × V))
 | met (f x:Addr)
 | rng (lo hi:Int)
 | frz (o:Obj) (u:HO)
 | tbl (ps:Array Value)
 | ext (φ:Heap->Prop)
noncomputable abbrev Hp:=Addr->Option HO
noncomputable def upd (H:Hp)(a:Addr)(o:HO):Hp:=fun b=>if b=a then some o else H b
theorem aw:upd H a o a=some o:=by unfold upd;rw[MN rfl]
theorem af {a b:Addr}(h:b≠a):upd H a o b=H b:=by unfold upd;rw[ML h]
theorem Jb {H:Hp}(h:H a=some o)(h':H b=some u)(d:o≠u):a≠b:=by intro e;subst e;rw[h] at h';exact d (NL h')
theorem av {H:Hp}(h:H a=some o)(h':H b=none):a≠b:=by intro e;subst e;rw[h] at h';cases h'
section
variable (P:Program) (w:World)
noncomputable def ObjOk (H:Hp)(h:Heap)(a:Addr):HO->Prop
 | .lst xs=>xs.length<=sizeLine/\∃(its:List Value) (n:Nat),Vals xs its/\h.get? a=some { cls:=.type "list",data:=.seq its.toArray n }
 | .tup xs=>xs.length<=sizeLine/\∃its:List Value,Vals xs its/\IsTup h a its.toArray
 | .dK kvs=>kvs.length<=sizeLine/\(a == sysModules)=false/\∃vs,KV kvs vs/\h.DictOf (aE P w) a vs
 | .dT kvs=>kvs.length<=sizeLine/\(a == sysModules)=false/\∃xs:List (List Key × Addr × Value),
   Paired (fun (p:List Key × V) (q:List Key × Addr × Value)=>p.1=q.1/\H q.2.1=some (.tup (p.1.map kV))/\RelV p.2 q.2.2) kvs xs /\
   ∃o es ep,h.get? a=some o/\o.ExactDict/\o.data=.dict es ep/\es.toList=xs.map (entryOfKey (tupleKind (aE P w)))/\(xs.map (·.1)).Nodup
 | .set S n=>h.SetOf (intKind P w) a S n
 | .ins C dx fs=>H dx=some (.own a)/\fs.length<=1000/\dx≠a/\h.get? a=some (W.instObj C dx) /\
   ∃mA,h.Ns1 dx mA/\(∀f,RelO (fs.lookup f) (mA f))/\PySem.Within mA (fs.map (·.1))
 | .own _=>∃o,h.get? a=some o
 | .xd fs=>∃mA,h.Ns1 a mA/\∀f,RelO (fs.lookup f) (mA f)
 | .rng lo hi=>∃t u v,h.get? a=some { cls:=.type "range",data:=.fields #[.int lo t,.int hi u,.int 1 v] }
 | .frz o u=>h.get? a=some o/\ObjOk H h a u
 | .tbl ps=>h.get? a=some { cls:=.none,data:=.fields ps }
 | .met f x=>h.get? a=some (W.methodObj (.ref f) (.ref x))
 | .ext φ=>φ h/\(∃o,h.get? a=some o)/\∀h1 h2:Heap,φ h1->(∀o,h1.get? a=some o->h2.get? a=some o)->φ h2
def HOk (H:Hp)(h:Heap):Prop:=∀a o,H a=some o->ObjOk P w H h a o
end
section
variable {P:Program}{w:World}{H H':Hp}{h h':Heap}{a:Addr}{o:HO}
theorem ObjOk.lt (x:ObjOk P w H h a o):a<h.objs.size:=by
 cases o with
 | lst xs=>obtain⟨_,_,_,_,e⟩:=x;exact MR e
 | tup xs=>obtain⟨_,_,_,p⟩:=x;exact p.lt
 | dK kvs=>obtain⟨_,_,_,_,o,_,_,e,_⟩:=x;exact MR e
 | dT kvs=>obtain⟨_,_,_,_,o,_,_,e,_⟩:=x;exact MR e
 | set S n=>obtain⟨o,_,_,_,e,_⟩:=x;exact MR e
 | ins C dx fs=>obtain⟨_,_,_,e,_⟩:=x;exact MR e
 | own y=>obtain⟨_,e⟩:=x;exact MR e
 | xd fs=>obtain⟨_,⟨_,_,_,e,_⟩,_⟩:=x;exact MR e
 | rng lo hi=>obtain⟨_,_,_,e⟩:=x;exact MR e
 | frz ob u=>obtain⟨e,_⟩:=x;exact MR e
 | tbl ps=>exact MR (show h.get? a=some _ from x)
 | met f y=>exact MR (show h.get? a=some _ from x)
 | ext φ=>obtain⟨_,⟨_,e⟩,_⟩:=x;exact MR e
theorem Paired.mapP {α β:Type}{F G:α->β->Prop}:∀ {l₁:List α}{l₂:List β},Paired F l₁ l₂->(∀a b,F a b->G a b)->Paired G l₁ l₂
 | _,_,.nil,_=>.nil
 | _,_,.cons r t,f=>.cons (f _ _ r) (Paired.mapP t f)
theorem ObjOk.stay (x:ObjOk P w H h a o)(k:∀b u,(b=a\/H b=some (.own a))->h.get? b=some u->h'.get? b=some u)
  (ho:∀b,H b=some (.own a)->H' b=some (.own a)) (ht:∀b xs,H b=some (.tup xs)->H' b=some (.tup xs)):ObjOk P w H' h' a o:=by
 induction o with
 | lst xs=>obtain⟨z,its,n,r,e⟩:=x;exact⟨z,its,n,r,k _ _ (.inl rfl) e⟩
 | tup xs=>obtain⟨z,its,r,ob,e,c⟩:=x;exact⟨z,its,r,ob,k _ _ (.inl rfl) e,c⟩
 | dK kvs=>obtain⟨z,y,vs,r,ob,es,ep,e,c⟩:=x;exact⟨z,y,vs,r,ob,es,ep,k _ _ (.inl rfl) e,c⟩
 | dT kvs =>obtain⟨z,y,xs,r,ob,es,ep,e,c⟩:=x;exact⟨z,y,xs,Paired.mapP r fun p q z=>⟨z.1,ht _ _ z.2.1,z.2.2⟩,ob,es,ep,k _ _ (.inl rfl) e,c⟩
 | set S n=>obtain⟨ob,es,ep,t,e,c⟩:=x;exact⟨ob,es,ep,t,k _ _ (.inl rfl) e,c⟩
 | ins C dx fs =>obtain⟨d,z,ne,e,mA,⟨od,es,ep,e2,c⟩,r⟩:=x;exact⟨ho _ d,z,ne,k _ _ (.inl rfl) e,mA,⟨od,es,ep,k _ _ (.inr d) e2,c⟩,r⟩
 | own y=>obtain⟨ob,e⟩:=x;exact⟨ob,k _ _ (.inl rfl) e⟩
 | xd fs=>obtain⟨mA,⟨od,es,ep,e,c⟩,r⟩:=x;exact⟨mA,⟨od,es,ep,k _ _ (.inl rfl) e,c⟩,r⟩
 | rng lo hi=>obtain⟨t,u,v,e⟩:=x;exact⟨t,u,v,k _ _ (.inl rfl) e⟩
 | frz ob u ih=>obtain⟨e,q⟩:=x;exact⟨k _ _ (.inl rfl) e,ih q⟩
 | tbl ps =>have e:h.get? a=some { cls:=.none,data:=.fields ps }:=x;show h'.get? a=some { cls:=.none,data:=.fields ps };exact k a _ (.inl rfl) e
 | met f y =>have e:h.get? a=some (W.methodObj (.ref f) (.ref y)):=x;show h'.get? a=some (W.methodObj (.ref f) (.ref y));exact k a _ (.inl rfl) e
 | ext φ=>obtain⟨p,⟨o,e⟩,st⟩:=x;exact⟨st _ _ p fun o q=>k _ _ (.inl rfl) q,⟨o,k _ _ (.inl rfl) e⟩,st⟩
theorem HOk.lt (x:HOk P w H h)(e:H a=some o):a<h.objs.size:=(x a o e).lt
theorem HOk.fresh (x:HOk P w H h)(e:h.objs.size<=a):H a=none:=by
 cases q:H a with
 | none=>rfl
 | some u=>exact absurd (MK (x.lt q) e) (OD _)
theorem HOk.kept (x:HOk P w H h)(k:∀b u,h.get? b=some u->h'.get? b=some u):HOk P w H h':=fun a o e =>
 (x a o e).stay (fun b u _ q=>k b u q) (fun _ q=>q) fun _ _ q=>q
theorem HOk.laid (x:HOk P w H h)(k:∀b u,h.get? b=some u->h'.get? b=some u)(hp:h.objs.size<=a)(new:ObjOk P w (upd H a o) h' a o):HOk P w (upd H a o) h':=fun b u e=>by
 have hn:=x.fresh hp;by_cases hb:b=a
 ·subst hb;rw[aw] at e;cases e;exact new
 ·rw[af hb] at e;exact(x b u e).stay (fun c v _ q=>k c v q) (fun c q=>by rw[af (av q hn)];exact q) fun c xs q=>by rw[af (av q hn)];exact q
end
def Rd (H:Hp)(a:Addr)(u:HO):Prop:=H a=some u\/∃o,H a=some (.frz o u)
theorem Rd.ok (r:Rd H a u)(x:HOk P w H h):ObjOk P w H h a u:=by
 rcases r with r|⟨o,r⟩
 ·exact x a u r
 ·obtain⟨_,q⟩:=x a _ r;exact q
noncomputable def Mut:Option HO->Prop
 | some (.lst _)=>True
 | some (.dK _)=>True
 | some (.dT _)=>True
 | some (.set _ _)=>True
 | some (.ins _ _ _)=>True
 | some (.ext _)=>True
 | _=>False
section
variable {P:Program}{w:World}{H:Hp}{h h':Heap}{x e:Addr}{o':HO}
theorem HOk.write (ok:HOk P w H h)(mu:Mut (H x))(he:e=x\/H e=some (.own x))(k:∀b u,b≠e->h.get? b=some u->h'.get? b=some u)(heo:∃u,h'.get? e=some u)
  (new:ObjOk P w (upd H x o') h' x o'):HOk P w (upd H x o') h':=fun b u q=>by
 have nown:∀c y,H c=some (.own y)->c≠x:=fun c y r z=>by subst z;rw[r] at mu;exact mu
 have ntup:∀c xs,H c=some (.tup xs)->c≠x:=fun c xs r z=>by subst z;rw[r] at mu;exact mu
 by_cases hb:b=x
 ·subst hb;rw[aw] at q;cases q;exact new
 ·rw[af hb] at q;by_cases hbe:b=e
  ·have q':H b=some (.own x):=by
    rcases he with z|z
    ·exact absurd (hbe.trans z) hb
    ·rw[hbe];exact z
   rw[q] at q';cases q';obtain⟨v,hv⟩:=heo;exact⟨v,by rw[hbe];exact hv⟩
  ·refine(ok b u q).stay (fun c v hc r=>k c v ?_ r) (fun c r=>by rw[af (nown c b r)];exact r) fun c xs r=>by rw[af (ntup c xs r)];exact r
   rcases hc with rfl|hc
   ·exact hbe
   ·rintro rfl;rcases he with z|z
    ·exact nown c b hc z
    ·rw[hc] at z;cases z;exact hb rfl
end
set_option genCtorIdx false
structure Un (fs ex:List Addr)(H H':Hp)(h h':Heap):Prop where
 keep:∀b o,h.get? b=some o->H b=none->b ∉ fs->b ∉ ex->h'.get? b=some o
 slot:∀b o,h.get? b=some o->H b=none->b∈fs->b ∉ ex->∃sl,h'.get? b=some { o with slots:=sl }
 free:∀b o,h.get? b=some o->H b=none->b ∉ ex->H' b=none
 there:∀b o,h.get? b=some o->b ∉ ex->∃o',h'.get? b=some o'
 tups:∀b xs,H b=some (.tup xs)->H' b=some (.tup xs)
 frzs:∀b o u,H b=some (.frz o u)->H' b=some (.frz o u)
 tbls:∀b ps,H b=some (.tbl ps)->∃more,H' b=some (.tbl (ps++more))
section
variable {fs fs' ex ex':List Addr}{H H1 H2:Hp}{h h1 h2 h':Heap}{a x e:Addr}{o:HO}
theorem Un.any (u:Un fs ex H H1 h h1)(q:h.get? b=some ob)(n:H b=none)(hx:b ∉ ex):∃sl,h1.get? b=some { ob with slots:=sl }:=by
 by_cases hb:b∈fs
 ·exact u.slot b ob q n hb hx
 ·exact⟨ob.slots,u.keep b ob q n hb hx⟩
theorem Un.kept (k:∀b u,h.get? b=some u->h'.get? b=some u):Un fs ex H H h h' :=
 ⟨fun b ob q _ _ _=>k b ob q,fun b ob q _ _ _=>⟨ob.slots,k b ob q⟩,fun _ _ _ n _=>n,fun b ob q _=>⟨ob,k b ob q⟩,fun _ _ q=>q,fun _ _ _ q=>q,fun _ ps q=>⟨#[],by rw[q];simp⟩⟩
theorem Un.refl:Un fs ex H H h h:=Un.kept fun _ _ q=>q
theorem Un.laid (k:∀b u,h.get? b=some u->h'.get? b=some u)(hp:h.objs.size<=a)(hn:H a=none):Un fs ex H (upd H a o) h h' where
 keep:=fun b u q _ _ _=>k b u q
 slot:=fun b u q _ _ _=>⟨u.slots,k b u q⟩
 free:=fun b u q n _=>by rw[af (M8 (MK (MR q) hp))];exact n
 there:=fun b u q _=>⟨u,k b u q⟩
 tups:=fun b xs q=>by rw[af (av q hn)];exact q
 frzs:=fun b u xs q=>by rw[af (av q hn)];exact q
 tbls:=fun b ps q=>⟨#[],by rw[af (av q hn),q];simp⟩
theorem Un.write (mu:Mut (H x))(he:e=x\/H e=some (.own x))(k:∀b u,b≠e->h.get? b=some u->h'.get? b=some u)(heo:∃u,h'.get? e=some u):Un fs ex H (upd H x o) h h':=by
 have hx:∀b,H b=none->b≠x:=fun b n z=>by subst z;rw[n] at mu;exact mu
 have hb:∀b,H b=none->b≠e:=fun b n z=>by
  subst z;rcases he with r|r
  ·exact hx b n r
  ·rw[n] at r;cases r
 have hm:∀b u,H b=some u->¬Mut (some u)->b≠x:=fun b u q nm z=>by subst z;rw[q] at mu;exact nm mu
 refine⟨fun b u q n _ _=>k b u (hb b n) q,fun b u q n _ _=>⟨u.slots,k b u (hb b n) q⟩,fun b u q n _=>by rw[af (hx b n)];exact n,fun b u q _=>?_,
  fun b xs q=>by rw[af (hm b _ q fun z=>z)];exact q,fun b u xs q=>by rw[af (hm b _ q fun z=>z)];exact q,fun b ps q=>⟨#[],by rw[af (hm b _ q fun z=>z),q];simp⟩⟩
 by_cases hbe:b=e
 ·subst hbe;exact heo
 ·exact⟨u,k b u hbe q⟩
end
noncomputable def trk (h:Heap)(H:Hp):List Addr:=(List.range h.objs.size).filter fun a=>(H a).isSome
noncomputable def nv (h:Heap)(H:Hp):Heap:=W.hideAll h (trk h H)
theorem xZ (h:Heap)(H:Hp):(nv h H).objs.size=h.objs.size:=W.hideAll_size _ _
theorem Cq {h:Heap}{H:Hp}(e:h.get? b=some o)(n:H b=none):(nv h H).get? b=some o :=
 W.hideAll_get _ e fun hm=>by have q:(H b).isSome=true:=(QG.mp hm).2;rw[n] at q;simp at q
theorem Do (e:(nv h H).get? b=some o):h.get? b=some o/\H b=none:=by
 have e':h.get? b=some o:=W.of_hideAll (trk h H) e;refine⟨e',?_⟩;cases q:H b with
 | none=>rfl
 | some x =>have hm:b∈trk h H:=QG.mpr ⟨List.mem_range.mpr (MR e'),by simp[q]⟩;have z:(nv h H).get? b=none:=W.hideAll_none (trk h H) hm;rw[z] at e;cases e
end L2
namespace L2
structure Mod (K:W.Frag)(mg:Str->Option Value)(base:Heap):Prop where
 kin:K.In base
 glob:base.Ns mainGlobals mg
 blt:∃mb,base.Ns builtinsNs mb/\∀x:Str,x≠"__name__"->mb x=bootBuiltins x
 nolimit:base.NoLimit
structure Cx where
 prog:Program
 w:World
 K:W.Frag
 mg:Str->Option Value
 base:Heap
 A:Around
 N:List Str
 s₀:Shared
 H₀:Hp
 env:Env
 outer:List Env
 stack:List Env
 ex:List Addr
 fn:Str->Bool
 calm:Bool
 pn:List (Addr × Obj)
 xe:Value->Shared->Prop
noncomputable def frs (l:List Env):List Addr:=l.filterMap (·.frame)
noncomputable abbrev Cx.fs (X:Cx):List Addr:=frs X.outer
def Vis (sc:Scope)(x:Str):Prop:=sc.names.lookup x=some .local\/sc.names.lookup x=some .cell\/sc.names.lookup x=some .free
def Loc (sc:Scope)(x:Str):Prop:=sc.names.lookup x=some .local\/sc.names.lookup x=some .cell
def LJ (env:Env)(h:Heap)(m:Str->Option Value)(x:Str)(u:Value):Prop :=
 (env.kindOf x=some .local/\m x=some u)\/((env.kindOf x=some .cell\/env.kindOf x=some .free)/\∃c,env.cells.lookup x=some c/\h.IsCell c (some u))
structure Cx.Ok (X:Cx):Prop where
 mod:Mod X.K X.mg X.base
 kind:X.env.scope.kind=.function
 glob:X.env.globals=mainGlobals
 blt:X.env.builtins=builtinsNs
 above:X.s₀.heap.objs.size<=X.env.locals
 inj:∀x y c,X.env.cells.lookup x=some c->X.env.cells.lookup y=some c->x=y
 has:∀x,(X.env.kindOf x=some .cell\/X.env.kindOf x=some .free)->∃c,X.env.cells.lookup x=some c
 cab:∀x c,X.fn x=true->X.env.cells.lookup x=some c->X.s₀.heap.objs.size<=c
 hd:X.calm=true->X.A.handled=none
 frames:X.A.frames=some X.stack
 stk:X.stack=X.outer\/(X.stack=X.env::X.outer/\X.env.frame=some X.env.locals)
 exf:∀b∈X.ex,b≠X.env.locals/\∀x c,X.env.cells.lookup x=some c->c≠b
 bs:∀b o,X.base.get? b=some o->X.s₀.heap.get? b=some o/\X.H₀ b=none
 bsz:X.base.objs.size<=X.s₀.heap.objs.size
 noex:∀b o,X.base.get? b=some o->b ∉ X.ex
 exfs:∀b∈X.ex,b ∉ X.fs
 funs:X.s₀.heap.FunFrames X.base X.outer
 frf:∀b∈X.fs,X.H₀ b=none
structure Inv (X:Cx)(pins:List (Addr × Obj))(σ:List (Option V))(H:Hp)(s:Shared):Prop where
 ok:X.Ok
 os:s.os=X.s₀.os
 bare:AllBare s.gens
 base:Un X.fs X.ex X.H₀ H X.s₀.heap s.heap
 loc:∃m,s.heap.Ns X.env.locals m/\∀(i:Nat) (x:Str) (v:V),X.N[i]?=some x->σ[i]?=some (some v)->Vis X.env.scope x->∃u,RelV v u/\LJ X.env s.heap m x u
 cell:∀x c,X.env.cells.lookup x=some c->∃v,s.heap.IsCell c v
 free:H X.env.locals=none
 freeC:∀x c,X.env.cells.lookup x=some c->H c=none
 pin:∀p∈X.pn++pins,s.heap.get? p.1=some p.2/\H p.1=none/\p.1≠X.env.locals/\p.1 ∉ X.fs/\∀v,p.2.data≠.cell v
 hok:HOk X.prog X.w H s.heap
 len:σ.length=X.N.length
section
variable {X:Cx}{pins:List (Addr × Obj)}{σ:List (Option V)}{H H':Hp}{s:Shared}{h':Heap}
theorem Cx.Ok.nofr (ok:X.Ok)(e:X.base.get? b=some o):b ∉ X.fs:=fun hb=>by have:=(ok.funs.mem hb).1;rw[e] at this;cases this
theorem Inv.bs (I:Inv X pins σ H s):∀b o,X.base.get? b=some o->s.heap.get? b=some o/\H b=none:=fun b o e =>
 ⟨I.base.keep b o (I.ok.bs b o e).1 (I.ok.bs b o e).2 (I.ok.nofr e) (I.ok.noex b o e),I.base.free b o (I.ok.bs b o e).1 (I.ok.bs b o e).2 (I.ok.noex b o e)⟩
theorem Inv.bk (I:Inv X pins σ H s):∀b o,X.base.get? b=some o->s.heap.get? b=some o:=fun b o e=>(I.bs b o e).1
theorem Inv.mod (I:Inv X pins σ H s):Mod X.K X.mg X.base:=I.ok.mod
theorem Inv.kIn (I:Inv X pins σ H s):X.K.In s.heap:=I.ok.mod.kin.keeps I.bk
theorem Inv.lt (I:Inv X pins σ H s):X.env.locals<s.heap.objs.size:=let ⟨_,hn,_⟩:=I.loc;hn.lt
theorem Inv.sz (I:Inv X pins σ H s):X.s₀.heap.objs.size<=s.heap.objs.size:=MY I.ok.above (NQ I.lt)
theorem Inv.nofs (I:Inv X pins σ H s){a:Addr}(h:s.heap.objs.size<=a):a ∉ X.fs:=fun hb=>by obtain⟨_,o,ho,_⟩:=I.ok.funs.mem hb;exact absurd (MK (MR ho) (MY I.sz h)) (OD _)
theorem Inv.cne (I:Inv X pins σ H s):∀x c,X.env.cells.lookup x=some c->c≠X.env.locals:=fun x c e z=>by obtain⟨v,o,ho,hd⟩:=I.cell x c e;obtain⟨m,⟨o',es,ep,ho',hd',_⟩,_⟩:=I.loc;rw[z,ho'] at ho;cases ho;rw[hd'] at hd;cases hd
theorem Inv.funs (I:Inv X pins σ H s):s.heap.FunFrames X.base X.outer:=by
 have all:∀(l:List Env),(∀b∈frs l,b∈X.fs)->X.s₀.heap.FunFrames X.base l->s.heap.FunFrames X.base l:=by
  intro l
  induction l with
  | nil=>intro _ _;trivial
  | cons env r ih =>intro hs hl;obtain⟨hk,⟨L,o,hf,hn,ho,hd⟩,hr⟩:=hl;have hL:L∈X.fs:=hs L (by unfold frs;rw[ND,hf];exact MQ);obtain⟨sl,e⟩:=I.base.slot L o ho (I.ok.frf L hL) hL fun z=>I.ok.exfs L z hL;exact⟨hk,⟨L,_,hf,hn,e,hd⟩,ih (fun b hb=>hs b (by unfold frs;rw[ND,hf];exact MM _ hb)) hr⟩
 exact all X.outer (fun _ hb=>hb) I.ok.funs
theorem Inv.stack (I:Inv X pins σ H s):s.heap.FunFrames X.base X.stack:=by
 rcases I.ok.stk with e|⟨e,hf⟩
 ·rw[e];exact I.funs
 ·rw[e];obtain⟨m,hn,_⟩:=I.loc;refine .cons (by rw[I.ok.kind];decide) hf hn ?_ I.funs;exact PC (MY I.ok.bsz I.ok.above)
theorem Inv.stkSub (I:Inv X pins σ H s):∀b∈frs X.stack,b∈X.env.locals::X.fs:=fun b hb=>by
 rcases I.ok.stk with e|⟨e,hf⟩
 ·rw[e] at hb;exact MM _ hb
 ·rw[e] at hb;unfold frs at hb;rw[ND,hf] at hb;exact hb
theorem Inv.stkFree (I:Inv X pins σ H s):∀b∈frs X.stack,H b=none:=fun b hb=>by
 rcases NB.mp (I.stkSub b hb) with e|hb
 ·rw[e];exact I.free
 ·obtain⟨_,o,ho,_⟩:=I.ok.funs.mem hb;exact I.base.free b o ho (I.ok.frf b hb) fun z=>I.ok.exfs b z hb
theorem Inv.step {t':Nat}{d':Drawn}{ch:List Addr}(I:Inv X pins σ H s)(hch:∀b∈ch,(b∈X.ex\/X.s₀.heap.objs.size<=b)/\b≠X.env.locals/\(∀x c,X.env.cells.lookup x=some c->c≠b)/\∀p∈X.pn++pins,p.1≠b)(keep:∀b o,b≠X.env.locals->b ∉ X.fs->b ∉ ch->s.heap.get? b=some o->H b=none->h'.get? b=some o)(slot:∀b o,b≠X.env.locals->b∈X.fs->b ∉ ch->s.heap.get? b=some o->H b=none->∃sl,h'.get? b=some { o with slots:=sl })(free:∀b o,b ∉ ch->s.heap.get? b=some o->H b=none->H' b=none)(there:∀b o,b ∉ ch->s.heap.get? b=some o->∃o',h'.get? b=some o')(tups:∀b xs,H b=some (.tup xs)->H' b=some (.tup xs))(frzs:∀b o u,H b=some (.frz o u)->H' b=some (.frz o u))(tbls:∀b ps,H b=some (.tbl ps)->∃more,H' b=some (.tbl (ps++more)))(ns:∀m,s.heap.Ns X.env.locals m->h'.Ns X.env.locals m)(hok:HOk X.prog X.w H' h')(hg:AllBare g') :
  Inv X pins σ H' { s with heap:=h',gens:=g',drawn:=d',toks:=t' }:=by
 have neL:∀b o,X.s₀.heap.get? b=some o->b≠X.env.locals:=fun b o e=>M8 (MK (MR e) I.ok.above);have neC:∀b o,X.s₀.heap.get? b=some o->b ∉ X.ex->b ∉ ch:=fun b o e hx hb=>by
  rcases (hch b hb).1 with z|z
  ·exact hx z
  ·exact absurd (MK (MR e) z) (OD _)
 have cellK:∀x c,X.env.cells.lookup x=some c->∀v,s.heap.IsCell c v->h'.IsCell c v:=fun x c e v ⟨o,ho,hd⟩=>by
  have nch:c ∉ ch:=fun z=>(hch c z).2.2.1 x c e rfl;by_cases hc:c∈X.fs
  ·obtain⟨sl,q⟩:=slot c o (I.cne x c e) hc nch ho (I.freeC x c e);exact⟨_,q,hd⟩
  ·exact⟨o,keep c o (I.cne x c e) hc nch ho (I.freeC x c e),hd⟩
 refine⟨I.ok,I.os,hg,⟨fun b o e n hb hx=>?_,fun b o e n hb hx=>?_,fun b o e n hx=>?_,fun b o e hx=>?_,fun b xs e=>tups b xs (I.base.tups b xs e),fun b o xs e=>frzs b o xs (I.base.frzs b o xs e),fun b ps e=>?_⟩,?_,fun x c e=>?_,?_,fun x c e=>?_,fun p hp=>?_,hok,I.len⟩
 ·exact keep b o (neL b o e) hb (neC b o e hx) (I.base.keep b o e n hb hx) (I.base.free b o e n hx)
 ·obtain⟨sl,e1⟩:=I.base.slot b o e n hb hx;obtain⟨sl',e2⟩:=slot b _ (neL b o e) hb (neC b o e hx) e1 (I.base.free b o e n hx);exact⟨sl',e2⟩
 ·obtain⟨o',e1⟩:=I.base.there b o e hx;exact free b o' (neC b o e hx) e1 (I.base.free b o e n hx)
 ·obtain⟨o',e1⟩:=I.base.there b o e hx;exact there b o' (neC b o e hx) e1
 ·obtain⟨m1,e1⟩:=I.base.tbls b ps e;obtain⟨m2,e2⟩:=tbls b _ e1;exact⟨m1++m2,by rw[e2,Array.append_assoc]⟩
 ·obtain⟨m,hn,hl⟩:=I.loc;refine⟨m,ns m hn,fun i x v e1 e2 e3=>?_⟩;obtain⟨u,r,l⟩:=hl i x v e1 e2 e3;refine⟨u,r,?_⟩;rcases l with l|⟨k,c,e,z⟩
  ·exact .inl l
  ·exact .inr ⟨k,c,e,cellK x c e _ z⟩
 ·obtain⟨v,z⟩:=I.cell x c e;exact⟨v,cellK x c e v z⟩
 ·obtain⟨m,⟨o,_,_,ho,_⟩,_⟩:=I.loc;exact free _ o (fun z=>(hch _ z).2.1 rfl) ho I.free
 ·obtain⟨v,o,ho,hd⟩:=I.cell x c e;exact free c o (fun z=>(hch c z).2.2.1 x c e rfl) ho (I.freeC x c e)
 ·obtain⟨e,n,ne,nf,d⟩:=I.pin p hp;have nch:p.1 ∉ ch:=fun z=>(hch p.1 z).2.2.2 p hp rfl;exact⟨keep p.1 p.2 ne nf nch e n,free p.1 p.2 nch e n,ne,nf,d⟩
theorem Inv.un {t':Nat}(I:Inv X pins σ H s)(u:Un X.fs [] H H' s.heap h')(hok:HOk X.prog X.w H' h'):Inv X pins σ H' { s with heap:=h',toks:=t' }:=by
 obtain⟨m,⟨o,es,ep,ho,r⟩,_⟩:=id I.loc;obtain⟨sl,hL⟩:=u.any ho I.free (by simp);exact I.step (g':=s.gens) (d':=s.drawn) (ch:=[]) (fun _ z=>nomatch z) (fun b o _ hb _ e n=>u.keep b o e n hb (by simp)) (fun b o _ hb _ e n=>u.slot b o e n hb (by simp)) (fun b o _ e n=>u.free b o e n (by simp)) (fun b o _ e=>u.there b o e (by simp)) u.tups u.frzs u.tbls (fun m' hm=>by obtain⟨o',es',ep',ho',r'⟩:=hm;rw[ho] at ho';cases ho';exact⟨_,es',ep',hL,r'⟩) hok I.bare
theorem Inv.call {t':Nat}{d':Drawn}(I:Inv X pins σ H s)(u:Un (frs X.stack) ch H H' s.heap h')(hok:HOk X.prog X.w H' h')(hg:AllBare g')(hch:∀b∈ch,(b∈X.ex\/X.s₀.heap.objs.size<=b)/\b≠X.env.locals/\(∀x c,X.env.cells.lookup x=some c->c≠b)/\∀p∈X.pn++pins,p.1≠b) :
  Inv X pins σ H' { s with heap:=h',gens:=g',drawn:=d',toks:=t' }:=by
 obtain⟨m,⟨o,es,ep,ho,r⟩,_⟩:=id I.loc;obtain⟨sl,hL⟩:=u.any ho I.free fun z=>(hch _ z).2.1 rfl;exact I.step (ch:=ch) hch (fun b o hL hb hc e n=>u.keep b o e n (fun z=>(NB.mp (I.stkSub b z)).elim hL hb) hc) (fun b o _ _ hc e n=>u.any e n hc) (fun b o hc e n=>u.free b o e n hc) (fun b o hc e=>u.there b o e hc) u.tups u.frzs u.tbls (fun m' hm=>by obtain⟨o',es',ep',ho',r'⟩:=hm;rw[ho] at ho';cases ho';exact⟨_,es',ep',hL,r'⟩) hok hg
theorem Inv.turned {t':Nat}{it:Addr}(I:Inv X pins σ H s)(k:∀b o,b≠it->s.heap.get? b=some o->h'.get? b=some o)(hn:H it=none)(hL:it≠X.env.locals)
  (h1:it∈X.ex\/X.s₀.heap.objs.size<=it) (h2:∀x c,X.env.cells.lookup x=some c->c≠it) (h3:∀p∈X.pn++pins,p.1≠it):Inv X pins σ H { s with heap:=h',toks:=t' }:=by
 have nit:∀b u,H b=some u->b≠it:=fun b u e z=>by rw[z,hn] at e;cases e
 refine I.step (g':=s.gens) (d':=s.drawn) (ch:=[it]) (fun b hb=>?_) (fun b o _ _ hc e _=>k b o (fun z=>hc (by simp[z])) e) (fun b o _ _ hc e _=>⟨o.slots,k b o (fun z=>hc (by simp[z])) e⟩) (fun _ _ _ _ n=>n)
  (fun b o hc e=>⟨o,k b o (fun z=>hc (by simp[z])) e⟩) (fun _ _ e=>e) (fun _ _ _ e=>e) (fun b ps e=>⟨#[],by rw[e];simp⟩) (fun m hm=>?_) (fun b u e=>?_) I.bare
 ·have e:b=it:=by simpa using hb
  subst e;exact⟨h1,hL,h2,h3⟩
 ·obtain⟨o,es,ep,ho,r⟩:=hm;exact⟨o,es,ep,k _ o (Ne.symm hL) ho,r⟩
 ·refine(I.hok b u e).stay (fun c v hc q=>k c v ?_ q) (fun _ q=>q) fun _ _ q=>q;rcases hc with z|z
  ·rw[z];exact nit b u e
  ·exact nit c _ z
theorem Inv.tok (I:Inv X pins σ H s)(t:Nat):Inv X pins σ H { s with toks:=t }:=I.un (h':=s.heap) (t':=t) Un.refl I.hok
theorem Inv.kept {t':Nat}(I:Inv X pins σ H s)(k:∀b u,s.heap.get? b=some u->h'.get? b=some u):Inv X pins σ H { s with heap:=h',toks:=t' }:=I.un (Un.kept k) (I.hok.kept k)
theorem Inv.laid {a:Addr}{t':Nat}(I:Inv X pins σ H s)(k:∀b u,s.heap.get? b=some u->h'.get? b=some u)(hp:s.heap.objs.size<=a)(new:ObjOk X.prog X.w (upd H a o) h' a o) :
  Inv X pins σ (upd H a o) { s with heap:=h',toks:=t' }:=I.un (Un.laid k hp (I.hok.fresh hp)) (I.hok.laid k hp new)
theorem Inv.write {e:Addr}{t':Nat}(I:Inv X pins σ H s)(mu:Mut (H x))(he:e=x\/H e=some (.own x))(k:∀b u,b≠e->s.heap.get? b=some u->h'.get? b=some u)(heo:∃u,h'.get? e=some u)(new:ObjOk X.prog X.w (upd H x o) h' x o):Inv X pins σ (upd H x o) { s with heap:=h',toks:=t' }:=I.un (Un.write mu he k heo) (I.hok.write mu he k heo new)
theorem Inv.pins_of {pins':List (Addr × Obj)}(I:Inv X pins σ H s)(h:∀p∈pins',s.heap.get? p.1=some p.2/\H p.1=none/\p.1≠X.env.locals/\p.1 ∉ X.fs/\∀v,p.2.data≠.cell v):Inv X pins' σ H s :=
 ⟨I.ok,I.os,I.bare,I.base,I.loc,I.cell,I.free,I.freeC,fun p hp=>(M9.mp hp).elim (fun z=>I.pin p (NT _ z)) (h p),I.hok,I.len⟩
theorem lQ {N:List Str}(hN:N.Nodup){i j:Nat}(a:N[i]?=some x)(b:N[j]?=some x):i=j:=by obtain⟨h1,e1⟩:=MC.mp a;obtain⟨h2,e2⟩:=MC.mp b;exact(List.getElem_inj hN).mp (e1.trans e2.symm)
theorem oR {M:Model}{E:Value->Shared->Prop}{i:Nat}{Q:Unit->Shared->Prop}(I:Inv X pins σ H s)(hN:X.N.Nodup)(hi:X.N[i]?=some x)(hx:Loc X.env.scope x)(r:RelV v u)(h:∀s',Inv X pins (σ.set i (some v)) H s'->(∃a,Heap.SameBut a s.heap s'.heap/\(a=X.env.locals\/X.env.cells.lookup x=some a))->Q () s')(hf:X.fn x=true\/X.env.scope.names.lookup x=some .local:=by first|exact .inl rfl|exact .inr rfl|assumption):wpAny M A (storeName X.env x u) Q E s:=by
 obtain⟨m,hn,hl⟩:=id I.loc;have hcls:(X.env.scope.kind == .class || (X.env.scope.kind == .module && X.env.locals != X.env.globals))=false:=by rw[I.ok.kind];rfl
 have hiσ:i<σ.length:=by rw[I.len];exact(MC.mp hi).1
 have cne:=I.cne;have tracked:∀ {a:Addr}{h':Heap},(∃o,s.heap.get? a=some o/\H a=none)->Heap.SameBut a s.heap h'->HOk X.prog X.w H h':=fun {a h'} ha hs b ob e=>by
  obtain⟨_,_,hfree⟩:=ha;refine(I.hok b ob e).stay (fun c w' hc q=>(hs.2 c ?_).trans q) (fun _ q=>q) fun _ _ q=>q;rintro rfl;rcases hc with rfl|hc
  ·rw[hfree] at e;cases e
  ·rw[hfree] at hc;cases hc
 rcases hx with hk|hk
 ·refine wpAny_storeName_local hk hn (fun h' hn' hs=>?_) hcls;obtain⟨oL,_,_,hoL,_⟩:=id hn;refine h _ ⟨I.ok,I.os,I.bare,⟨fun b o e n hb hx=>?_,fun b o e n hb hx=>?_,I.base.free,fun b o e hx=>?_,I.base.tups,I.base.frzs,I.base.tbls⟩,⟨_,hn',fun j y v' e1 e2 e3=>?_⟩,fun y c e=>?_,I.free,I.freeC,fun p hp=>?_,tracked ⟨oL,hoL,I.free⟩ hs,by simpa using I.len⟩ ⟨_,hs,.inl rfl⟩
  ·exact(hs.2 b (M8 (MK (MR e) I.ok.above))).trans (I.base.keep b o e n hb hx)
  ·obtain⟨sl,e1⟩:=I.base.slot b o e n hb hx;exact⟨sl,(hs.2 b (M8 (MK (MR e) I.ok.above))).trans e1⟩
  ·obtain⟨o',e1⟩:=I.base.there b o e hx;exact⟨o',(hs.2 b (M8 (MK (MR e) I.ok.above))).trans e1⟩
  ·by_cases hj:j=i
   ·subst hj;rw[hi] at e1;cases e1;rw[MW hiσ] at e2;cases e2;exact⟨u,r,.inl ⟨hk,by simp⟩⟩
   ·rw[MH (Ne.symm hj)] at e2;obtain⟨u',r',q⟩:=hl j y v' e1 e2 e3;refine⟨u',r',?_⟩;rcases q with⟨k,e⟩|⟨k,c,e,z⟩
    ·refine .inl ⟨k,?_⟩;have:y≠x:=fun e=>hj (lQ hN e1 (e ▸ hi));simp[this,e]
    ·exact .inr ⟨k,c,e,z.sameBut hs (cne y c e)⟩
  ·obtain⟨w',z⟩:=I.cell y c e;exact⟨w',z.sameBut hs (cne y c e)⟩
  ·obtain⟨e,n,ne,nf,d⟩:=I.pin p hp;exact⟨(hs.2 p.1 ne).trans e,n,ne,nf,d⟩
 ·have hfn:X.fn x=true:=by
   rcases hf with z|z
   ·exact z
   ·rw[z] at hk;cases hk
  obtain⟨c,hc⟩:=I.ok.has x (.inl hk);obtain⟨w',z⟩:=I.cell x c hc;refine wpAny_storeName_cell I.ok.kind hk hc z (fun h' hc' hs=>?_);obtain⟨oc,hoc,hocd⟩:=id z;refine h { s with heap:=h' } ⟨I.ok,I.os,I.bare,⟨fun b o e n hb hx=>?_,fun b o e n hb hx=>?_,I.base.free,fun b o e hx=>?_,I.base.tups,I.base.frzs,I.base.tbls⟩,⟨m,hn.sameBut hs (Ne.symm (cne x c hc)),fun j y v' e1 e2 e3=>?_⟩,fun y c' e=>?_,I.free,I.freeC,fun p hp=>?_,tracked ⟨oc,hoc,I.freeC x c hc⟩ hs,by simpa using I.len⟩ ⟨c,hs,.inr hc⟩
  ·exact(hs.2 b (M8 (MK (MR e) (I.ok.cab x c hfn hc)))).trans (I.base.keep b o e n hb hx)
  ·obtain⟨sl,e1⟩:=I.base.slot b o e n hb hx;exact⟨sl,(hs.2 b (M8 (MK (MR e) (I.ok.cab x c hfn hc)))).trans e1⟩
  ·obtain⟨o',e1⟩:=I.base.there b o e hx;exact⟨o',(hs.2 b (M8 (MK (MR e) (I.ok.cab x c hfn hc)))).trans e1⟩
  ·by_cases hj:j=i
   ·subst hj;rw[hi] at e1;cases e1;rw[MW hiσ] at e2;cases e2;exact⟨u,r,.inr ⟨.inl hk,c,hc,hc'⟩⟩
   ·rw[MH (Ne.symm hj)] at e2;obtain⟨u',r',q⟩:=hl j y v' e1 e2 e3;refine⟨u',r',?_⟩;rcases q with q|⟨k,c',e,z'⟩
    ·exact .inl q
    ·refine .inr ⟨k,c',e,z'.sameBut hs ?_⟩;rintro rfl;exact hj (lQ hN e1 (I.ok.inj _ _ _ e hc ▸ hi))
  ·by_cases hcc:c'=c
   ·subst hcc;exact⟨_,hc'⟩
   ·obtain⟨w2,z2⟩:=I.cell y c' e;exact⟨w2,z2.sameBut hs hcc⟩
  ·obtain⟨e,n,ne,nf,d⟩:=I.pin p hp;refine⟨(hs.2 p.1 ?_).trans e,n,ne,nf,d⟩;intro q;rw[q,hoc] at e;have q':oc=p.2:=NL e;exact d w' (by rw[<-q'];exact hocd)
theorem de {M:Model}{E:Value->Shared->Prop}{i:Nat}{Q:Unit->Shared->Prop}(I:Inv X pins σ H s)(hN:X.N.Nodup)(hi:X.N[i]?=some x)(hx:Loc X.env.scope x)(r:RelV v u)(h:∀s',Inv X pins (σ.set i (some v)) H s'->Q () s')(hf:X.fn x=true\/X.env.scope.names.lookup x=some .local:=by first|exact .inl rfl|exact .inr rfl|assumption):wpAny M A (storeName X.env x u) Q E s :=
 oR I hN hi hx r (fun s' I' _=>h s' I') hf
theorem Inv.call' {s':Shared}(I:Inv X pins σ H s)(ho:s'.os=s.os)(u:Un (frs X.stack) ch H H' s.heap s'.heap)(hok:HOk X.prog X.w H' s'.heap)(hg:AllBare s'.gens)(hch:∀b∈ch,(b∈X.ex\/X.s₀.heap.objs.size<=b)/\b≠X.env.locals/\(∀x c,X.env.cells.lookup x=some c->c≠b)/\∀p∈X.pn++pins,p.1≠b):Inv X pins σ H' s':=by
 obtain⟨h',g',d',t',o'⟩:=s';have e:o'=s.os:=ho;subst e;exact I.call (g':=g') (t':=t') (d':=d') u hok hg hch
end
noncomputable abbrev XK:=Value->Option Addr->Hp->Prop
noncomputable abbrev St:=List (Option V)
noncomputable abbrev VK:=V->Hp->Prop
noncomputable abbrev TE:=St->Hp->VK->Prop
noncomputable abbrev TT:=St->Hp->(Bool->Hp->Prop)->Prop
noncomputable abbrev TA:=St->Hp->(List V->Hp->Prop)->Prop
structure Ends where
 nx:St->Hp->Prop
 rt:VK
 bk:St->Hp->Prop:=fun _ _=>False
 ct:St->Hp->Prop:=fun _ _=>False
noncomputable abbrev TS:=Ends->St->Hp->Prop
def EP (X:Cx)(pins:List (Addr × Obj))(σ:St)(Q:VK)(u:Value)(s':Shared):Prop:=∃v H',Inv X pins σ H' s'/\RelV v u/\Q v H'
def TP (X:Cx)(pins:List (Addr × Obj))(σ:St)(Q:Bool->Hp->Prop)(b:Bool)(s':Shared):Prop:=∃H',Inv X pins σ H' s'/\Q b H'
def AP (X:Cx)(pins:List (Addr × Obj))(σ:St)(Q:List V->Hp->Prop)(us:List Value)(s':Shared):Prop:=∃vs H',Inv X pins σ H' s'/\Vals vs us/\Q vs H'
def SP (X:Cx)(pins:List (Addr × Obj))(D:Ends)(f:Flow)(s':Shared):Prop :=
 match f with
 | .next=>∃σ' H',Inv X pins σ' H' s'/\D.nx σ' H'
 | .brk=>∃σ' H',Inv X pins σ' H' s'/\D.bk σ' H'
 | .cont=>∃σ' H',Inv X pins σ' H' s'/\D.ct σ' H'
 | .ret u=>∃v σ' H',Inv X pins σ' H' s'/\RelV v u/\D.rt v H'
def PE (X:Cx)(e:Expr)(t:TE):Prop :=
 ∀(pins:List (Addr × Obj)) (s:Shared) (σ:St) (H:Hp) (Q:VK),Inv X pins σ H s->t σ H Q->wpAny (model X.prog X.w) X.A (eval e X.env) (EP X pins σ Q) X.xe s
def PT (X:Cx)(e:Expr)(t:TT):Prop :=
 ∀(pins:List (Addr × Obj)) (s:Shared) (σ:St) (H:Hp) (Q:Bool->Hp->Prop),Inv X pins σ H s->t σ H Q->wpAny (model X.prog X.w) X.A (isTrue e X.env (eval e X.env)) (TP X pins σ Q) X.xe s
def PW (X:Cx)(e:Expr)(t:TT):Prop :=
 ∀(whole:Sem Value) (pins:List (Addr × Obj)) (s:Shared) (σ:St) (H:Hp) (Q:Bool->Hp->Prop),Inv X pins σ H s->t σ H Q->wpAny (model X.prog X.w) X.A (isTrue e X.env whole) (TP X pins σ Q) X.xe s
theorem PW.pt (h:PW X e t):PT X e t:=h _
def PA (X:Cx)(es:List Expr)(t:TA):Prop :=
 ∀(pos:Pos) (pins:List (Addr × Obj)) (s:Shared) (σ:St) (H:Hp) (Q:List V->Hp->Prop),Inv X pins σ H s->t σ H Q->wpAny (model X.prog X.w) X.A (spliced (backTo pos (starEach es X.env))) (AP X pins σ Q) X.xe s
def PS (X:Cx)(st:Stmt)(t:TS):Prop :=
 ∀(pins:List (Addr × Obj)) (s:Shared) (σ:St) (H:Hp) (D:Ends),Inv X pins σ H s->t D σ H->wpAny (model X.prog X.w) X.A (exec st X.env) (SP X pins D) X.xe s
def PSs (X:Cx)(st:List Stmt)(t:TS):Prop :=
 ∀(pins:List (Addr × Obj)) (s:Shared) (σ:St) (H:Hp) (D:Ends),Inv X pins σ H s->t D σ H->wpAny (model X.prog X.w) X.A (execs st X.env) (SP X pins D) X.xe s
theorem thn {α:Type}{t:Sem α}{Q Q':α->Shared->Prop}{M:Model}{E:Value->Shared->Prop}(h:wpAny M A t Q E s)(hQ:∀a s,Q a s->Q' a s):wpAny M A t Q' E s:=wpAny_mono h hQ fun _ _ x=>x
end L2
namespace L2
section
variable {X:Cx}
noncomputable def Du (i:Nat):TE:=fun σ H Q=>∃v,σ[i]?=some (some v)/\Q v H
noncomputable def tC (v:V):TE:=fun _ H Q=>Q v H
theorem dW {i:Nat}{x:Str}{pos:Pos}(hN:X.N[i]?=some x)(hv:Vis X.env.scope x)(hd:(x == ("__debug__":Str))=false:=by decide)(hcd:(x == ("__classdict__":Str))=false:=by decide):PE X (.Name x pos) (Du i):=by
 intro pins s σ H Q I h;obtain⟨v,e,h⟩:=h;obtain⟨m,hn,hl⟩:=I.loc;obtain⟨u,r,l⟩:=hl i x v hN e hv;have fin:EP X pins σ Q u s:=⟨v,H,I,r,h⟩;rcases l with⟨hk,hm⟩|⟨hk,c,hc,hcell⟩
 ·exact wpAny_Name (wpAny_loadName_local I.ok.kind hk hn hm fin) hd
 ·rcases hk with hk|hk
  ·exact wpAny_Name (wpAny_loadName_cell I.ok.kind hk hc hcell fin) hd
  ·exact wpAny_Name (wpAny_loadName_free I.ok.kind hk hc hcell fin hcd) hd
theorem IA {i j pos}:PE X (.Constant (.int i) j pos) (tC (.int i)):=fun _ _ _ H _ I h=>wpAny_Constant_int ⟨.int i,H,I.tok _,⟨_,rfl⟩,h⟩
theorem J1 {b j pos}:PE X (.Constant (.bool b) j pos) (tC (.bl b)):=fun _ _ _ H _ I h=>Constant_bool ⟨.bl b,H,I,rfl,h⟩
theorem Hh {j pos}:PE X (.Constant .none j pos) (tC .non):=fun _ _ _ H _ I h=>Constant_none ⟨.non,H,I,rfl,h⟩
theorem uR {x j pos}:PE X (.Constant (.str x) j pos) (tC (.str x)):=fun _ _ _ H _ I h=>Calls.Constant_str ⟨.str x,H,I.tok _,⟨_,rfl⟩,h⟩
def Gl (X:Cx)(x:Str):Prop:=X.env.kindOf x=some .globalImplicit
theorem dH {E:Value->Shared->Prop}{σ:St}{Q:Value->Shared->Prop}(I:Inv X pins σ H s)(hg:Gl X x)(hm:X.mg x=some u)(h:Q u s)(hd:(x == ("__debug__":Str))=false:=by decide):wpAny (model X.prog X.w) X.A (eval (.Name x pos) X.env) Q E s :=
 Calls.Name_function_global I.ok.kind hg (Calls.loadGlobal_global (by rw[I.ok.glob];exact I.mod.glob.keeps I.bk) hm h) hd
theorem qX {E:Value->Shared->Prop}{pins:List (Addr × Obj)}{s:Shared}{σ:St}{H:Hp}{x:Str}{u:Value}{pos:Pos}{Q:Value->Shared->Prop}(I:Inv X pins σ H s)(hg:Gl X x)(hm:X.mg x=none)(hv:bootBuiltins x=some u)(h:Q u s)
  (hn:x≠"__name__":=by decide) (hd:(x == ("__debug__":Str))=false:=by decide):wpAny (model X.prog X.w) X.A (eval (.Name x pos) X.env) Q E s:=by
 obtain⟨mb,h1,h2⟩:=I.mod.blt;exact Calls.Name_function_global I.ok.kind hg (Calls.loadGlobal_builtin (by rw[I.ok.glob];exact I.mod.glob.keeps I.bk) hm (by rw[I.ok.blt];exact h1.keeps I.bk) ((h2 x hn).trans hv) h) hd
theorem wM (hg:Gl X x)(hm:X.mg x=some u)(r:RelV v u)(hd:(x == ("__debug__":Str))=false:=by decide):PE X (.Name x pos) (tC v) :=
 fun _ _ _ H _ I h=>dH I hg hm ⟨v,H,I,r,h⟩ hd
theorem DM {x:Str}{v:V}{u:Value}{pos:Pos}(hg:Gl X x)(hm:X.mg x=none)(hv:bootBuiltins x=some u)(r:RelV v u)(hn:x≠"__name__":=by decide)(hd:(x == ("__debug__":Str))=false:=by decide):PE X (.Name x pos) (tC v) :=
 fun _ _ _ H _ I h=>qX I hg hm hv ⟨v,H,I,r,h⟩ hn hd
variable {a b:Expr}{ta tb:TE}{pos:Pos}
noncomputable def tB (t:TE):TT:=fun σ H Q=>t σ H fun x H1=>∃c,x=.bl c/\Q c H1
theorem Io (h:PE X e t)(he:∀whole,isTrue e X.env whole=(do let v <-whole;standAt e.pos;holding [v] (truthy v)):=by intro _;rfl):PT X e (tB t):=by intro pins s σ H Q I hw;refine isTrue_plain (thn (h pins s σ H _ I hw) fun v s1 ⟨x,H1,I1,r1,q1⟩=>?_) (he _);obtain⟨d,rfl,q⟩:=q1;cases r1;exact wpAny_truthy_bool ⟨H1,I1,q⟩
variable {tA tB':TT}{rest:List Expr}
noncomputable def JL (t u:TT):TT:=fun σ H Q=>t σ H fun c H1=>if c=true then u σ H1 Q else Q false H1
noncomputable def tOr (t u:TT):TT:=fun σ H Q=>t σ H fun c H1=>if c=true then Q true H1 else u σ H1 Q
noncomputable def L6 (t:TT):TT:=fun σ H Q=>t σ H fun c H1=>Q (!c) H1
theorem DK (ha:PT X a tA):PW X (.BoolOp .And [a] pos) tA:=by
 intro wh pins s σ H Q I h;refine isTrue_and (thn (ha pins s σ H Q I h) fun c s1 e=>?_);cases c with
 | true=>exact isTrue_and_nil e
 | false=>exact e
theorem Hr (ha:PT X a tA):PW X (.BoolOp .Or [a] pos) tA:=by
 intro wh pins s σ H Q I h;refine isTrue_or (thn (ha pins s σ H Q I h) fun c s1 e=>?_);cases c with
 | false=>exact isTrue_or_nil e
 | true=>exact e
theorem HN (ha:PT X a tA)(hb:PW X (.BoolOp .And (b::rest) pos) tB'):PW X (.BoolOp .And (a::b::rest) pos) (JL tA tB'):=by
 intro wh pins s σ H Q I h;refine isTrue_and (thn (ha pins s σ H _ I h) fun c s1 ⟨H1,I1,q1⟩=>?_);cases c with
 | true=>exact hb wh pins s1 σ H1 Q I1 q1
 | false=>exact⟨H1,I1,q1⟩
theorem K5 (ha:PT X a tA)(hb:PW X (.BoolOp .Or (b::rest) pos) tB'):PW X (.BoolOp .Or (a::b::rest) pos) (tOr tA tB'):=by
 intro wh pins s σ H Q I h;refine isTrue_or (thn (ha pins s σ H _ I h) fun c s1 ⟨H1,I1,q1⟩=>?_);cases c with
 | true=>exact⟨H1,I1,q1⟩
 | false=>exact hb wh pins s1 σ H1 Q I1 q1
theorem GO (ha:PT X a tA):PT X (.UnaryOp .Not a pos) (L6 tA):=by intro pins s σ H Q I h;exact isTrue_not (ha pins s σ H (fun c H1=>Q (!c) H1) I h)
noncomputable def Kt (ta tb:TE):TE:=fun σ H Q=>ta σ H fun x H1=>∃c,x=.bl c/\if c=true then tb σ H1 Q else Q (.bl false) H1
noncomputable def LB (ta tb:TE):TE:=fun σ H Q=>ta σ H fun x H1=>∃c,x=.bl c/\if c=true then Q (.bl true) H1 else tb σ H1 Q
noncomputable def Kg (ta:TE):TE:=fun σ H Q=>ta σ H fun x H1=>∃c,x=.bl c/\Q (.bl (!c)) H1
theorem BH {op}(h:PE X a t):PE X (.BoolOp op [a] pos) t:=fun pins s σ H Q I hw=>BoolOp_one (h pins s σ H Q I hw)
theorem IE (ha:PE X a ta)(hb:PE X (.BoolOp .And (b::rest) pos) tb):PE X (.BoolOp .And (a::b::rest) pos) (Kt ta tb):=by
 intro pins s σ H Q I h;refine BoolOp_and (thn (ha pins s σ H _ I h) fun v s1 ⟨x,H1,I1,r1,q1⟩=>?_);obtain⟨c,rfl,q1⟩:=q1;cases r1;refine wpAny_truthy_bool ?_;cases c with
 | true=>exact hb pins s1 σ H1 Q I1 q1
 | false=>exact⟨.bl false,H1,I1,rfl,q1⟩
theorem K9 (ha:PE X a ta)(hb:PE X (.BoolOp .Or (b::rest) pos) tb):PE X (.BoolOp .Or (a::b::rest) pos) (LB ta tb):=by
 intro pins s σ H Q I h;refine BoolOp_or (thn (ha pins s σ H _ I h) fun v s1 ⟨x,H1,I1,r1,q1⟩=>?_);obtain⟨c,rfl,q1⟩:=q1;cases r1;refine wpAny_truthy_bool ?_;cases c with
 | false=>exact hb pins s1 σ H1 Q I1 q1
 | true=>exact⟨.bl true,H1,I1,rfl,q1⟩
theorem GR (ha:PE X a ta):PE X (.UnaryOp .Not a pos) (Kg ta):=by intro pins s σ H Q I h;refine UnaryOp_ (thn (ha pins s σ H _ I h) fun v s1 ⟨x,H1,I1,r1,q1⟩=>?_);obtain⟨c,rfl,q1⟩:=q1;cases r1;exact not_of (wpAny_truthy_bool ⟨.bl (!c),H1,I1,rfl,q1⟩)
noncomputable def tIf (t:TT)(ta tb:TE):TE:=fun σ H Q=>t σ H fun c H1=>if c=true then ta σ H1 Q else tb σ H1 Q
theorem t4 (hc:PT X c tA)(ha:PE X a ta)(hb:PE X b tb):PE X (.IfExp c a b pos) (tIf tA ta tb):=by
 intro pins s σ H Q I h;refine wpAny_IfExp (thn (hc pins s σ H _ I h) fun d s1 ⟨H1,I1,q1⟩=>?_);cases d with
 | true=>exact ha pins s1 σ H1 Q I1 q1
 | false=>exact hb pins s1 σ H1 Q I1 q1
end
end L2
namespace L2
def SqL (K:W.Frag)(H:Hp)(a:Addr)(xs:List V):Prop :=
 Rd H a (.lst xs) \/
  ∃(o:Obj) (its:Array Value) (n:Nat),K.lookup a=some o/\o.cls=.type "list"/\o.dict=none/\o.data=.seq its n/\its.size<=sizeLine/\Vals xs its.toList
def SqT (K:W.Frag)(H:Hp)(a:Addr)(xs:List V):Prop :=
 Rd H a (.tup xs) \/
  ∃(o:Obj) (its:Array Value) (n:Nat),K.lookup a=some o/\o.cls=.type "tuple"/\o.data=.seq its n/\its.size<=sizeLine/\Vals xs its.toList
noncomputable def Ly:Value->Option V
 | .none=>some .non
 | .bool b=>some (.bl b)
 | .int i _=>some (.int i)
 | .str x _=>some (.str x)
 | .bytes b _=>some (.byt b)
 | .float b _=>some (.flt b)
 | .ref a=>some (.ref a)
 | .type n=>some (.ty n)
 | _=>none
theorem RelV.abs (r:RelV x u):Ly u=some x:=by
 cases x with
 | non=>cases r;rfl
 | bl _=>cases r;rfl
 | int _=>obtain⟨t,rfl⟩:=r;rfl
 | str _=>obtain⟨t,rfl⟩:=r;rfl
 | byt _=>obtain⟨t,rfl⟩:=r;rfl
 | flt _=>obtain⟨t,rfl⟩:=r;rfl
 | ref _=>cases r;rfl
 | ty _=>cases r;rfl
theorem RelV.inj (r:RelV x u)(q:RelV y u):x=y:=NL (r.abs.symm.trans q.abs)
theorem Vals.inj:∀ {xs ys:List V}{us:List Value},Vals xs us->Vals ys us->xs=ys
 | _,_,_,.nil,.nil=>rfl
 | _,_,_,.cons r t,.cons r' t'=>by rw[r.inj r',Vals.inj t t']
section
variable {X:Cx}{pins:List (Addr × Obj)}{σ:St}{H:Hp}{s:Shared}{a:Addr}{xs ys:List V}
theorem SqL.of (h:H a=some (.lst xs)):SqL K H a xs:=.inl (.inl h)
theorem SqT.of (h:H a=some (.tup xs)):SqT K H a xs:=.inl (.inl h)
theorem Inv.list (I:Inv X pins σ H s)(h:SqL X.K H a xs):∃its:List Value,Vals xs its/\PlainL s.heap a its.toArray/\xs.length<=sizeLine:=by
 rcases h with h|⟨o,its,n,hk,hc,hd,hs,hz,r⟩
 ·obtain⟨z,its,n,r,e⟩:=h.ok I.hok;exact⟨its,r,⟨_,n,e,rfl,rfl,rfl⟩,z⟩
 ·refine⟨its.toList,r,⟨o,n,I.kIn a o hk,hc,hd,by simpa using hs⟩,?_⟩;have e:=r.length;simp only[Array.length_toList] at e;omega
theorem Inv.tuple (I:Inv X pins σ H s)(h:SqT X.K H a xs):∃its:List Value,Vals xs its/\IsTup s.heap a its.toArray/\xs.length<=sizeLine:=by
 rcases h with h|⟨o,its,n,hk,hc,hs,hz,r⟩
 ·obtain⟨z,its,r,p⟩:=h.ok I.hok;exact⟨its,r,p,z⟩
 ·refine⟨its.toList,r,⟨o,I.kIn a o hk,hc,n,by simpa using hs⟩,?_⟩;have e:=r.length;simp only[Array.length_toList] at e;omega
theorem Inv.list_inj (I:Inv X pins σ H s)(h:SqL X.K H a xs)(h':SqL X.K H a ys):xs=ys:=by
 obtain⟨its,r,⟨o,n,e,_,_,d⟩,_⟩:=I.list h;obtain⟨its',r',⟨o',n',e',_,_,d'⟩,_⟩:=I.list h';rw[e] at e';cases e';rw[d] at d';injection d' with d1 _
 have:its=its':=by simpa using NC Array.toList d1
 subst this;exact r.inj r'
theorem Inv.tuple_inj (I:Inv X pins σ H s)(h:SqT X.K H a xs)(h':SqT X.K H a ys):xs=ys:=by
 obtain⟨its,r,⟨o,e,_,n,d⟩,_⟩:=I.tuple h;obtain⟨its',r',⟨o',e',_,n',d'⟩,_⟩:=I.tuple h';rw[e] at e';cases e';rw[d] at d';injection d' with d1 _
 have:its=its':=by simpa using NC Array.toList d1
 subst this;exact r.inj r'
end
noncomputable abbrev Cx.wish (X:Cx)(E:Value->Shared->Prop):Cx:={ X with xe:=E }
noncomputable abbrev Cx.nox (X:Cx):Cx:=X.wish fun _ _=>False
theorem Cx.Ok.wish {X:Cx}(ok:X.Ok)(E:Value->Shared->Prop):(X.wish E).Ok :=
 ⟨ok.mod,ok.kind,ok.glob,ok.blt,ok.above,ok.inj,ok.has,ok.cab,ok.hd,ok.frames,ok.stk,ok.exf,ok.bs,ok.bsz,ok.noex,ok.exfs,ok.funs,ok.frf⟩
theorem Cx.Ok.unwish {X:Cx}{E:Value->Shared->Prop}(ok:(X.wish E).Ok):X.Ok :=
 ⟨ok.mod,ok.kind,ok.glob,ok.blt,ok.above,ok.inj,ok.has,ok.cab,ok.hd,ok.frames,ok.stk,ok.exf,ok.bs,ok.bsz,ok.noex,ok.exfs,ok.funs,ok.frf⟩
section
variable {X:Cx}{pins:List (Addr × Obj)}{σ:St}{H:Hp}{s:Shared}{E:Value->Shared->Prop}
theorem Inv.wish (I:Inv X pins σ H s)(E:Value->Shared->Prop):Inv (X.wish E) pins σ H s:=⟨I.ok.wish E,I.os,I.bare,I.base,I.loc,I.cell,I.free,I.freeC,I.pin,I.hok,I.len⟩
theorem Inv.unwish (I:Inv (X.wish E) pins σ H s):Inv X pins σ H s:=⟨I.ok.unwish,I.os,I.bare,I.base,I.loc,I.cell,I.free,I.freeC,I.pin,I.hok,I.len⟩
theorem SP.unwish {D:Ends}(h:SP (X.wish E) pins D f s'):SP X pins D f s':=by
 cases f with
 | next=>obtain⟨σ',H',I,q⟩:=h;exact⟨σ',H',I.unwish,q⟩
 | brk=>obtain⟨σ',H',I,q⟩:=h;exact⟨σ',H',I.unwish,q⟩
 | cont=>obtain⟨σ',H',I,q⟩:=h;exact⟨σ',H',I.unwish,q⟩
 | ret u=>obtain⟨v,σ',H',I,r,q⟩:=h;exact⟨v,σ',H',I.unwish,r,q⟩
theorem PE.nox (h:PE X.nox e t):PE X e t:=fun pins s σ H Q I hw =>
 wpAny_mono (h pins s σ H Q (I.wish _) hw) (fun _ _ ⟨v,H',I',r,q⟩=>⟨v,H',I'.unwish,r,q⟩) fun _ _ z=>False.elim z
theorem PSs.nox (h:PSs X.nox st t):PSs X st t:=fun pins s σ H D I hw =>
 wpAny_mono (h pins s σ H D (I.wish _) hw) (fun _ _ q=>q.unwish) fun _ _ z=>False.elim z
end
section
variable {X:Cx}{st:Stmt}{rest:List Stmt}{t u:TS}{e:Expr}{te:TE}{pos:Pos}
noncomputable def FO:TS:=fun D σ H=>D.nx σ H
noncomputable def Li (t u:TS):TS:=fun D σ H=>t { D with nx:=u D } σ H
theorem qT:PSs X [] FO:=fun _ _ σ H _ I h=>wpAny_execs_nil ⟨σ,H,I,h⟩
theorem fB (h1:PS X st t)(h2:PSs X rest u):PSs X (st::rest) (Li t u):=by
 intro pins s σ H D I h;refine wpAny_execs_cons (thn (h1 pins s σ H { D with nx:=u D } I h) fun f s1 q=>?_);cases f with
 | next =>obtain⟨σ',H',I',q⟩:=q;exact h2 pins s1 σ' H' D I' q
 | ret v=>exact q
 | brk=>exact q
 | cont=>exact q
noncomputable def Il:TS:=fun D σ H=>D.bk σ H
noncomputable def Kh:TS:=fun D σ H=>D.ct σ H
theorem Dg:PS X (.Pass pos) FO:=fun _ _ σ H _ I h=>wpAny_Pass ⟨σ,H,I,h⟩
theorem zW:PS X (.Break pos) Il:=fun _ _ σ H _ I h=>wpAny_Break ⟨σ,H,I,h⟩
theorem s_:PS X (.Continue pos) Kh:=fun _ _ σ H _ I h=>wpAny_Continue ⟨σ,H,I,h⟩
theorem Inv.quiet {σ:St}(I:Inv X pins σ H s):interactive X.env=false:=by simp[interactive,I.ok.kind]
noncomputable def J6 (te:TE):TS:=fun D σ H=>te σ H fun _ H1=>D.nx σ H1
theorem vP (he:PE X e te)(hs:swapsWith e none pos.line X.env=pure false:=by rfl):PS X (.Expr e pos) (J6 te):=by intro pins s σ H D I h;exact wpAny_Expr_any (thn (he pins s σ H _ I h) fun v s1 ⟨x,H1,I1,r1,q1⟩=>⟨σ,H1,I1,q1⟩) I.quiet hs
noncomputable def Lu (te:TE):TS:=fun D σ H=>te σ H D.rt
theorem vq (he:PE X e te):PS X (.Return (some e) pos) (Lu te):=by intro pins s σ H D I h;exact wpAny_Return_some (thn (he pins s σ H _ I h) fun v s1 ⟨x,H1,I1,r1,q1⟩=>⟨x,σ,H1,I1,r1,q1⟩)
noncomputable def JD:TS:=fun D _ H=>D.rt .non H
theorem Ds:PS X (.Return none pos) JD:=fun _ _ σ H _ I h=>wpAny_Return_none ⟨.non,σ,H,I,rfl,h⟩
noncomputable def LF (c:TT)(t u:TS):TS:=fun D σ H=>c σ H fun b H1=>if b=true then t D σ H1 else u D σ H1
theorem J8 (hc:PT X c tc)(ha:PSs X a t)(hb:PSs X b u):PS X (.If c a b pos) (LF tc t u):=by
 intro pins s σ H D I h;refine wpAny_If (thn (hc pins s σ H _ I h) fun d s1 ⟨H1,I1,q1⟩=>?_);cases d with
 | true=>exact ha pins s1 σ H1 D I1 q1
 | false=>exact hb pins s1 σ H1 D I1 q1
end
noncomputable abbrev TG:=V->St->Hp->(St->Hp->Prop)->Prop
noncomputable abbrev TGs:=List V->St->Hp->(St->Hp->Prop)->Prop
def PG (X:Cx)(target:Expr)(t:TG):Prop :=
 ∀(pins:List (Addr × Obj)) (s:Shared) (σ:St) (H:Hp) (v:V) (u:Value) (Q:St->Hp->Prop),Inv X pins σ H s->RelV v u->t v σ H Q ->
  wpAny (model X.prog X.w) X.A (assign target X.env u) (fun _ s'=>∃σ' H',Inv X pins σ' H' s'/\Q σ' H') X.xe s
def PGs (X:Cx)(ts:List Expr)(t:TGs):Prop :=
 ∀(pins:List (Addr × Obj)) (s:Shared) (σ:St) (H:Hp) (vs:List V) (us:List Value) (Q:St->Hp->Prop),Inv X pins σ H s->Vals vs us->t vs σ H Q ->
  wpAny (model X.prog X.w) X.A (assignInOrder ((assignEach ts X.env).map (·.2)) us) (fun _ s'=>∃σ' H',Inv X pins σ' H' s'/\Q σ' H') X.xe s
noncomputable abbrev Iz:=V->V->V->Hp->(Hp->Prop)->Prop
def GU (X:Cx)(t:Iz):Prop :=
 ∀(pins:List (Addr × Obj)) (s:Shared) (σ:St) (H:Hp) (o i v:V) (ov iv u:Value) (Q:Hp->Prop),Inv X pins σ H s->RelV o ov->RelV i iv->RelV v u->t o i v H Q ->
  wpAny (model X.prog X.w) X.A (setItem ov iv u) (fun _ s'=>∃H',Inv X pins σ H' s'/\Q H') X.xe s
noncomputable abbrev TIp:=V->V->Hp->VK->Prop
def PIp (X:Cx)(op:Operator)(t:TIp):Prop :=
 ∀(pins:List (Addr × Obj)) (s:Shared) (σ:St) (H:Hp) (x y:V) (v u:Value) (Q:VK),Inv X pins σ H s->RelV x v->RelV y u->t x y H Q ->
  wpAny (model X.prog X.w) X.A (inplaceOp op v u) (EP X pins σ Q) X.xe s
section
variable {X:Cx}{pos:Pos}
noncomputable def GA (i:Nat):TG:=fun v σ H Q=>Q (σ.set i (some v)) H
theorem Dr {i:Nat}(hN:X.N.Nodup)(hi:X.N[i]?=some x)(hx:Loc X.env.scope x)(hf:X.fn x=true\/X.env.scope.names.lookup x=some .local:=by first|exact .inl rfl|exact .inr rfl|assumption):PG X (.Name x pos) (GA i):=by intro pins s σ H v u Q I r h;exact wpAny_assign_Name (de I hN hi hx r (fun s' I'=>⟨_,H,I',h⟩) hf)
noncomputable def LR:TGs:=fun vs σ H Q=>vs=[]/\Q σ H
noncomputable def Kl (t:TG)(u:TGs):TGs:=fun vs σ H Q=>∃v r,vs=v::r/\t v σ H fun σ' H'=>u r σ' H' Q
theorem DJ:PGs X [] LR:=by intro pins s σ H vs us Q I r h;obtain⟨e,h⟩:=h;subst e;cases r;exact assignInOrder_nil ⟨σ,H,I,h⟩
theorem AI (h1:PG X e t)(h2:PGs X es u)(hs:(assignEach (e::es) X.env).map (·.2)=assign e X.env::(assignEach es X.env).map (·.2):=by rfl):PGs X (e::es) (Kl t u):=by
 intro pins s σ H vs us Q I r h;obtain⟨v,vr,e1,h⟩:=h;subst e1;cases r with
 | cons r rr =>rw[hs];refine assignInOrder_cons (thn (h1 pins s σ H _ _ _ I r h) fun _ s1 ⟨σ1,H1,I1,q1⟩=>?_);exact h2 pins s1 σ1 H1 _ _ Q I1 rr q1
noncomputable def Lp (K:W.Frag)(n:Nat)(t:TGs):TG:=fun v σ H Q=>∃a xs,v=.ref a/\SqT K H a xs/\xs.length=n/\t xs σ H Q
theorem Hb {es:List Expr}{k:Nat}{t:TGs}{n:Nat}(hc:X.calm=true)(h:PGs X es t)
  (hn:(assignEach es X.env).length=n:=by rfl) (hst:(assignEach es X.env).findIdx? (·.1)=none:=by rfl):PG X (.Tuple es k pos) (Lp X.K n t):=by
 intro pins s σ H v u Q I r hw;obtain⟨a,xs,e1,hq,hl,hw⟩:=hw;subst e1;cases r;obtain⟨its,rv,ht,hz⟩:=I.tuple hq;refine assign_Tuple_tuple (I.ok.hd hc) ht (by simp[hn,<-hl,rv.length]) hst fun h' hx=>?_;have I1:Inv X pins σ H { s with heap:=h' }:=I.kept (t':=s.toks) fun b o e=>hx b o (M8 (MR e)) e;exact h pins _ σ H xs _ Q I1 (by simpa using rv) hw
noncomputable def LY (to ti:TE)(t:Iz):TG:=fun v σ H Q=>to σ H fun o H1=>ti σ H1 fun i H2=>t o i v H2 fun H3=>Q σ H3
theorem HB (ho:PE X o to)(hi:PE X i ti)(hs:GU X t)(ha:∀v,assign (.Subscript o i pos) X.env v=(do
   let ov <-holding [v] (eval o X.env);let iv <-holding [v,ov] (eval i X.env)
   standAt pos
   holding [v,ov,iv] (setItem ov iv v)
   release [v,ov,iv] []):=by intro _;rfl):PG X (.Subscript o i pos) (LY to ti t):=by
 intro pins s σ H v u Q I r h;rw[ha];refine MB (N1 (thn (ho pins s σ H _ I h) fun ov s1 ⟨x,H1,I1,r1,q1⟩=>?_));refine MB (N1 (thn (hi pins s1 σ H1 _ I1 q1) fun iv s2 ⟨y,H2,I2,r2,q2⟩=>?_));refine MB (wpAny_standAt (MB (N1 (thn (hs pins s2 σ H2 x y v ov iv u _ I2 r1 r2 r q2) fun _ s3 ⟨H3,I3,q3⟩=>?_))));exact wpAny_release ⟨σ,H3,I3,q3⟩
noncomputable def DD (te:TE)(g:TG):TS:=fun D σ H=>te σ H fun x H1=>g x σ H1 D.nx
theorem qM (he:PE X e te)(hg:PG X tg g)(hs:swapsWithSole [tg] e pos.line X.env=pure false:=by rfl)(hw:swappedStores [tg] e X.env=pure none:=by rfl)(h1:(assignEach [tg] X.env).map (·.2)=[assign tg X.env]:=by rfl):PS X (.Assign [tg] e pos) (DD te g):=by
 intro pins s σ H D I h;refine wpAny_Assign_stores (thn (he pins s σ H _ I h) fun v s1 ⟨x,H1,I1,r1,q1⟩=>?_) hs hw;rw[h1];exact thn (hg pins s1 σ H1 x v _ I1 r1 q1) fun _ s2 q=>q
theorem pN {i:Nat}(hN:X.N.Nodup)(hi:X.N[i]?=some x)(hx:Loc X.env.scope x)(he:PE X e te)(hs:swapsWith e (some (.Name x pos')) pos.line X.env=pure false:=by rfl)(hf:X.fn x=true\/X.env.scope.names.lookup x=some .local:=by first|exact .inl rfl|exact .inr rfl|assumption) :
  PS X (.Assign [.Name x pos'] e pos) (DD te (GA i)):=by
 intro pins s σ H D I h;refine wpAny_Assign_Name (thn (he pins s σ H _ I h) fun v s1 ⟨y,H1,I1,r1,q1⟩=>?_) hs;exact de I1 hN hi hx r1 (fun s2 I2=>⟨_,H1,I2,q1⟩) hf
noncomputable def LG (i j:Nat)(ta:TA):TS:=fun D σ H=>ta σ H fun vs H1=>∃v w,vs=[v,w]/\D.nx ((σ.set i (some v)).set j (some w)) H1
theorem HC {i j:Nat}{a:Expr}{kt k2 pt2}(hc:X.calm=true)(hN:X.N.Nodup)(hi:X.N[i]?=some x)(hj:X.N[j]?=some y)(hij:i≠j)(hx:X.env.scope.names.lookup x=some .local)(hy:X.env.scope.names.lookup y=some .local)(ha:PA X [a,b] ta)(hw:swappedStores [.Tuple [.Name x px,.Name y py] kt pt] (.Tuple [a,b] k2 pt2) X.env=pure (some [x,y]))(hs:swapsWithSole [.Tuple [.Name x px,.Name y py] kt pt] (.Tuple [a,b] k2 pt2) pos.line X.env=pure false:=by rfl) :
  PS X (.Assign [.Tuple [.Name x px,.Name y py] kt pt] (.Tuple [a,b] k2 pt2) pos) (LG i j ta):=by
 intro pins s σ H D I h;rw[exec_Assign_arm];refine MB (wpAny_standAt ?_);rw[hs];refine MB (MU ?_);rw[ML (by decide)];refine MB (Tuple_ (thn (ha _ pins s σ H _ I h) fun us s1 ⟨vs,H1,I1,r1,q1⟩=>?_));obtain⟨v,w,e1,q1⟩:=q1;subst e1;obtain⟨u1,u2,rfl,rv,rw'⟩:∃u1 u2,us=[u1,u2]/\RelV v u1/\RelV w u2:=by
  cases r1 with
  | cons p q =>
   cases q with
   | cons p' q' =>cases q';exact⟨_,_,rfl,p,p'⟩
 refine wpAny_newObj_type ?_ (by show 2<=sizeLine;decide);have I2:Inv X pins σ H1 { s1 with heap:=s1.heap.push { cls:=.type "tuple",data:=.seq [u1,u2].toArray } }:=I1.kept (t':=s1.toks) fun b o e=>MD _ e;rw[hw];refine MB (MU ?_);show wpAny (model X.prog X.w) X.A (do rule "assign.swapped-stores";let items <-unpackItems (.ref s1.heap.objs.size) 2 none;assignInOrder [fun v=>bindName X.env y v,fun v=>bindName X.env x v] items.reverse;pure Flow.next) _ _ _;refine MB (wpAny_rule (MB (unpackItems_tuple (items:=#[u1,u2]) (I.ok.hd hc) (IsTup.new s1.heap _) fun h' hx'=>?_)));have I3:=I2.kept (h':=h') (t':=s1.toks) fun b o e=>hx' b o (M8 (MR e)) e;show wpAny _ _ (assignInOrder [fun v=>bindName X.env y v,fun v=>bindName X.env x v] [u2,u1] >>= fun _=>pure Flow.next) _ _ _;refine MB (assignInOrder_cons (wpAny_bindName (de I3 hN hj (.inl hy) rw' (fun s2 I4=>?_) (.inr hy))));refine assignInOrder_cons (wpAny_bindName (de I4 hN hi (.inl hx) rv (fun s3 I5=>assignInOrder_nil (MU ?_)) (.inr hx)));rw[List.set_comm _ _ (Ne.symm hij)] at I5;exact⟨_,H1,I5,q1⟩
noncomputable def Ls (i:Nat)(te:TE)(ti:TIp):TS:=fun D σ H=>∃x,σ[i]?=some (some x)/\te σ H fun y H1=>ti x y H1 fun z H2=>D.nx (σ.set i (some z)) H2
theorem IB {i:Nat}(hN:X.N.Nodup)(hi:X.N[i]?=some x)(hx:Loc X.env.scope x)(he:PE X e te)(ho:PIp X op ti)(hf:X.fn x=true\/X.env.scope.names.lookup x=some .local:=by first|exact .inl rfl|exact .inr rfl|assumption) :
  PS X (.AugAssign (.Name x pos') op e pos) (Ls i te ti):=by
 intro pins s σ H D I h;obtain⟨v,e1,h⟩:=h;obtain⟨m,hn,hl⟩:=I.loc;have vis:Vis X.env.scope x:=by rcases hx with k|k;exact .inl k;exact .inr (.inl k)
 obtain⟨u,r,l⟩:=hl i x v hi e1 vis;refine wpAny_AugAssign_Name ?_;have go:wpAny (model X.prog X.w) X.A (eval e X.env) (fun w s₂=>wpAny (model X.prog X.w) X.A (inplaceOp op u w) (fun r s₃=>wpAny (model X.prog X.w) X.A (storeName X.env x r) (fun _=>SP X pins D .next) X.xe s₃) X.xe s₂) X.xe s:=by refine thn (he pins s σ H _ I h) fun w s1 ⟨y,H1,I1,r1,q1⟩=>?_;refine thn (ho pins s1 σ H1 v y u w _ I1 r r1 q1) fun z s2 ⟨zv,H2,I2,r2,q2⟩=>?_;exact de I2 hN hi hx r2 (fun s3 I3=>⟨_,H2,I3,q2⟩) hf
 rcases l with⟨hk,hm⟩|⟨hk,c,hc,hcell⟩
 ·exact wpAny_loadName_local I.ok.kind hk hn hm go
 ·rcases hk with hk|hk
  ·exact wpAny_loadName_cell I.ok.kind hk hc hcell go
  ·rcases hx with k|k
   ·have:X.env.scope.names.lookup x=some .free:=hk;rw[k] at this;cases this
   ·have:X.env.scope.names.lookup x=some .free:=hk;rw[k] at this;cases this
noncomputable def ipI (f:Int->Int->Int):TIp:=fun x y H Q=>∃i j,x=.int i/\y=.int j/\Q (.int (f i j)) H
theorem GN:PIp X .Add (ipI fun i j=>i+j):=by intro pins s σ H x y v u Q I r1 r2 h;obtain⟨i,j,e1,e2,q⟩:=h;subst e1;subst e2;obtain⟨t,rfl⟩:=r1;obtain⟨t',rfl⟩:=r2;exact iadd_int ⟨.int _,H,I.tok _,⟨_,rfl⟩,q⟩
theorem H_:PIp X .Sub (ipI fun i j=>i-j):=by intro pins s σ H x y v u Q I r1 r2 h;obtain⟨i,j,e1,e2,q⟩:=h;subst e1;subst e2;obtain⟨t,rfl⟩:=r1;obtain⟨t',rfl⟩:=r2;exact isub_int ⟨.int _,H,I.tok _,⟨_,rfl⟩,q⟩
end
section
variable {X:Cx}{pos:Pos}
noncomputable def CO (c:TT)(tb:TS):TS:=fun D σ H=>∃W:Nat->St->Hp->Prop,(∃m,W m σ H)/\∀m σ H,W m σ H ->
 c σ H fun b H1=>if b=true then ∃N:St->Hp->Prop,(∀σ' H',N σ' H'->∃m',m'<m/\W m' σ' H')/\tb { D with nx:=N,ct:=N,bk:=D.nx } σ H1 else D.nx σ H1
theorem B8 (hp:PassesOwn (model X.prog X.w) X.A X.env X.xe)(hc:PT X c tc)(hb:PSs X body tb):PS X (.While c body [] pos) (CO tc tb):=by
 intro pins s σ H D I h;obtain⟨W,⟨m0,w0⟩,turn⟩:=h;refine wpAny_While (codeAny_whileLoop (fun n s'=>∃σ' H',Inv X pins σ' H' s'/\W n σ' H') ?_ m0 ⟨σ,H,I,w0⟩);rintro n s1 ⟨σ1,H1,I1,w1⟩;refine wpAny_passesOwn hp (thn (hc pins s1 σ1 H1 _ I1 (turn n σ1 H1 w1)) fun b s2 ⟨H2,I2,q2⟩=>?_);cases b with
 | true =>
  obtain⟨N,hN,q2⟩:=q2;rw[MN rfl];refine wpAny_passesOwn hp (thn (hb pins s2 σ1 H2 _ I2 q2) fun f s3 q3=>?_);cases f with
  | next =>obtain⟨σ3,H3,I3,n3⟩:=q3;obtain⟨m',hm,w3⟩:=hN σ3 H3 n3;exact⟨m',hm,σ3,H3,I3,w3⟩
  | cont =>obtain⟨σ3,H3,I3,n3⟩:=q3;obtain⟨m',hm,w3⟩:=hN σ3 H3 n3;exact⟨m',hm,σ3,H3,I3,w3⟩
  | brk=>exact q3
  | ret v=>exact q3
 | false =>rw[ML MA];exact wpAny_execs_nil ⟨σ1,H2,I2,q2⟩
end
structure It where
 go:Nat->Hp->Prop
 yld:Nat->Hp->V->Hp->Prop
 stop:Nat->Hp->Prop
def ng (X:Cx)(pins:List (Addr × Obj))(H:Hp)(b:Addr):Prop :=
 H b=none/\b≠X.env.locals/\b ∉ X.fs/\(b∈X.ex\/X.s₀.heap.objs.size<=b)/\(∀x c,X.env.cells.lookup x=some c->c≠b)/\∀p∈X.pn++pins,p.1≠b
theorem Inv.fpOk {σ:St}{H':Hp}{b:Addr}(I:Inv X pins σ H s)(hb:s.heap.objs.size<=b)(hn:H' b=none):ng X pins H' b:=by
 refine⟨hn,OS (MK I.lt hb),I.nofs hb,.inr (MY I.sz hb),fun x c e z=>?_,fun p hp z=>?_⟩
 ·obtain⟨v,q⟩:=I.cell x c e;exact absurd (MK q.lt (by rw[z];exact hb)) (OD _)
 ·exact absurd (MK (MR (I.pin p hp).1) (by rw[z];exact hb)) (OD _)
structure yk (P:Program)(w:World)(K:W.Frag)(tg:Expr)(J:It)(fp:List Addr)(it:Addr)(tn:Nat->Heap->Prop):Prop where
 mem:it∈fp
 obj:∀i h,tn i h->∀b∈fp,∃o,h.get? b=some o/\∀v,o.data≠.cell v
 keep:∀i h h',tn i h->(∀b∈fp,∀o,h.get? b=some o->h'.get? b=some o)->tn i h'
 item:∀(X:Cx),X.prog=P->X.w=w->X.K=K->X.calm=true->∀(i:Nat) (pins:List (Addr × Obj)) (s:Shared) (σ:St) (H:Hp) (E:Value->Shared->Prop),Inv X pins σ H s->(∀b∈fp,ng X pins H b)->tn i s.heap->J.go i H ->
  wpAny (model P w) X.A (pyNext (.ref it)) (fun r s1=>∃u,r=some u /\
   wpAny (model P w) X.A (letOwnedTupleGo tg (.ref it) u) (fun _ s2=>∃x H',Inv X pins σ H' s2/\RelV x u/\J.yld i H x H'/\tn (i+1) s2.heap/\∀b∈fp,H' b=none) E s1) E s
 done:∀(X:Cx),X.prog=P->X.w=w->X.K=K->X.calm=true->∀(i:Nat) (pins:List (Addr × Obj)) (s:Shared) (σ:St) (H:Hp) (E:Value->Shared->Prop),Inv X pins σ H s->(∀b∈fp,ng X pins H b)->tn i s.heap->J.stop i H ->
  wpAny (model P w) X.A (pyNext (.ref it)) (fun r s1=>r=none/\Inv X pins σ H s1) E s
 self:∀(A:Around) (i:Nat) (s:Shared) (Q:Value->Shared->Prop) (E:Value->Shared->Prop),tn i s.heap->Q (.ref it) s->wpAny (model P w) A (pyIter (.ref it)) Q E s
noncomputable abbrev TI:=St->Hp->(It->Hp->Prop)->Prop
def PIE (X:Cx)(pins:List (Addr × Obj))(σ:St)(tg:Expr)(R:It->Hp->Prop)(itv:Value)(s2:Shared):Prop :=
 ∃(it:Addr) (fp:List Addr) (tn:Nat->Heap->Prop) (J:It) (H':Hp),itv=.ref it/\Inv X pins σ H' s2/\yk X.prog X.w X.K tg J fp it tn/\tn 0 s2.heap/\(∀b∈fp,ng X pins H' b)/\R J H'
def PI (X:Cx)(tg iter:Expr)(wi:TI):Prop :=
 ∀(pins:List (Addr × Obj)) (s:Shared) (σ:St) (H:Hp) (R:It->Hp->Prop),Inv X pins σ H s->wi σ H R ->
  wpAny (model X.prog X.w) X.A (eval iter X.env) (fun v s1=>wpAny (model X.prog X.w) X.A (pyIter v) (PIE X pins σ tg R) X.xe s1) X.xe s
theorem sk {M:Model}{E:Value->Shared->Prop}{s:Shared}{Q:Unit->Shared->Prop}(ho:s.heap.get? it=some o)(hc:o.cls=.type n)(hd:o.data=.fields vs)(hn:["enumerate","zip","dict_itemiterator","dict_reverseitemiterator","odict_iterator","itertools.zip_longest","itertools.pairwise"].contains n=false)(hQ:Q () s):wpAny M A (letOwnedTupleGo tg (.ref it) u) Q E s:=by
 unfold letOwnedTupleGo;cases tg <;> first
  | exact MU hQ
  | (cases u <;> first
    | exact MU hQ
    | (refine MB (wpAny_load ho ?_)
       rw[hc,hd];show wpAny M A (if (["enumerate","zip","dict_itemiterator","dict_reverseitemiterator","odict_iterator","itertools.zip_longest","itertools.pairwise"].contains n && vs[0]? == some (rawInt _))=true then _ else _) Q E s;rw[ML (by intro h;rw[hn,Bool.false_and] at h;cases h)];exact MU hQ))
noncomputable def Itl (K:W.Frag)(a:Addr):It :=
 ⟨fun i H=>∃xs x,SqL K H a xs/\xs[i]?=some x,fun i H x H'=>H'=H/\∀xs,SqL K H a xs->xs[i]?=some x,fun i H=>∃xs,SqL K H a xs/\xs.length<=i⟩
noncomputable def Itt (K:W.Frag)(a:Addr):It :=
 ⟨fun i H=>∃xs x,SqT K H a xs/\xs[i]?=some x,fun i H x H'=>H'=H/\∀xs,SqT K H a xs->xs[i]?=some x,fun i H=>∃xs,SqT K H a xs/\xs.length<=i⟩
noncomputable def Itr (lo:Int)(n:Nat):It:=⟨fun i _=>i<n,fun i H x H'=>H'=H/\x=.int (lo+i),fun i _=>n<=i⟩
theorem xN {P:Program}{w:World}{K:W.Frag}{tg:Expr}(a it:Addr):yk P w K tg (Itl K a) [it] it (fun i h=>h.IsListIter it a i) where
 mem:=by simp
 obj:=fun i h st b hb=>by
  have e:b=it:=by simpa using hb
  subst e;obtain⟨o,e,c,d⟩:=st;exact⟨o,e,fun v z=>by rw[d] at z;cases z⟩
 keep:=fun i h h' st k=>st.at fun o e=>k it (by simp) o e
 item:=by intro X hP hw hK hc i pins s σ H E I hf st hg;subst hP hw hK;obtain⟨xs,x,hq,hx⟩:=hg;obtain⟨its,rv,p,hz⟩:=I.list hq;obtain⟨u,hu,ru⟩:=rv.get hx;obtain⟨f0,f1,f2,f3,f4,f5⟩:=hf it (by simp);refine wpAny_pyNext_list_item st p.isList (x:=u) (by simpa using hu) fun h' st' sb=>?_;have I1:Inv X pins σ H { s with heap:=h' }:=I.turned (t':=s.toks) (fun b o hb e=>(sb.2 b hb).trans e) f0 f1 f3 f4 f5;obtain⟨o,e,c,d⟩:=id st';exact⟨u,rfl,sk (s:={ s with heap:=h' }) e c d (by decide) ⟨x,H,I1,ru,⟨rfl,fun ys hy=>by rw[I.list_inj hy hq];exact hx⟩,st',fun b hb=>(hf b hb).1⟩⟩
 done:=by intro X hP hw hK hc i pins s σ H E I hf st hg;subst hP hw hK;obtain⟨xs,hq,hx⟩:=hg;obtain⟨its,rv,p,hz⟩:=I.list hq;obtain⟨f0,f1,f2,f3,f4,f5⟩:=hf it (by simp);have hl:=rv.length;exact wpAny_pyNext_list_end (I.ok.hd hc) st p.isList (by simp;omega) fun h' eb=>⟨rfl,I.turned (t':=s.toks) (fun b o hb e=>eb b o hb e) f0 f1 f3 f4 f5⟩
 self:=fun _ _ _ _ _ st h=>wpAny_pyIter_listiter st h
theorem ud {P:Program}{w:World}{K:W.Frag}{tg:Expr}(a it:Addr):yk P w K tg (Itt K a) [it] it (fun i h=>h.IsTupleIter it a i) where
 mem:=by simp
 obj:=fun i h st b hb=>by
  have e:b=it:=by simpa using hb
  subst e;obtain⟨o,e,c,d⟩:=st;exact⟨o,e,fun v z=>by rw[d] at z;cases z⟩
 keep:=fun i h h' st k=>st.at fun o e=>k it (by simp) o e
 item:=by intro X hP hw hK hc i pins s σ H E I hf st hg;subst hP hw hK;obtain⟨xs,x,hq,hx⟩:=hg;obtain⟨its,rv,p,hz⟩:=I.tuple hq;obtain⟨u,hu,ru⟩:=rv.get hx;obtain⟨f0,f1,f2,f3,f4,f5⟩:=hf it (by simp);refine wpAny_pyNext_tuple_item st (show s.heap.IsTuple a its.toArray from p) (x:=u) (by simpa using hu) fun h' st' sb=>?_;have I1:Inv X pins σ H { s with heap:=h' }:=I.turned (t':=s.toks) (fun b o hb e=>(sb.2 b hb).trans e) f0 f1 f3 f4 f5;obtain⟨o,e,c,d⟩:=id st';exact⟨u,rfl,sk (s:={ s with heap:=h' }) e c d (by decide) ⟨x,H,I1,ru,⟨rfl,fun ys hy=>by rw[I.tuple_inj hy hq];exact hx⟩,st',fun b hb=>(hf b hb).1⟩⟩
 done:=by intro X hP hw hK hc i pins s σ H E I hf st hg;subst hP hw hK;obtain⟨xs,hq,hx⟩:=hg;obtain⟨its,rv,p,hz⟩:=I.tuple hq;obtain⟨f0,f1,f2,f3,f4,f5⟩:=hf it (by simp);have hl:=rv.length;exact wpAny_pyNext_tuple_end (I.ok.hd hc) st (show s.heap.IsTuple a its.toArray from p) (by simp;omega) fun h' eb=>⟨rfl,I.turned (t':=s.toks) (fun b o hb e=>eb b o hb e) f0 f1 f3 f4 f5⟩
 self:=fun _ _ _ _ _ st h=>wpAny_pyIter_tupleiter st h
theorem um {P:Program}{w:World}{K:W.Frag}{tg:Expr}(it:Addr)(lo:Int)(n:Nat):yk P w K tg (Itr lo n) [it] it (fun i h=>IsRangeIter h it (lo+(i:Nat)*1) ((n:Int)-(i:Nat)) 1) where
 mem:=by simp
 obj:=fun i h st b hb=>by
  have e:b=it:=by simpa using hb
  subst e;exact⟨_,st,fun v z=>by have z':Data.fields _=Data.cell v:=z;cases z'⟩
 keep:=fun i h h' st k=>k it (by simp) _ st
 item:=by intro X hP hw hK hc i pins s σ H E I hf st hg;subst hP hw hK;obtain⟨f0,f1,f2,f3,f4,f5⟩:=hf it (by simp);have W:=Walks.range (prog:=X.prog) (w:=X.w) (I.ok.hd hc) it lo 1 n;refine W.item i s _ _ hg st fun v h' tk hv st' kk=>?_;obtain⟨t,rfl⟩:=hv;have I1:Inv X pins σ H { s with heap:=h',toks:=tk }:=I.turned (fun b o hb e=>kk b o (by simpa using hb) e) f0 f1 f3 f4 f5;refine ⟨_,rfl,sk (s:={ s with heap:=h',toks:=tk }) (n:="range_iterator") st' rfl rfl (by decide) ⟨.int (lo+i),H,I1,⟨t,?_⟩,⟨rfl,rfl⟩,st',fun b hb=>(hf b hb).1⟩⟩;rw[Int.mul_one]
 done:=by intro X hP hw hK hc i pins s σ H E I hf st hg;subst hP hw hK;obtain⟨f0,f1,f2,f3,f4,f5⟩:=hf it (by simp);exact wpAny_pyNext_range_end (I.ok.hd hc) st (by have:n<=i:=hg;omega) fun h' eb=>⟨rfl,I.turned (t':=s.toks) (fun b o hb e=>eb b o hb e) f0 f1 f3 f4 f5⟩
 self:=fun _ _ _ _ _ st h=>wpAny_pyIter_rangeiter st h
end L2
namespace L2
section
variable {X:Cx}{tg:Expr}
theorem BO {σ:St}{R:It->Hp->Prop}{E:Value->Shared->Prop}{lo hi:Int}{t u v:Tok}{tk:Nat}(I:Inv X pins σ H s)(h1:-(2 ^ 62)<=lo)(h2:lo<2 ^ 62)(h3:-(2 ^ 62)<=hi)(h4:hi<2 ^ 62)(q:R (Itr lo (hi-lo).toNat) H):wpAny (model X.prog X.w) X.A (pyIter (.ref s.heap.objs.size)) (PIE X pins σ tg R) E { s with heap:=s.heap.push { cls:=.type "range",data:=.fields #[.int lo t,.int hi u,.int 1 v] },toks:=tk }:=by
 refine wpAny_pyIter_range (IsRange.new ..) (small_one h1 h2 h3 h4) ?_;have I1:Inv X pins σ H { s with heap:=s.heap.push { cls:=.type "range",data:=.fields #[.int lo t,.int hi u,.int 1 v] },toks:=tk }:=I.kept fun b o e=>MD _ e;refine ⟨(s.heap.push { cls:=.type "range",data:=.fields #[.int lo t,.int hi u,.int 1 v] }).objs.size,[(s.heap.push { cls:=.type "range",data:=.fields #[.int lo t,.int hi u,.int 1 v] }).objs.size],_,_,H,rfl,
  I1.kept (t':=tk) fun b o e=>MD _ e,um _ lo (hi-lo).toNat,?_,fun b hb=>?_,q⟩
 ·have e1:lo+((0:Nat):Int)*1=lo:=by simp
  have e2:(((hi-lo).toNat:Nat):Int)-((0:Nat):Int)=Builtin.Range.rangeSize lo hi 1:=by rw[rangeSize_one];split <;> omega
  show IsRangeIter _ _ (lo+((0:Nat):Int)*1) ((((hi-lo).toNat:Nat):Int)-((0:Nat):Int)) 1;rw[e1,e2];exact MZ _ rfl
 ·have e:b=(s.heap.push { cls:=.type "range",data:=.fields #[.int lo t,.int hi u,.int 1 v] }).objs.size:=by simpa using hb
  subst e;exact I1.fpOk (MJ _) (I1.hok.fresh (MJ _))
noncomputable def Ka (ta:TA):TI:=fun σ H R=>ta σ H fun vs H1=>∃j:Int,vs=[.int j]/\-(2 ^ 62)<=j/\j<2 ^ 62/\R (Itr 0 j.toNat) H1
theorem xM {a:Expr}(hg:Gl X "range")(hm:X.mg "range"=none)(ha:PA X [a] ta)(hs:starEach [a] X.env=[(false,eval a X.env)]:=by rfl):PI X tg (.Call (.Name "range" p) [a] [] pos) (Ka ta):=by
 intro pins s σ H R I h;refine Call_ (qX I hg hm boot_range (PyProof.Rows.callWith_type1 (thn (ha pos pins s σ H _ I h) fun us s1 ⟨vs,H1,I1,r1,q1⟩=>?_) hs rfl));obtain⟨j,e,q1,q2,q⟩:=q1;subst e;cases r1 with
 | cons r rr =>cases rr;obtain⟨t,rfl⟩:=r;exact call_range_1 (BO I1 (by omega) (by omega) q1 q2 (by simpa using q))
noncomputable def DP (wi:TI)(g:TG)(tb:TS):TS:=fun D σ H=>wi σ H fun J H1=>∃W:Nat->Nat->St->Hp->Prop,(∃m,W 0 m σ H1)/\∀i m σ H,W i m σ H ->
 (J.stop i H/\D.nx σ H)\/(J.go i H/\∃N:St->Hp->Prop,(∀σ' H',N σ' H'->∃m',m'<m/\W (i+1) m' σ' H')/\∀x H',J.yld i H x H'->g x σ H' fun σ2 H2=>tb { D with nx:=N,ct:=N,bk:=D.nx } σ2 H2)
noncomputable def mL (fp:List Addr)(h:Heap):List (Addr × Obj):=fp.filterMap fun b=>(h.get? b).map fun o=>(b,o)
theorem fY {fp:List Addr}{h:Heap}{b:Addr}(hb:b∈fp)(e:h.get? b=some o):(b,o)∈mL fp h:=NR.mpr ⟨b,hb,by rw[e];rfl⟩
theorem yg {p:Addr × Obj}(hp:p∈mL fp h):p.1∈fp/\h.get? p.1=some p.2:=by
 obtain⟨b,hb,e⟩:=NR.mp hp;cases q:h.get? b with
 | none=>rw[q] at e;cases e
 | some o =>rw[q] at e;have e':(b,o)=p:=NL e;subst e';exact⟨hb,q⟩
theorem Inv.pinned {σ:St}{fp:List Addr}(I:Inv X pins σ H s)(hf:∀b∈fp,ng X pins H b)(ho:∀b∈fp,∃o,s.heap.get? b=some o/\∀v,o.data≠.cell v):Inv X (pins++mL fp s.heap) σ H s :=
 I.pins_of fun p hp=>(M9.mp hp).elim (fun z=>I.pin p (M7 _ z)) fun z=>by obtain⟨hb,e⟩:=yg z;obtain⟨f0,f1,f2,_⟩:=hf p.1 hb;obtain⟨o,e',d⟩:=ho p.1 hb;rw[e] at e';cases e';exact⟨e,f0,f1,f2,d⟩
theorem Inv.unpinned {pins pl:List (Addr × Obj)}{σ:St}(I:Inv X (pins++pl) σ H s):Inv X pins σ H s:=I.pins_of fun p hp=>I.pin p (M7 _ (NT _ hp))
theorem vd (hp:PassesOwn (model X.prog X.w) X.A X.env X.xe)(hc:X.calm=true)(hi:PI X tg iter wi)(hg:PG X tg g)(hb:PSs X body tb)(hs:∀x,foldedSetIterable iter X.env x=pure x:=by intro _;rfl):PS X (.For tg iter body [] pos) (DP wi g tb):=by
 intro pins s σ H D I h;refine wpAny_For (thn (hi pins s σ H _ I h) fun v s1 h1=>thn h1 fun itv s2 h2=>?_) hs;obtain⟨it,fp,tn,J,H2,e,I2,T,st2,f2,W,⟨m0,w0⟩,turn⟩:=h2;subst e;have stat:∀ {H':Hp},(∀b∈fp,H' b=none)->∀b∈fp,ng X pins H' b:=fun hn b hb=>⟨hn b hb,(f2 b hb).2⟩;refine codeAny_forLoop_any (fun n s'=>∃i σ' H',Inv X pins σ' H' s'/\tn i s'.heap/\(∀b∈fp,H' b=none)/\W i n σ' H') ?_ m0 ⟨0,σ,H2,I2,st2,fun b hb=>(f2 b hb).1,w0⟩;rintro n s3 ⟨i,σ3,H3,I3,st3,fr3,w3⟩;rcases turn i n σ3 H3 w3 with⟨stop,qn⟩|⟨go,N,hN,step⟩
 ·refine wpAny_passesOwn hp (thn (T.done X rfl rfl rfl hc i pins s3 σ3 H3 X.xe I3 (stat fr3) st3 stop) fun r s4 ⟨hr,I4⟩=>?_);subst hr;exact wpAny_execs_nil ⟨σ3,H3,I4,qn⟩
 ·refine wpAny_passesOwn hp (thn (T.item X rfl rfl rfl hc i pins s3 σ3 H3 X.xe I3 (stat fr3) st3 go) fun r s4 ⟨u,hr,h4⟩=>?_);subst hr;refine wpAny_passesOwn hp (thn h4 fun _ s5 ⟨x,H5,I5,r5,y5,st5,fr5⟩=>?_);have I5':=I5.pinned (stat fr5) (T.obj _ _ st5);refine wpAny_passesOwn hp (thn (hg _ s5 σ3 H5 x u _ I5' r5 (step x H5 y5)) fun _ s6 ⟨σ6,H6,I6,q6⟩=>?_);refine wpAny_passesOwn hp (thn (hb _ s6 σ6 H6 _ I6 q6) fun f s7 q7=>?_);have again:∀ {σ7:St}{H7:Hp},Inv X (pins++mL fp s5.heap) σ7 H7 s7->N σ7 H7->∃m,m<n/\∃i σ' H',Inv X pins σ' H' s7/\tn i s7.heap/\(∀b∈fp,H' b=none)/\W i m σ' H':=fun {σ7 H7} I7 n7=>by obtain⟨m',hm,w7⟩:=hN σ7 H7 n7;refine⟨m',hm,i+1,σ7,H7,I7.unpinned,T.keep _ _ _ st5 fun b hb o e=>(I7.pin (b,o) (M7 _ (M7 _ (fY hb e)))).1,fun b hb=>?_,w7⟩;obtain⟨o,e,d⟩:=T.obj _ _ st5 b hb;exact(I7.pin (b,o) (M7 _ (M7 _ (fY hb e)))).2.1
  cases f with
  | next=>obtain⟨σ7,H7,I7,n7⟩:=q7;exact again I7 n7
  | cont=>obtain⟨σ7,H7,I7,n7⟩:=q7;exact again I7 n7
  | brk=>obtain⟨σ7,H7,I7,q7⟩:=q7;exact⟨σ7,H7,I7.unpinned,q7⟩
  | ret v=>obtain⟨x7,σ7,H7,I7,r7,q7⟩:=q7;exact⟨x7,σ7,H7,I7.unpinned,r7,q7⟩
end
end L2
namespace L2
noncomputable abbrev R2:=V->V->Hp->VK->Prop
def OpR (X:Cx)(f:Value->Value->Sem Value)(r:R2):Prop :=
 ∀(pins:List (Addr × Obj)) (s:Shared) (σ:St) (H:Hp) (x y:V) (v u:Value) (Q:VK),Inv X pins σ H s->RelV x v->RelV y u->r x y H Q ->
  wpAny (model X.prog X.w) X.A (f v u) (EP X pins σ Q) X.xe s
def gi (X:Cx)(f:Value)(r:List V->Hp->VK->Prop):Prop :=
 ∀(pins:List (Addr × Obj)) (s:Shared) (σ:St) (H:Hp) (xs:List V) (us:List Value) (Q:VK),Inv X pins σ H s->Vals xs us->r xs H Q ->
  wpAny (model X.prog X.w) X.A (call f us) (EP X pins σ Q) X.xe s
def L7 (X:Cx)(r:V->Hp->(Bool->Hp->Prop)->Prop):Prop :=
 ∀(pins:List (Addr × Obj)) (s:Shared) (σ:St) (H:Hp) (x:V) (v:Value) (Q:Bool->Hp->Prop),Inv X pins σ H s->RelV x v->r x H Q ->
  wpAny (model X.prog X.w) X.A (truthy v) (TP X pins σ Q) X.xe s
noncomputable def tOp (r:R2)(ta tb:TE):TE:=fun σ H Q=>ta σ H fun x H1=>tb σ H1 fun y H2=>r x y H2 Q
noncomputable def rI (C:Int->Int->Prop)(g:Int->Int->V):R2:=fun x y H Q=>∃i j,x=.int i/\y=.int j/\C i j/\Q (g i j) H
noncomputable def rI0 (g:Int->Int->V):R2:=fun x y H Q=>∃i j,x=.int i/\y=.int j/\Q (g i j) H
section
variable {X:Cx}{a b c:Expr}{ta tb tc:TE}{pos:Pos}
theorem Hg (ha:PE X a ta)(hb:PE X b tb){σ:St}{R:V->V->Hp->Prop}(I:Inv X pins σ H s)(h:ta σ H fun x H1=>tb σ H1 fun y H2=>R x y H2){f:Value->Value->Sem Value}(hf:∀v u s2 x y H2,Inv X pins σ H2 s2->RelV x v->RelV y u->R x y H2->wpAny (model X.prog X.w) X.A (f v u) Q X.xe s2) :
  wpAny (model X.prog X.w) X.A (eval a X.env) (fun v s₁=>wpAny (model X.prog X.w) X.A (eval b X.env) (fun u s₂=>wpAny (model X.prog X.w) X.A (f v u) Q X.xe s₂) X.xe s₁) X.xe s:=by
 refine thn (ha pins s σ H _ I h) fun v s1 ⟨x,H1,I1,r1,q1⟩=>?_;refine thn (hb pins s1 σ H1 _ I1 q1) fun u s2 ⟨y,H2,I2,r2,q2⟩=>?_;exact hf v u s2 x y H2 I2 r1 r2 q2
theorem ED (ho:OpR X (binaryOp op) r)(ha:PE X a ta)(hb:PE X b tb):PE X (.BinOp a op b pos) (tOp r ta tb):=by intro pins s σ H Q I h;exact wpAny_BinOp (Hg ha hb I h fun v u s2 x y H2 I2 rx ry q=>ho pins s2 σ H2 x y v u Q I2 rx ry q)
theorem opI {f:Value->Value->Sem Value}{C:Int->Int->Prop}{g:Int->Int->Int}
  (rule:∀(i j:Int) (t u:Tok) (s:Shared) (Q:Value->Shared->Prop) (E:Value->Shared->Prop),C i j->Q (.int (g i j) s.toks) { s with toks:=s.toks+1 }->wpAny (model X.prog X.w) X.A (f (.int i t) (.int j u)) Q E s) :
  OpR X f (rI C fun i j=>.int (g i j)):=by
 intro pins s σ H x y v u Q I rx ry h;obtain⟨i,j,rfl,rfl,hc,q⟩:=h;obtain⟨t,rfl⟩:=rx;obtain⟨t',rfl⟩:=ry;exact rule i j t t' s _ _ hc ⟨.int (g i j),H,I.tok _,⟨_,rfl⟩,q⟩
theorem Je {f:Value->Value->Sem Value}{g:Int->Int->Int}
  (rule:∀(i j:Int) (t u:Tok) (s:Shared) (Q:Value->Shared->Prop) (E:Value->Shared->Prop),Q (.int (g i j) s.toks) { s with toks:=s.toks+1 }->wpAny (model X.prog X.w) X.A (f (.int i t) (.int j u)) Q E s) :
  OpR X f (rI0 fun i j=>.int (g i j)):=by
 intro pins s σ H x y v u Q I rx ry h;obtain⟨i,j,rfl,rfl,q⟩:=h;obtain⟨t,rfl⟩:=rx;obtain⟨t',rfl⟩:=ry;exact rule i j t t' s _ _ ⟨.int (g i j),H,I.tok _,⟨_,rfl⟩,q⟩
theorem GV {f:Value->Value->Sem Value}{g:Int->Int->Bool}
  (rule:∀(i j:Int) (t u:Tok) (s:Shared) (Q:Value->Shared->Prop) (E:Value->Shared->Prop),Q (.bool (g i j)) s->wpAny (model X.prog X.w) X.A (f (.int i t) (.int j u)) Q E s) :
  OpR X f (rI0 fun i j=>.bl (g i j)):=by
 intro pins s σ H x y v u Q I rx ry h;obtain⟨i,j,rfl,rfl,q⟩:=h;obtain⟨t,rfl⟩:=rx;obtain⟨t',rfl⟩:=ry;exact rule i j t t' s _ _ ⟨.bl (g i j),H,I,rfl,q⟩
def D7 (i j:Int):Prop:=0<=j/\j<=1000000/\i.natAbs<2 ^ 64
theorem IC:OpR X (binaryOp .Add) (rI0 fun i j=>.int (i+j)):=Je fun _ _ _ _ _ _ _ q=>add_int q
theorem Hv:OpR X (binaryOp .Sub) (rI0 fun i j=>.int (i-j)):=Je fun _ _ _ _ _ _ _ q=>sub_int q
theorem IL:OpR X (binaryOp .Mod) (rI (fun _ j=>0<j) fun i j=>.int (i % j)):=opI fun i j _ _ _ _ _ hc q=>by have h1:(0:Int)<j:=hc;exact mod_int' (by omega) (by rw[Int.fmod_eq_emod_of_nonneg i (by omega)];exact q)
theorem GK:OpR X (binaryOp .Pow) (rI D7 fun i j=>.int (i ^ j.toNat)):=opI fun _ _ _ _ _ _ _ hc q=>pow_int_small hc.1 hc.2.1 hc.2.2 q
end
noncomputable def Jo:V->V->Bool
 | .non,.non=>true | .non,.int _=>true | .int _,.non=>true | .non,.bl _=>true | .bl _,.non=>true | .non,.str _=>true | .str _,.non=>true
 | .int _,.int _=>true | .bl _,.bl _=>true | .str _,.str _=>true | .byt _,.byt _=>true
 | .int _,.str _=>true | .str _,.int _=>true | .bl _,.str _=>true | .str _,.bl _=>true
 | _,_=>false
noncomputable def rEq:R2:=fun x y H Q=>Jo x y=true/\Q (.bl (decide (x=y))) H
noncomputable def rNe:R2:=fun x y H Q=>Jo x y=true/\Q (.bl (!decide (x=y))) H
theorem xE:decide (V.int i=V.int j)=(i == j):=by rw[OM];simp
theorem Bn:decide (V.bl i=V.bl j)=(i == j):=by rw[OM];simp
theorem wx:decide (V.str i=V.str j)=(i == j):=by rw[OM];simp
theorem wa {i j:Array UInt8}:decide (V.byt i=V.byt j)=(i.toList == j.toList):=by rw[OM];cases i;cases j;simp
section
variable {X:Cx}{a b c:Expr}{ta tb tc:TE}{pos:Pos}
theorem aI {σ:St}{Q:VK}{k':Bool}(I:Inv X pins σ H s)(q:Q (.bl k) H)(e:k=k'):EP X pins σ Q (.bool k') s:=by subst e;exact⟨.bl k,H,I,rfl,q⟩
theorem zJ:OpR X (compareOp .Eq) rEq:=by
 intro pins s σ H x y v u Q I rx ry h;obtain⟨hs,q⟩:=h;cases x with
 | non =>
  cases rx;cases y with
  | non=>cases ry;exact PySem.EqNone.eq_none_none (aI I q (by simp))
  | bl j=>cases ry;exact PySem.EqNone.eq_none_bool (aI I q (by simp))
  | int j=>obtain⟨t',rfl⟩:=ry;exact PySem.EqNone.eq_none_int (aI I q (by simp))
  | str j=>obtain⟨t',rfl⟩:=ry;exact PySem.EqNone.eq_none_str (aI I q (by simp))
  | _=>exact absurd (show false=true from hs) MA
 | bl i =>
  cases rx;cases y with
  | non=>cases ry;exact PySem.EqNone.eq_bool_none (aI I q (by simp))
  | bl j=>cases ry;exact eq_bool (aI I q Bn)
  | str j=>obtain⟨t',rfl⟩:=ry;exact PySem.EqMixed.eq_bool_str (aI I q (by simp))
  | _=>exact absurd (show false=true from hs) MA
 | int i =>
  obtain⟨t,rfl⟩:=rx;cases y with
  | non=>cases ry;exact PySem.EqNone.eq_int_none (aI I q (by simp))
  | int j=>obtain⟨t',rfl⟩:=ry;exact eq_int (aI I q xE)
  | str j=>obtain⟨t',rfl⟩:=ry;exact PySem.EqMixed.eq_int_str (aI I q (by simp))
  | _=>exact absurd (show false=true from hs) MA
 | str i =>
  obtain⟨t,rfl⟩:=rx;cases y with
  | non=>cases ry;exact PySem.EqNone.eq_str_none (aI I q (by simp))
  | bl j=>cases ry;exact PySem.EqMixed.eq_str_bool (aI I q (by simp))
  | int j=>obtain⟨t',rfl⟩:=ry;exact PySem.EqMixed.eq_str_int (aI I q (by simp))
  | str j=>obtain⟨t',rfl⟩:=ry;exact eq_str (aI I q wx)
  | _=>exact absurd (show false=true from hs) MA
 | byt i =>
  obtain⟨t,rfl⟩:=rx;cases y with
  | byt j=>obtain⟨t',rfl⟩:=ry;exact W.eq_bytes (aI I q wa)
  | _=>exact absurd (show false=true from hs) MA
 | _=>cases y <;> exact absurd (show false=true from hs) MA
theorem zI:OpR X (compareOp .NotEq) rNe:=by
 intro pins s σ H x y v u Q I rx ry h;obtain⟨hs,q⟩:=h;cases x with
 | non =>
  cases rx;cases y with
  | non=>cases ry;exact PySem.EqNone.ne_none_none (aI I q (by simp))
  | bl j=>cases ry;exact PySem.EqNone.ne_none_bool (aI I q (by simp))
  | int j=>obtain⟨t',rfl⟩:=ry;exact PySem.EqNone.ne_none_int (aI I q (by simp))
  | str j=>obtain⟨t',rfl⟩:=ry;exact PySem.EqNone.ne_none_str (aI I q (by simp))
  | _=>exact absurd (show false=true from hs) MA
 | bl i =>
  cases rx;cases y with
  | non=>cases ry;exact PySem.EqNone.ne_bool_none (aI I q (by simp))
  | bl j=>cases ry;exact ne_bool (aI I q (NC not Bn))
  | str j=>obtain⟨t',rfl⟩:=ry;exact PySem.EqMixed.ne_bool_str (aI I q (by simp))
  | _=>exact absurd (show false=true from hs) MA
 | int i =>
  obtain⟨t,rfl⟩:=rx;cases y with
  | non=>cases ry;exact PySem.EqNone.ne_int_none (aI I q (by simp))
  | int j=>obtain⟨t',rfl⟩:=ry;exact ne_int (aI I q (NC not xE))
  | str j=>obtain⟨t',rfl⟩:=ry;exact PySem.EqMixed.ne_int_str (aI I q (by simp))
  | _=>exact absurd (show false=true from hs) MA
 | str i =>
  obtain⟨t,rfl⟩:=rx;cases y with
  | non=>cases ry;exact PySem.EqNone.ne_str_none (aI I q (by simp))
  | bl j=>cases ry;exact PySem.EqMixed.ne_str_bool (aI I q (by simp))
  | int j=>obtain⟨t',rfl⟩:=ry;exact PySem.EqMixed.ne_str_int (aI I q (by simp))
  | str j=>obtain⟨t',rfl⟩:=ry;exact ne_str (aI I q (NC not wx))
  | _=>exact absurd (show false=true from hs) MA
 | byt i =>
  obtain⟨t,rfl⟩:=rx;cases y with
  | byt j=>obtain⟨t',rfl⟩:=ry;exact W.ne_bytes (aI I q (NC not wa))
  | _=>exact absurd (show false=true from hs) MA
 | _=>cases y <;> exact absurd (show false=true from hs) MA
theorem KI:OpR X (compareOp .Lt) (rI0 fun i j=>.bl (decide (i<j))):=GV fun _ _ _ _ _ _ _ q=>lt_int q
theorem Jq:OpR X (compareOp .Gt) (rI0 fun i j=>.bl (decide (j<i))):=GV fun _ _ _ _ _ _ _ q=>gt_int q
theorem La:OpR X (compareOp .GtE) (rI0 fun i j=>.bl (decide (j<=i))):=GV fun _ _ _ _ _ _ _ q=>ge_int q
theorem G_:OpR X (compareOp .Is) (fun x y H Q=>y=.non/\Q (.bl (decide (x=.non))) H):=by
 intro pins s σ H x y v u Q I rx ry h;obtain⟨rfl,q⟩:=h;cases ry;refine is_none_gen (aI I q ?_);cases x <;> first
  | (cases rx;rfl)
  | (obtain⟨t,rfl⟩:=rx;rfl)
theorem DB:OpR X (compareOp .IsNot) (fun x y H Q=>y=.non/\Q (.bl (!decide (x=.non))) H):=by
 intro pins s σ H x y v u Q I rx ry h;obtain⟨rfl,q⟩:=h;cases ry;refine isnot_none_gen (aI I q ?_);cases x <;> first
  | (cases rx;rfl)
  | (obtain⟨t,rfl⟩:=rx;rfl)
theorem qE (ho:OpR X (compareOp op) r)(ha:PE X a ta)(hb:PE X b tb)(hm:behindInMarks op b=false):PE X (.Compare a [op] [b] pos) (tOp r ta tb):=by intro pins s σ H Q I h;exact wpAny_Compare1 (Hg ha hb I h fun v u s2 x y H2 I2 rx ry q=>ho pins s2 σ H2 x y v u Q I2 rx ry q) hm
noncomputable def Jc (t:TE):TT:=fun σ H Q=>t σ H fun x H'=>∃k,x=.bl k/\Q k H'
theorem p8 (ho:OpR X (compareOp op) r)(ha:PE X a ta)(hb:PE X b tb)(hm:behindInMarks op b=false):PT X (.Compare a [op] [b] pos) (Jc (tOp r ta tb)):=by
 intro pins s σ H Q I h;refine wpAny_isTrue_Compare1 (thn (ha pins s σ H _ I h) fun v s1 ⟨x,H1,I1,r1,q1⟩=>thn (hb pins s1 σ H1 _ I1 q1) fun u s2 ⟨y,H2,I2,r2,q2⟩ =>
  thn (ho pins s2 σ H2 x y v u _ I2 r1 r2 q2) fun c s3 ⟨z,H3,I3,r3,k,e,q3⟩=>?_) hm
 subst e;cases r3;exact wpAny_truthy_bool ⟨H3,I3,q3⟩
def HQ (K:W.Frag)(x:V)(H:Hp)(k:Bool):Prop :=
 match x with
 | .non=>k=false
 | .bl b=>k=b
 | .int i=>k=(i != 0)
 | .str y=>y.length<=sizeLine/\k=((y.length:Int) != 0)
 | .byt y=>y.size<=sizeLine/\k=((y.size:Int) != 0)
 | .ref p=>(∃xs,SqL K H p xs/\k=!xs.isEmpty)\/(∃xs,SqT K H p xs/\k=!xs.isEmpty)\/∃kvs,H p=some (.dK kvs)/\k=!kvs.isEmpty
 | _=>False
theorem uF {κ:Type}{kvs:List (κ × V)}{vs:List (κ × Value)}(r:KV kvs vs):(!vs.isEmpty)=!kvs.isEmpty:=by cases r <;> rfl
theorem mR (r:Vals xs its):(!its.toArray.isEmpty)=!xs.isEmpty:=by cases r <;> simp
theorem iF:(sizeLine:Nat)<2 ^ 63:=by rw[sizeLine_eq];decide
theorem Hq:L7 X (fun x H Q=>∃k,HQ X.K x H k/\Q k H):=by
 intro pins s σ H x v Q I rx h;obtain⟨k,e,q⟩:=h;have hl:=iF;have hs:sizeLine=16777216:=sizeLine_eq;cases x with
 | non =>cases rx;have e':k=false:=e;subst e';exact truthy_none ⟨H,I,q⟩
 | bl b =>cases rx;have e':k=b:=e;subst e';exact wpAny_truthy_bool ⟨H,I,q⟩
 | int i =>obtain⟨t,rfl⟩:=rx;have e':k=(i != 0):=e;subst e';exact PySem.P.truthy_int ⟨H,I,q⟩
 | str y =>obtain⟨t,rfl⟩:=rx;obtain⟨hy,e'⟩:y.length<=sizeLine/\k=((y.length:Int) != 0):=e;subst e';exact PySem.P.truthy_str (by omega) ⟨H,I.tok _,q⟩
 | byt y =>obtain⟨t,rfl⟩:=rx;obtain⟨hy,e'⟩:y.size<=sizeLine/\k=((y.size:Int) != 0):=e;subst e';exact W.truthy_bytes (by omega) ⟨H,I.tok _,q⟩
 | ref p =>
  cases rx;have e':(∃xs,SqL X.K H p xs/\k=!xs.isEmpty)\/(∃xs,SqT X.K H p xs/\k=!xs.isEmpty)\/∃kvs,H p=some (.dK kvs)/\k=!kvs.isEmpty:=e;rcases e' with⟨xs,hx,e'⟩|⟨xs,hx,e'⟩|⟨kvs,hx,e'⟩
  ·subst e';obtain⟨its,r,pl,hz⟩:=I.list hx;have hlen:=r.length;exact wpAny_truthy_list pl.isList (by simp only[List.size_toArray];omega) ⟨H,I.tok _,by rw[mR r];exact q⟩
  ·subst e';obtain⟨its,r,pl,hz⟩:=I.tuple hx;have hlen:=r.length;exact truthy_tuple pl (by simp only[List.size_toArray];omega) ⟨H,I.tok _,by rw[mR r];exact q⟩
  ·subst e';obtain⟨hz,hS,vs,r,m⟩:kvs.length<=sizeLine/\(p == sysModules)=false/\∃vs,KV kvs vs/\s.heap.DictOf (aE X.prog X.w) p vs:=I.hok p _ hx;have hlen:kvs.length=vs.length:=Paired.length r;exact wpAny_truthy_dict hS m (by omega) ⟨H,I.tok _,by rw[uF r];exact q⟩
 | _=>exact(show False from e).elim
theorem fI (ha:PE X a ta)(he:∀whole,isTrue a X.env whole=(do let v <-whole;standAt a.pos;holding [v] (truthy v))) :
  PT X a (fun σ H Q=>ta σ H fun x H'=>∃k,HQ X.K x H' k/\Q k H'):=by
 intro pins s σ H Q I h;exact isTrue_plain (thn (ha pins s σ H _ I h) fun v s1 ⟨x,H1,I1,r1,q1⟩=>Hq pins s1 σ H1 x v Q I1 r1 q1) (he _)
theorem o6 {x:V}(r:Vals [x] us):∃u,us=[u]/\RelV x u:=by
 cases r with
 | cons r1 r2=>cases r2;exact⟨_,rfl,r1⟩
theorem xa {x:V}(r:Vals [x,y] us):∃u w',us=[u,w']/\RelV x u/\RelV y w':=by
 cases r with
 | cons r1 r2 =>
  cases r2 with
  | cons r3 r4=>cases r4;exact⟨_,_,rfl,r1,r3⟩
theorem y7 (hc:X.calm=true):gi X (.builtin "max") (fun xs H Q=>∃i j,xs=[.int i,.int j]/\Q (.int (if j > i then j else i)) H):=by
 intro pins s σ H xs us Q I r h;obtain⟨i,j,rfl,q⟩:=h;obtain⟨u,w',rfl,⟨t,rfl⟩,⟨t',rfl⟩⟩:=xa r;refine max_two_ints (I.ok.hd hc) fun h' tk k=>⟨_,H,I.kept k,?_,q⟩;by_cases hj:j > i
 ·rw[MN hj,MN hj];exact⟨_,rfl⟩
 ·rw[ML hj,ML hj];exact⟨_,rfl⟩
end
end L2
namespace L2
structure Mf (h:Heap)(x dx C:Addr)(mA:Str->Option Value):Prop where
 obj:h.get? x=some (W.instObj C dx)
 ns:h.Ns1 dx mA
 ne:dx≠x
section
variable {prog:Program}{w:World}{A:Around}{E:Value->Shared->Prop}{s:Shared}{K:W.Frag}{x dx C f:Addr}{mA:Str->Option Value}{name:Str}{v:Value}
end
theorem RelO.some_of (r:RelO (some v) o):∃u,o=some u/\RelV v u:=by
 cases o with
 | none=>exact(show False from r).elim
 | some u=>exact⟨u,rfl,r⟩
section
variable {P:Program}{w:World}{H H':Hp}{h h':Heap}{a C dx:Addr}{fs fs':List (Str × V)}
end
structure Cls (K:W.Frag)(C:Addr):Prop where
 pg:W.plainGet K C Str.empty=true
 hd:W.hasDictIn K C=true
 po:W.plainOver K C=true
 sa:W.findIn K (.ref C) "__setattr__"=some (some (.builtin "object.__setattr__"))
structure Con (K:W.Frag)(C:Addr)(f:Str)(v:V)(u:Value):Prop where
 at_:W.findIn K (.ref C) f=some (some u)
 rel:RelV v u
 get:W.specialIn K u "__get__"=some none
 cp:W.copiedNames.contains f=false
structure Mg (K:W.Frag)(C:Addr)(m:Str)(f:Addr):Prop where
 at_:W.findIn K (.ref C) m=some (some (.ref f))
 fn:W.isFn K (.ref f)=true
 kp:W.keepIn K (.ref f)=true
section
variable {X:Cx}{pins:List (Addr × Obj)}{σ:St}{H:Hp}{s:Shared}{a C dx:Addr}{fs:List (Str × V)}{f:Str}{v:V}{A:Around}{E:Value->Shared->Prop}
theorem Eg (hb:attributeBase e f env (eval e env)=eval e env)(h:wpAny (model prog w) A (eval e env) (fun o s₁=>wpAny (model prog w) A (getAttr o f true) Q E s₁) E s):wpAny (model prog w) A (eval (.Attribute e f pos) env) Q E s :=
 Attribute_any_ h (by rw[arm_eval_Attribute,hb])
end
section
variable {X:Cx}{o e value:Expr}{f:Str}{pos pos' tpos:Pos}{ta tv:TE}
end
section
variable {X:Cx}{pins:List (Addr × Obj)}{σ:St}{H:Hp}{s:Shared}{A:Around}{E:Value->Shared->Prop}{Q:Value->Shared->Prop}{c:Value}{b:Bool}
inductive l' (K:W.Frag)(H:Hp):V->Value->Prop where
 | non:l' K H .non (.type "NoneType")
 | bl (x:Bool):l' K H (.bl x) (.type "bool")
 | int (i:Int):l' K H (.int i) (.type "int")
 | str (x:Str):l' K H (.str x) (.type "str")
 | flt (x:UInt64):l' K H (.flt x) (.type "float")
 | lst {a:Addr} {xs:List V} (e:H a=some (.lst xs)):l' K H (.ref a) (.type "list")
 | frz {a:Addr} {o:Obj} {xs:List V} (e:H a=some (.frz o (.lst xs))):l' K H (.ref a) (.type "list")
 | tup {a:Addr} {xs:List V} (e:H a=some (.tup xs)):l' K H (.ref a) (.type "tuple")
 | dK {a:Addr} {kvs:List (Key × V)} (e:H a=some (.dK kvs)):l' K H (.ref a) (.type "dict")
 | dT {a:Addr} {kvs:List (List Key × V)} (e:H a=some (.dT kvs)):l' K H (.ref a) (.type "dict")
 | ins {a C dx:Addr} {fs:List (Str × V)} (e:H a=some (.ins C dx fs)) (cl:Cls K C) (ha:W.findIn K (.ref C) "__class__"=some (some (.builtin "object.__class__")))
   (hn:W.specialIn K (.builtin "object.__class__") "__get__"=some (some (.builtin "getset_descriptor.__get__"))) (htk:W.takesIn K (.builtin "object.__class__")=some true)
   (hm:W.mroIn K C (.type "object")=some true):l' K H (.ref a) (.ref C)
end
end L2
namespace L2
structure Room (k:Nat)(A:Around):Prop where
 hd:A.handled=none
 dp:A.depth+3*k+5<recursionLimit
 un:A.units+16*k+200<cLine
 gd:A.guards=some []
theorem Room.mono {j:Nat}(r:Room k A)(h:j<=k):Room j A:=⟨r.hd,by have:=r.dp;omega,by have:=r.un;omega,r.gd⟩
theorem Room.deeper {k:Nat}(r:Room (k+1) A)(env:Env):Room k (A.deeper env) :=
 ⟨r.hd,by have:=r.dp;show A.depth+1+3*k+5<_;omega,by have:=r.un;show A.units+3+16*k+200<_;omega,r.gd⟩
theorem vf {A:Around}{us:List Value}:(A.under (.builtin "type.__call__" ⟨.ref C::us,kw⟩)).depth=A.depth+1:=by
 first|rfl|simp[Around.under,Code.weight,Code.isCreation,Code.isGuard,Code.isCaller,Code.frames,Code.isFrame,guardIds]
theorem vD {A:Around}{us:List Value}:(A.under (.builtin "type.__call__" ⟨.ref C::us,kw⟩)).units=A.units+1:=by
 first|rfl|simp[Around.under,Code.cUnits,Code.frames,Code.isFrame]
theorem Room.make {k:Nat}(r:Room (k+1) A)(C:Addr)(us:List Value)(kw:List (Str × Value)):Room k (A.under (.builtin "type.__call__" ⟨.ref C::us,kw⟩)) :=
 ⟨r.hd,by have:=r.dp;rw[vf];omega,by have:=r.un;rw[vD];omega,r.gd⟩
theorem Room.depth (r:Room k A):A.depth<recursionLimit:=by have:=r.dp;omega
theorem Room.units (r:Room k A):A.units+64<cLine:=by have:=r.un;omega
noncomputable def sY:TA:=fun _ H Q=>Q [] H
noncomputable def jz (ta:TE)(tr:TA):TA:=fun σ H Q=>ta σ H fun x H1=>tr σ H1 fun xs H2=>Q (x::xs) H2
section
variable {X:Cx}{e:Expr}{es:List Expr}{te:TE}{t:TA}{pos:Pos}
theorem eX:PA X [] sY:=fun _ _ _ _ H Q I h=>Calls.spliced_nil ⟨[],H,I,.nil,h⟩
theorem Eo (ha:PE X e te)(hr:PA X es t)(hs:starEach (e::es) X.env=(false,eval e X.env)::starEach es X.env:=by rfl):PA X (e::es) (jz te t):=by intro pos pins s σ H Q I h;rw[hs];show wpAny _ _ (spliced ((false,eval e X.env)::backTo pos (starEach es X.env))) _ _ s;refine Calls.spliced_cons (thn (ha pins s σ H _ I h) fun u s1 ⟨x,H1,I1,r1,q1⟩=>?_);exact thn (hr pos pins s1 σ H1 _ I1 q1) fun us s2 ⟨xs,H2,I2,r2,q2⟩=>⟨x::xs,H2,I2,.cons r1 r2,q2⟩
noncomputable def L4 (t:TA):TE:=fun σ H Q=>t σ H fun xs H1=>xs.length<=sizeLine/\∀p,H1 p=none->Q (.ref p) (upd H1 p (.tup xs))
noncomputable def Jl (t:TA):TE:=fun σ H Q=>t σ H fun xs H1=>xs.length<=sizeLine/\∀p,H1 p=none->Q (.ref p) (upd H1 p (.lst xs))
theorem BC {x1}(h:PA X es t):PE X (.Tuple es x1 pos) (L4 t):=by intro pins s σ H Q I hq;refine wpAny_Tuple_spliced (thn (h pos pins s σ H _ I hq) fun us s1 ⟨xs,H1,I1,r,z,q⟩=>⟨by rw[<-r.length];exact z,?_⟩);have hf:H1 s1.heap.objs.size=none:=I1.hok.fresh (MJ _);refine⟨.ref s1.heap.objs.size,upd H1 s1.heap.objs.size (.tup xs),I1.laid (t':=s1.toks) (fun b u e=>MD _ e) (MJ _) ?_,rfl,q _ hf⟩;exact⟨z,us,r,⟨_,MZ _ rfl,rfl,_,rfl⟩⟩
theorem mh (h:PA X es t):PE X (.List es pos) (Jl t):=by intro pins s σ H Q I hq;refine wpAny_List_spliced (thn (h pos pins s σ H _ I hq) fun us s1 ⟨xs,H1,I1,r,z,q⟩=>⟨by rw[<-r.length];exact z,?_⟩);have hf:H1 s1.heap.objs.size=none:=I1.hok.fresh (MJ _);refine⟨.ref s1.heap.objs.size,upd H1 s1.heap.objs.size (.lst xs),I1.laid (t':=s1.toks) (fun b u e=>MD _ e) (MJ _) ?_,rfl,q _ hf⟩;exact⟨z,us,0,r,MZ _ rfl⟩
end
noncomputable abbrev Sp:=List V->Hp->VK->XK->Prop
noncomputable abbrev CXT:=List Env->Hp->Shared->XK->Value->Shared->Prop
structure Env0 (P:Program)(w:World)(K:W.Frag)(mg:Str->Option Value)(base:Heap)(A:Around)(outer:List Env)(s:Shared)(H:Hp):Prop where
 frames:A.frames=some outer
 mod:Mod K mg base
 bs:∀b o,base.get? b=some o->s.heap.get? b=some o/\H b=none
 bsz:base.objs.size<=s.heap.objs.size
 funs:s.heap.FunFrames base outer
 frf:∀b∈frs outer,H b=none
 hok:HOk P w H s.heap
 bare:AllBare s.gens
def CE (outer:List Env)(P:Program)(w:World)(H:Hp)(s:Shared)(Q:VK)(u:Value)(s':Shared):Prop :=
 ∃v H',s'.os=s.os/\AllBare s'.gens/\Un (frs outer) [] H H' s.heap s'.heap/\HOk P w H' s'.heap/\RelV v u/\Q v H'
def CR (CX:CXT)(outer:List Env)(P:Program)(w:World)(H:Hp)(s:Shared)(Q:VK)(E:XK)(r:Result)(s':Shared):Prop :=
 match r with
 | .ok (.ret u)=>CE outer P w H s Q u s'
 | .ok _=>False
 | .error e=>CX outer H s E e s'
structure kW (P:Program)(w:World)(K:W.Frag)(mg:Str->Option Value)(base:Heap)(CX:CXT)(k:Nat)(f:Addr)(fd:FuncData)(ps:List Str)(sp:Sp):Prop where
 len:∀vs H Q E,sp vs H Q E->vs.length=ps.length
 run:∀(A:Around) (outer:List Env) (s:Shared) (H:Hp) (args:Args) (us:List Value) (vs:List V) (Q:VK) (E:XK),Room k A->Env0 P w K mg base A outer s H->BindsTo s fd args (ps.zip us)->Vals vs us->sp vs H Q E ->
  codeAny (model P w) A (.call (.ref f) args) (CR CX outer P w H s Q E) s
theorem Env0.make (e:Env0 P w K mg base A outer s H)(C:Addr)(us:List Value)(kw:List (Str × Value)) :
  Env0 P w K mg base (A.under (.builtin "type.__call__" ⟨.ref C::us,kw⟩)) outer s H:=⟨by first|exact e.frames|(simpa [Around.under,Code.envs,Code.isFrame,pushEnvs] using e.frames),e.mod,e.bs,e.bsz,e.funs,e.frf,e.hok,e.bare⟩
section
variable {X:Cx}{pins:List (Addr × Obj)}{σ:St}{H:Hp}{s s':Shared}
theorem Inv.env0 (I:Inv X pins σ H s):Env0 X.prog X.w X.K X.mg X.base X.A X.stack s H :=
 ⟨I.ok.frames,I.ok.mod,I.bs,MY I.ok.bsz I.sz,I.stack,I.stkFree,I.hok,I.bare⟩
theorem Inv.after (I:Inv X pins σ H s)(h:CE X.stack X.prog X.w H s Q u s'):EP X pins σ Q u s':=by obtain⟨v,H',os,bare,un,hok,r,q⟩:=h;obtain⟨hh,g,d,t,os'⟩:=s';obtain rfl:os'=s.os:=os;exact⟨v,H',I.call (h':=hh) (g':=g) (d':=d) (t':=t) (ch:=[]) un hok bare (fun b z=>absurd z (by simp)),r,q⟩
end
noncomputable def kK (sp:Sp)(dvs:List V)(E:XK)(t:TA):TE:=fun σ H Q=>t σ H fun vs H1=>sp (vs++dvs) H1 Q E
def Binds (K:W.Frag)(fd:FuncData)(ps:List Str)(ds:List Value):Prop :=
 ∀(s:Shared) (us:List Value),K.In s.heap->(us++ds).length=ps.length->BindsTo s fd ⟨us,[]⟩ (ps.zip (us++ds))
theorem Binds.all {ps:List Str}(h:∀us:List Value,us.length=ps.length->bindArgs fd ⟨us,[]⟩=pure (ps.zip us)):Binds K fd ps []:=fun s us _ hl=>by
 rw[OE] at hl |-
 exact .of_eq (h us hl)
def rk (CX:CXT)(X:Cx)(E:XK):Prop:=∀(pins:List (Addr × Obj)) (σ:St) (H:Hp) (s:Shared) (e:Value) (s':Shared),Inv X pins σ H s->CX X.stack H s E e s'->X.xe e s'
section
variable {X:Cx}{CX:CXT}{k:Nat}{f C:Addr}{fd:FuncData}{ps:List Str}{sp:Sp}{dvs:List V}{ds:List Value}{E:XK}{x m:Str}{p pos apos:Pos}{e o:Expr}{es:List Expr}{ta:TE}{t:TA}
theorem uh {σ:St}(F:kW X.prog X.w X.K X.mg X.base CX k f fd ps sp)(hr:Room k X.A)(hb:Binds X.K fd ps ds)(hd:Vals dvs ds)(hx:rk CX X E)(I:Inv X pins σ H s)(r:Vals vs us)(h:sp (vs++dvs) H Q E):wpAny (model X.prog X.w) X.A (call (.ref f) us) (EP X pins σ Q) X.xe s:=by
 have r2:Vals (vs++dvs) (us++ds):=r.append hd;have hl:(us++ds).length=ps.length:=by rw[<-r2.length];exact F.len _ _ _ _ h
 refine wpAny_call (codeAny_mono (F.run X.A X.stack s H ⟨us,[]⟩ (us++ds) (vs++dvs) Q E hr I.env0 (hb s us I.kIn hl) r2 h) fun r s' hq=>?_);cases r with
 | error e=>exact hx pins σ H s e s' I hq
 | ok fl =>
  cases fl with
  | ret u=>exact I.after hq
  | next=>exact False.elim hq
  | brk=>exact False.elim hq
  | cont=>exact False.elim hq
theorem CT (F:kW X.prog X.w X.K X.mg X.base CX k f fd ps sp)(hr:Room k X.A)(hg:Gl X x)(hm:X.mg x=some (.ref f))(hk:W.keepIn X.K (.ref f)=true)(hb:Binds X.K fd ps ds)(hd:Vals dvs ds)(hx:rk CX X E)
  (ha:PA X (e::es) t) (hdb:(x == ("__debug__":Str))=false:=by decide) (he:starEach (e::es) X.env=(false,eval e X.env)::starEach es X.env:=by rfl) (hpl:(backTo pos (starEach es X.env)).any (·.1)=false:=by rfl) :
  PE X (.Call (.Name x p) (e::es) [] pos) (kK sp dvs E t):=by
 intro pins s σ H Q I h;refine wpAny_Call_Name_kw (dH I hg hm ?_ hdb);refine PY (h₀:=X.base) I.ok.mod.kin hk (thn (ha pos pins s σ H _ I h) fun us s1 ⟨vs,H1,I1,r,q⟩=>⟨I1.kIn,?_⟩) he hpl;exact uh F hr hb hd hx I1 r q
theorem zZ (F:kW X.prog X.w X.K X.mg X.base CX k f fd ps sp)(hr:Room k X.A)(hg:Gl X x)(hm:X.mg x=some (.ref f))(hk:W.keepIn X.K (.ref f)=true)(hb:Binds X.K fd ps ds)(hd:Vals dvs ds)(hx:rk CX X E)
  (hdb:(x == ("__debug__":Str))=false:=by decide):PE X (.Call (.Name x p) [] [] pos) (kK sp dvs E sY):=by
 intro pins s σ H Q I h;refine wpAny_Call_Name_kw (dH I hg hm ?_ hdb);exact W.callWith_K0 I.kIn hk (uh (us:=[]) F hr hb hd hx I .nil h)
structure Mk (K:W.Frag)(C f:Addr):Prop where
 makes:W.makesIn K C=true
 init:W.findIn K (.ref C) "__init__"=some (some (.ref f))
 fn:W.isFn K (.ref f)=true
 kp:W.keepIn K (.ref C)=true
end
section
variable {X:Cx}{CX:CXT}{k:Nat}{f C:Addr}{fd:FuncData}{ps ks:List Str}{sp:Sp}{E:XK}{x m:Str}{p pos apos kpos:Pos}{e o:Expr}{es:List Expr}{kws:List Keyword}{te ta:TE}{t tk:TA}{nm:Option Str}
structure LS (K:W.Frag)(fd:FuncData)(ps ks:List Str)(g:List Value->List Value->List Value)(gV:List V->List V->List V):Prop where
 to:∀(s:Shared) (us ws:List Value),K.In s.heap->(g us ws).length=ps.length->BindsTo s fd ⟨us,ks.zip ws⟩ (ps.zip (g us ws))
 rel:∀ {vs:List V}{us:List Value}{zs:List V}{ws:List Value},Vals vs us->Vals zs ws->Vals (gV vs zs) (g us ws)
variable {g:List Value->List Value->List Value}{gV:List V->List V->List V}
end
structure ak (N P:List Str)(sc:Scope):Prop where
 kind:sc.kind=.function
 co:sc.isCoroutine=false
 gen:sc.isGenerator=false
 nd:N.Nodup
 pre:N.take P.length=P
 par:∀x∈P,sc.names.lookup x=some .local\/sc.names.lookup x=some .cell
 nofree:∀y∈sc.names,y.2≠.free
theorem oG {kindOf:Str->Option NameKind}{x:Str}:∀ {binds:List (Str × Value)}{m:Str->Option Value},(∀v,(x,v) ∉ binds)->bindL kindOf binds m x=m x
 | [],_,_=>rfl
 | (n,v)::r,m,h=>by
  unfold bindL;rw[oG fun w hw=>h w (MM _ hw)];split
  ·have:x≠n:=by rintro rfl;exact h v MQ
   simp[this]
  ·rfl
theorem oP {kindOf:Str->Option NameKind}{x:Str}:∀ {binds:List (Str × Value)}{m:Str->Option Value},(∀v,(x,v) ∉ binds)->bindC kindOf binds m x=m x
 | [],_,_=>rfl
 | (n,v)::r,m,h=>by
  unfold bindC;rw[oP fun w hw=>h w (MM _ hw)];split
  ·rfl
  ·have:x≠n:=by rintro rfl;exact h v MQ
   simp[this]
theorem oZ {kindOf:Str->Option NameKind}:∀ {P:List Str}{vs:List Value}{i:Nat}{m:Str->Option Value},P.Nodup->P[i]?=some x->vs[i]?=some v->kindOf x=some .local ->
  bindL kindOf (P.zip vs) m x=some v
 | [],_,_,_,_,h,_,_=>by simp at h
 | _::_,[],_,_,_,_,h,_=>by simp at h
 | p::P,w::vs,0,m,nd,h1,h2,hk=>by simp at h1 h2;subst h1;subst h2;show bindL kindOf ((p,w)::P.zip vs) m p=_;unfold bindL;rw[oG fun v hv=>(NO.mp nd).1 (ON hv).1,MN hk];simp
 | p::P,w::vs,i+1,m,nd,h1,h2,hk=>by show bindL kindOf ((p,w)::P.zip vs) m x=_;unfold bindL;exact oZ (i:=i) (NO.mp nd).2 (by simpa using h1) (by simpa using h2) hk
theorem oK {kindOf:Str->Option NameKind}:∀ {P:List Str}{vs:List Value}{i:Nat}{m:Str->Option Value},P.Nodup->P[i]?=some x->vs[i]?=some v->kindOf x≠some .local ->
  bindC kindOf (P.zip vs) m x=some v
 | [],_,_,_,_,h,_,_=>by simp at h
 | _::_,[],_,_,_,_,h,_=>by simp at h
 | p::P,w::vs,0,m,nd,h1,h2,hk=>by simp at h1 h2;subst h1;subst h2;show bindC kindOf ((p,w)::P.zip vs) m p=_;unfold bindC;rw[oP fun v hv=>(NO.mp nd).1 (ON hv).1,ML hk];simp
 | p::P,w::vs,i+1,m,nd,h1,h2,hk=>by show bindC kindOf ((p,w)::P.zip vs) m x=_;unfold bindC;exact oK (i:=i) (NO.mp nd).2 (by simpa using h1) (by simpa using h2) hk
noncomputable def start (N:List Str)(vs:List V):St:=vs.map some++List.replicate (N.length-vs.length) none
noncomputable def dv (CX:CXT)(P:Program)(w:World)(K:W.Frag)(mg:Str->Option Value)(base:Heap)(N:List Str)(qual:Str)(scope:Scope)(f:Addr)(cd:Value)(A:Around)(outer:List Env)(s:Shared)(H:Hp)(E:XK):Cx where
 prog:=P
 w:=w
 K:=K
 mg:=mg
 base:=base
 A:=A.deeper (envOfC qual scope s.heap.objs.size f cd)
 N:=N
 s₀:=s
 H₀:=H
 env:=envOfC qual scope s.heap.objs.size f cd
 outer:=outer
 stack:=envOfC qual scope s.heap.objs.size f cd::outer
 ex:=[]
 calm:=true
 fn:=fun _=>true
 pn:=[]
 xe:=fun e s'=>wpAny (model P w) (A.deeper (envOfC qual scope s.heap.objs.size f cd)) (leaving (envOfC qual scope s.heap.objs.size f cd) e) (fun _ s''=>CX outer H s E e s'') (fun e' s''=>CX outer H s E e' s'') s'
theorem sU {sc:Scope}(h:sc.names.lookup x=some .cell):∃c,(cellsFrom n sc.names []).lookup x=some c:=by have q:=QA sc.names n [] (.inl h);exact Option.isSome_iff_exists.mp q
theorem pH {A:Around}{E:XK}{vs:List V}(S:ak N ps scope)(hd:A.handled=none)(e0:Env0 P w K mg base A outer s H)(hl:vs.length=ps.length)(r:Vals vs us)(x:InCallC s s.heap.objs.size (bindL (envOfC qual scope s.heap.objs.size f cd).kindOf (ps.zip us) fun _=>none) (cellsFrom (s.heap.objs.size+1) scope.names []) (bindC (envOfC qual scope s.heap.objs.size f cd).kindOf (ps.zip us) fun _=>none) s1) :
  Inv (dv CX P w K mg base N qual scope f cd A outer s H E) [] (start N vs) H s1:=by
 have hpl:ps.length<=N.length:=by have:=NC List.length S.pre;rw[N5] at this;omega
 obtain⟨h1,tk,rfl,hk⟩:=x.done;have noA:∀b:Addr,b ∉ (dv CX P w K mg base N qual scope f cd A outer s H E).ex:=fun b z=>absurd (show b∈([]:List Addr) from z) (by simp);refine⟨⟨e0.mod,S.kind,rfl,rfl,MJ _,fun y z c h1 h2=>?_,fun y hy=>?_,fun y c _ h=>?_,fun _=>hd,Around.frames_deeper e0.frames,.inr ⟨rfl,rfl⟩,fun b z=>absurd z (noA b),e0.bs,e0.bsz,fun b _ _=>noA b,fun b z=>absurd z (noA b),e0.funs,e0.frf⟩,
  rfl,e0.bare,Un.kept hk,⟨_,x.toInCall.ns,fun i y v h1 h2 h3=>?_⟩,fun y c h=>⟨_,x.cell y c h⟩,e0.hok.fresh (MJ _),fun y c h=>?_,fun p hp=>absurd (show p∈([]:List (Addr × Obj)) from hp) (by simp),e0.hok.kept hk,?_⟩
 ·exact name_of_addr x.apart (NK h1) (NK h2)
 ·have hy:scope.names.lookup y=some .cell\/scope.names.lookup y=some .free:=hy;rcases hy with hy|hy
  ·exact sU hy
  ·exact absurd rfl (S.nofree _ (NK hy))
 ·exact NQ (x.above y c (NK h))
 ·have hi:i<vs.length:=by
   unfold start at h2;by_cases hi:i<vs.length
   ·exact hi
   ·rw[MX (by simpa using hi)] at h2;rw[List.getElem?_replicate] at h2;split at h2 <;> cases h2
  have ha:vs[i]?=some v:=by
   unfold start at h2;rw[MS (by simpa using hi),MI] at h2;cases e:vs[i]? with
   | none=>rw[e] at h2;cases h2
   | some a=>rw[e] at h2;cases h2;rfl
  obtain⟨u,hu,rv⟩:=r.get ha;have hp:ps[i]?=some y:=by rw[<-S.pre,OJ (by omega)];exact h1
  have ndP:ps.Nodup:=by rw[<-S.pre];exact S.nd.sublist (List.take_sublist _ _)
  refine⟨u,rv,?_⟩;rcases S.par y (MT hp) with k|k
  ·exact .inl ⟨k,oZ ndP hp hu k⟩
  ·obtain⟨c,e⟩:=sU (n:=s.heap.objs.size+1) k;refine .inr ⟨.inl k,c,e,?_⟩;have q:=x.cell y c e;rw[oK ndP hp hu (by show scope.names.lookup y≠_;rw[k];decide)] at q;exact q
 ·exact e0.hok.fresh (NQ (x.above y c (NK h)))
 ·unfold start;show _=N.length;rw[NU,ME,List.length_replicate];omega
theorem y9 {K:W.Frag}{name qual:Str}{params:Arguments}{body:List Stmt}{scope:Scope}{dV kV doc pm cdv ct:Value}{an:Option Addr}(lk:K.lookup f=some ⟨oc,od,.func (W.fnOf name qual params body scope dV kV doc pm an cdv ct),osl⟩)(hcd:W.codeIn K cdv qual=true)(S:ak N ps scope)(len:∀vs H Q E,sp vs H Q E->vs.length=ps.length)(hbody:∀(A:Around) (outer:List Env) (s:Shared) (H:Hp) (vs:List V) (Q:VK) (E:XK),Room k (A.deeper (envOfC qual scope s.heap.objs.size f cdv))->sp vs H Q E ->
   ∃t,PSs (dv CX P w K mg base N qual scope f cdv A outer s H E) body t/\t { nx:=fun _ H'=>Q .non H',rt:=Q } (start N vs) H) :
  kW P w K mg base CX (k+1) f (W.fnOf name qual params body scope dV kV doc pm an cdv ct) ps sp:=by
 refine⟨len,fun A outer s H args us vs Q E hr e0 hb r hsp=>?_⟩;have hl:=len _ _ _ _ hsp;have KX:K.In s.heap:=e0.mod.kin.keeps fun b o e=>(e0.bs b o e).1;have lim:s.heap.NoLimit:=e0.mod.nolimit.keeps fun b o e=>(e0.bs b o e).1;have hkind:∀y∈ps.zip us,scope.names.lookup y.1=some .local\/(scope.names.lookup y.1=some .cell/\((cellsFrom (s.heap.objs.size+1) scope.names []).lookup y.1).isSome=true):=fun ⟨n,v⟩ hy=>by
  rcases S.par n (ON hy).1 with q|q
  ·exact .inl q
  ·exact .inr ⟨q,QA _ _ _ (.inl q)⟩
 refine codeAny_call_function hr.depth (KX _ _ lk) rfl S.co S.gen rfl (W.codeRec_of KX hcd) (hb _ _ _ _ ?_);refine wpAny_newFunctionEnv_cells S.kind hkind fun env he s1 x=>?_;subst he;refine⟨lim.keeps x.toInCall.keep,codeAny_func ?_⟩;obtain⟨t,ht,hq⟩:=hbody A outer s H vs Q E (hr.deeper _) hsp;have I:Inv (dv CX P w K mg base N qual scope f cdv A outer s H E) [] (start N vs) H s1:=pH S hr.hd e0 hl r x;refine wpAny_mono (ht [] s1 (start N vs) H _ I hq) (fun fl s' hs=>?_) fun e s' hs=>hs;have fin:∀ {σ':St}{H':Hp}{v:V}{u:Value},Inv (dv CX P w K mg base N qual scope f cdv A outer s H E) [] σ' H' s'->RelV v u->Q v H'->CE outer P w H s Q u s' :=
  fun {σ' H' v u} J rv q=>⟨v,H',J.os,J.bare,J.base,J.hok,rv,q⟩
 cases fl with
 | ret u =>obtain⟨v,σ',H',J,rv,q⟩:=hs;exact fin J rv q
 | next =>obtain⟨σ',H',J,q⟩:=hs;exact fin (v:=V.non) (u:=Value.none) J rfl q
 | brk =>obtain⟨_,_,_,q⟩:=hs;exact False.elim q
 | cont =>obtain⟨_,_,_,q⟩:=hs;exact False.elim q
end L2
namespace L2
section
variable {X:Cx}{x:Str}{p pos:Pos}{e:Expr}{es:List Expr}{t:TA}{id T:String}{r:List V->Hp->VK->Prop}
noncomputable def tCB (r:List V->Hp->VK->Prop)(t:TA):TE:=fun σ H Q=>t σ H fun vs H1=>r vs H1 Q
theorem Br (hc:gi X (.builtin id) r)(hg:Gl X x)(hm:X.mg x=none)(hv:bootBuiltins x=some (.builtin id))(ha:PA X (e::es) t)(hn:x≠"__name__":=by decide)(hdb:(x == ("__debug__":Str))=false:=by decide)
  (he:starEach (e::es) X.env=(false,eval e X.env)::starEach es X.env:=by rfl) (hpl:(backTo pos (starEach es X.env)).any (·.1)=false:=by rfl):PE X (.Call (.Name x p) (e::es) [] pos) (tCB r t):=by
 intro pins s σ H Q I h;refine wpAny_Call_Name_kw (qX I hg hm hv ?_ hn hdb);exact PyProof.Rows.callWith_builtin1 (thn (ha pos pins s σ H _ I h) fun us s1 ⟨vs,H1,I1,r1,q1⟩=>hc pins s1 σ H1 vs us Q I1 r1 q1) he hpl
theorem xI (hc:gi X (.type T) r)(hg:Gl X x)(hm:X.mg x=none)(hv:bootBuiltins x=some (.type T))(ha:PA X (e::es) t)(hn:x≠"__name__":=by decide)(hdb:(x == ("__debug__":Str))=false:=by decide)
  (he:starEach (e::es) X.env=(false,eval e X.env)::starEach es X.env:=by rfl) (hpl:(backTo pos (starEach es X.env)).any (·.1)=false:=by rfl):PE X (.Call (.Name x p) (e::es) [] pos) (tCB r t):=by
 intro pins s σ H Q I h;refine wpAny_Call_Name_kw (qX I hg hm hv ?_ hn hdb);exact PyProof.Rows.callWith_type1 (thn (ha pos pins s σ H _ I h) fun us s1 ⟨vs,H1,I1,r1,q1⟩=>hc pins s1 σ H1 vs us Q I1 r1 q1) he hpl
end
end L2
namespace HT
open PySem
open PyProof.Rows hiding K st lo ad
section
open PySem.SeqAt
open PySem.AutoSeq1 (wpAny_loadPart')
open PySem.MeetsSeq PySem.MeetsSeq2 PySem.MeetsSeq3
end
section
variable {prog:Program}{w:World}{A:Around}{E:Value->Shared->Prop}{s:Shared}
noncomputable def sIx (n d:Nat):Option Int->Nat
 | none=>d
 | some v=>if v<0 then (v+(n:Int)).toNat else min v.toNat n
theorem Ip (n d:Nat)(hd:d<=n)(o:Option Int):sIx n d o<=n:=by
 cases o with
 | none=>exact hd
 | some v =>
  show (if v<0 then (v+(n:Int)).toNat else min v.toNat n)<=n;by_cases hv:v<0
  ·rw[MN hv];omega
  ·rw[ML hv];exact Nat.min_le_right _ _
theorem xu (v:Int)(n d:Nat):(if v<0 then max (v+(n:Int)) 0 else min v (n:Int))=((sIx n d (some v):Nat):Int):=by
 show (if v<0 then max (v+(n:Int)) 0 else min v (n:Int))=(((if v<0 then (v+(n:Int)).toNat else min v.toNat n):Nat):Int);by_cases hv:v<0
 ·simp only[if_pos hv];omega
 ·simp only[if_neg hv];omega
theorem uL (lo hi:Option Int)(n:Nat):Builtin.Slice.sliceAdjust lo hi 1 (n:Int)=(((sIx n 0 lo:Nat):Int),((sIx n n hi:Nat):Int)):=by
 have h1:¬((1:Int)<0):=by omega
 unfold Builtin.Slice.sliceAdjust;simp only[h1,if_false];refine QU ?_ ?_
 ·cases lo with
  | none=>rfl
  | some v=>exact xu v n 0
 ·cases hi with
  | none=>rfl
  | some v=>exact xu v n n
theorem vg (i j:Nat):Builtin.Slice.slicePlaces (i:Int) (j:Int) 1=j-i:=by
 unfold Builtin.Slice.slicePlaces;have h1:(1:Int) > 0:=by omega
 simp only[h1,if_true,Int.ediv_one];split <;> omega
theorem mS {Q:Option Int->Shared->Prop}(p:IsPart v o)(h:Q o s):wpAny (model prog w) A (Builtin.Slice.slicePartIndex v) Q E s:=by
 cases p with
 | none=>exact slicePart_none h
 | int i t=>exact slicePart_int h
theorem sliceApplied_gen {Q:Int × Int × Nat->Shared->Prop}(hs:s.heap.IsSliceOf sl vl vu .none)(pl:IsPart vl lo)(pu:IsPart vu hi)(h:Q (((sIx n 0 lo:Nat):Int),1,sIx n n hi-sIx n 0 lo) s):wpAny (model prog w) A (Builtin.Slice.sliceApplied (.ref sl) (pure (n:Int))) Q E s:=by
 obtain⟨os,hos,hcs,hds⟩:=id hs;unfold Builtin.Slice.sliceApplied Builtin.Slice.sliceFields;refine MB (MB (wpAny_field hos hds (x:=vl) rfl (MB (wpAny_field hos hds (x:=vu) rfl (MB (wpAny_field hos hds (x:=.none) rfl (MU ?_)))))));refine MB (slicePart_none ?_);show wpAny _ _ (if ((1:Int) == 0)=true then _ else _) _ _ s;rw[ML (by decide)];refine MB (mS pl (MB (mS pu (MB (MU ?_)))));show wpAny _ _ (match Builtin.Slice.sliceAdjust lo hi 1 (n:Int) with|(lo,hi)=>pure (lo,(1:Int),Builtin.Slice.slicePlaces lo hi 1)) _ _ s;rw[uL lo hi n];show wpAny _ _ (pure (((sIx n 0 lo:Nat):Int),(1:Int),Builtin.Slice.slicePlaces ((sIx n 0 lo:Nat):Int) ((sIx n n hi:Nat):Int) 1)) _ _ s;rw[vg];exact MU h
theorem AK (xs:Array Value)(i k:Nat):((List.range k).filterMap fun (m:Nat)=>xs[((i:Int)+(m:Int)*1).toNat]?).toArray=((xs.toList.drop i).take k).toArray:=by
 have e:(fun (m:Nat)=>xs[((i:Int)+(m:Int)*1).toNat]?)=fun m=>xs[i+m]?:=by
  funext m;have:((i:Int)+(m:Int)*1).toNat=i+m:=by omega
  rw[this]
 rw[e];have:=pick_run xs i k;rw[PZ] at this;have e2:((fun x=>xs[x]?) ∘ fun x=>i+x)=fun m=>xs[i+m]?:=rfl;rw[e2] at this;rw[this]
theorem getItem_tuple_cut {Q:Value->Shared->Prop}(ht:IsTup s.heap t items)(hs:s.heap.IsSliceOf sl vl vu .none)(pl:IsPart vl lo)(pu:IsPart vu hi)(hw:¬(sIx items.size 0 lo=0/\sIx items.size items.size hi=items.size))(h:Q (.ref s.heap.objs.size) { s with heap:=s.heap.push { cls:=.type "tuple",data:=.seq ((items.toList.drop (sIx items.size 0 lo)).take (sIx items.size items.size hi-sIx items.size 0 lo)).toArray } })(hsz:items.size<=sizeLine):wpAny (model prog w) A (getItem (.ref t) (.ref sl)) Q E s:=by
 have htake:sizeOk (.seq ((items.toList.drop (sIx items.size 0 lo)).take (sIx items.size items.size hi-sIx items.size 0 lo)).toArray):=by show ((items.toList.drop (sIx items.size 0 lo)).take (sIx items.size items.size hi-sIx items.size 0 lo)).toArray.size<=sizeLine;rw[M5,N5,List.length_drop,Array.length_toList];omega
 have hj:sIx items.size items.size hi<=items.size:=Ip _ _ (MJ _) hi;obtain⟨os,hos,hcs,hds⟩:=id hs;have hTs:s.TypeIs (.ref sl) "slice":=⟨os,hos,hcs⟩;unfold getItem
 try with_reducible refine N1 ?_
 first|refine MB (MU ?_)|skip
 refine MB (wpAny_sequenceKey ht.typeIs (by decide) ?_);refine MB (wpAny_callSpecial?_slot (name:=Str.ofString "__getitem__") ht.typeIs N_
  (wpAny_call_entry N_ ht.typeIs entry_tuple_getitem ?_ (args_tuple_getitem _ _)))
 show wpAny _ _ (Builtin.Tuple.tupleItemsOf (.ref t) >>= _) _ _ s;refine MB (tupleItemsOf_ ht ?_);refine MB (wpAny_typeOf hTs ?_);rw[MN (by decide)];refine MB (sliceApplied_gen hs pl pu ?_);have hno:¬((((sIx items.size 0 lo:Nat):Int) == 0 && (1:Int) == 1 && (sIx items.size items.size hi-sIx items.size 0 lo) == items.size)=true):=by intro q;rw[MG,MG] at q;have q1:((sIx items.size 0 lo:Nat):Int)=0:=eq_of_beq q.1.1;have q2:sIx items.size items.size hi-sIx items.size 0 lo=items.size:=eq_of_beq q.2;exact hw ⟨by omega,by omega⟩
 show wpAny _ _ (if (((sIx items.size 0 lo:Nat):Int) == 0 && (1:Int) == 1 && (sIx items.size items.size hi-sIx items.size 0 lo) == items.size)=true then _ else _) _ _ s;rw[ML hno,AK]
 first
  | exact MB (m:=Builtin.Tuple.tupleExact _) (wpAny_newObj_type (MU ⟨_,rfl,MU h⟩) htake)
  | exact MB (m:=Builtin.Tuple.tupleExact _) (wpAny_newObj_type (MB (MU (MU ⟨_,rfl,MU h⟩))) htake)
  | exact MB (MB (m:=Builtin.Tuple.tupleExact _) (wpAny_newObj_type (MU (MU ⟨_,rfl,MU h⟩)) htake))
  | exact MB (MB (m:=Builtin.Tuple.tupleExact _) (wpAny_newObj_type (MU ⟨_,rfl,MU h⟩) htake))
end
end HT
namespace L2
noncomputable abbrev TO:=St->Hp->(Option Int->Hp->Prop)->Prop
def PO (X:Cx)(e:Option Expr)(t:TO):Prop :=
 ∀(pins:List (Addr × Obj)) (s:Shared) (σ:St) (H:Hp) (Q:Option Int->Hp->Prop),Inv X pins σ H s->t σ H Q ->
  wpAny (model X.prog X.w) X.A (evalPart e X.env) (fun u s'=>∃o H',Inv X pins σ H' s'/\IsPart u o/\Q o H') X.xe s
noncomputable def Df:TO:=fun _ H Q=>Q none H
noncomputable def Lb (t:TE):TO:=fun σ H Q=>t σ H fun x H1=>∃i,x=.int i/\Q (some i) H1
section
variable {X:Cx}{e:Expr}{te:TE}{lo hi:Option Expr}{tl th:TO}{pos p2:Pos}
theorem D_:PO X none Df:=by intro pins s σ H Q I h;rw[evalPart_none];exact MU ⟨none,H,I,.none,h⟩
theorem D2 (h:PE X e te):PO X (some e) (Lb te):=by intro pins s σ H Q I hw;rw[evalPart_some];refine thn (h pins s σ H _ I hw) fun u s1 ⟨x,H1,I1,r1,q1⟩=>?_;obtain⟨i,rfl,q⟩:=q1;obtain⟨t,rfl⟩:=r1;exact⟨some i,H1,I1,.int i t,q⟩
def SlR (X:Cx)(r:V->Option Int->Option Int->Hp->VK->Prop):Prop :=
 ∀(pins:List (Addr × Obj)) (s:Shared) (σ:St) (H:Hp) (x:V) (v vl vu:Value) (lo hi:Option Int) (sl:Addr) (Q:VK),Inv X pins σ H s->RelV x v->s.heap.IsSliceOf sl vl vu .none->IsPart vl lo->IsPart vu hi->r x lo hi H Q ->
  ∃T id,typeLookup (.type T) "__getitem__"=pure (some (.builtin id))/\s.TypeIs v T/\wpAny (model X.prog X.w) X.A (getItem v (.ref sl)) (EP X pins σ Q) X.xe s
noncomputable def tSl (r:V->Option Int->Option Int->Hp->VK->Prop)(te:TE)(tl th:TO):TE:=fun σ H Q=>te σ H fun x H1=>tl σ H1 fun l H2=>th σ H2 fun u H3=>r x l u H3 Q
theorem B2 (hr:SlR X r)(he:PE X e te)(hl:PO X lo tl)(hu:PO X hi th):PE X (.Subscript e (.Slice lo hi none p2) pos) (tSl r te tl th):=by intro pins s σ H Q I h;refine Subscript_ (thn (he pins s σ H _ I h) fun v s1 ⟨x,H1,I1,r1,q1⟩=>?_);refine wpAny_Slice (thn (hl pins s1 σ H1 _ I1 q1) fun vl s2 ⟨l,H2,I2,pl,q2⟩=>thn (hu pins s2 σ H2 _ I2 q2) fun vu s3 ⟨u,H3,I3,pu,q3⟩=>?_);rw[evalPart_none];refine MU ?_;have I4:Inv X pins σ H3 { s3 with heap:=s3.heap.push { cls:=.type "slice",data:=.fields #[vl,vu,.none] } }:=I3.kept (t':=s3.toks) fun b ob q=>MD _ q;obtain ⟨T,id,hT,ht,hg⟩:=hr pins { s3 with heap:=s3.heap.push { cls:=.type "slice",data:=.fields #[vl,vu,.none] } } σ H3 x v vl vu l u s3.heap.objs.size Q I4 r1 (Heap.IsSliceOf.new ..) pl pu q3;show wpAny (model X.prog X.w) X.A (subscriptTail e (.Slice lo hi none p2) v (.ref s3.heap.objs.size)) (EP X pins σ Q) X.xe { s3 with heap:=s3.heap.push { cls:=.type "slice",data:=.fields #[vl,vu,.none] } };exact tail_any (ops:=[.ref s3.heap.objs.size,v]) ht hT hg (by with_unfolding_all rfl)
noncomputable def mY (xs:List V)(lo hi:Option Int):List V:=(xs.drop (HT.sIx xs.length 0 lo)).take (HT.sIx xs.length xs.length hi-HT.sIx xs.length 0 lo)
theorem kj (xs:List V)(lo hi:Option Int):(mY xs lo hi).length<=xs.length:=by unfold mY;rw[N5,List.length_drop];omega
noncomputable def LM (K:W.Frag):V->Option Int->Option Int->Hp->VK->Prop:=fun x lo hi H Q=>∃a xs,x=.ref a/\SqT K H a xs /\
 ¬(HT.sIx xs.length 0 lo=0/\HT.sIx xs.length xs.length hi=xs.length)/\∀p,H p=none->Q (.ref p) (upd H p (.tup (mY xs lo hi)))
theorem Ic:SlR X (LM X.K):=by
 intro pins s σ H x v vl vu lo hi sl Q I rx hs pl pu h;obtain⟨a,xs,rfl,hx,hw,q⟩:=h;cases rx;obtain⟨its,r,ht,hz⟩:=I.tuple hx;have hlen:its.toArray.size=xs.length:=by rw[M5];exact r.length.symm
 refine ⟨"tuple",_,PyProof.Rows.slot_tuple_getitem.lookup,ht.typeIs,?_⟩;refine HT.getItem_tuple_cut ht hs pl pu (by rw[hlen];exact hw) ?_ (by rw[hlen];exact hz);rw[hlen];refine⟨.ref s.heap.objs.size,_,I.laid (t':=s.toks) (o:=.tup (mY xs lo hi)) (fun b ob q=>MD _ q) (MJ _) ?_,rfl,q _ (I.hok.fresh (MJ _))⟩;exact⟨MY (kj xs lo hi) hz,_,(r.drop (HT.sIx xs.length 0 lo)).take (HT.sIx xs.length xs.length hi-HT.sIx xs.length 0 lo),IsTup.new _ _⟩
end
end L2
namespace L2
noncomputable def ixN (n:Nat)(i:Int):Option Nat:=if 0<=i then (if i<n then some i.toNat else none) else if -(n:Int)<=i then some (i+n).toNat else none
noncomputable def atI {α:Type}(xs:List α)(i:Int):Option α:=(ixN xs.length i).bind fun j=>xs[j]?
theorem xy (h:ixN n i=some j):seqIndex? i n=some j/\j<n/\-(n:Int)<=i/\i<n:=by
 unfold ixN at h;by_cases h0:0<=i
 ·rw[MN h0] at h;by_cases h1:i<n
  ·rw[MN h1] at h;have e:i.toNat=j:=NL h;exact⟨by rw[seqIndex_of h0 h1,e],by omega,by omega,h1⟩
  ·rw[ML h1] at h;cases h
 ·rw[ML h0] at h;by_cases h1:-(n:Int)<=i
  ·rw[MN h1] at h;have e:(i+n).toNat=j:=NL h;exact⟨by rw[seqIndex_neg (by omega) h1,e],by omega,h1,by omega⟩
  ·rw[ML h1] at h;cases h
theorem rB {α:Type}{xs:List α}{v:α}(h:atI xs i=some v):∃j,seqIndex? i xs.length=some j/\xs[j]?=some v/\j<xs.length/\-(xs.length:Int)<=i/\i<xs.length:=by
 unfold atI at h;cases e:ixN xs.length i with
 | none=>rw[e] at h;cases h
 | some j =>rw[e] at h;obtain⟨h1,h2,h3,h4⟩:=xy e;exact⟨j,h1,h,h2,h3,h4⟩
theorem dF {α:Type}{xs:List α}{j:Nat}{v:α}(h:xs[j]?=some v):atI xs (j:Int)=some v:=by
 have hj:j<xs.length:=(MC.mp h).1;have e:ixN xs.length (j:Int)=some j:=by unfold ixN;rw[MN (by omega),MN (by omega)];simp
 unfold atI;rw[e];exact h
def xg (b:Expr):Prop:=∀o i,subscripted b false o i=operate [o,i] (getItem o i)
def IxR (X:Cx)(r:R2):Prop :=
 ∀(value slice:Expr) (pins:List (Addr × Obj)) (s:Shared) (σ:St) (H:Hp) (x y:V) (v u:Value) (Q:VK),Inv X pins σ H s->RelV x v->RelV y u->r x y H Q ->
  subscripted slice false v u=operate [v,u] (getItem v u)->wpAny (model X.prog X.w) X.A (subscriptTail value slice v u) (EP X pins σ Q) X.xe s
def MtR (X:Cx)(id:String)(r:V->List V->Hp->VK->Prop):Prop :=
 ∀(pins:List (Addr × Obj)) (s:Shared) (σ:St) (H:Hp) (x:V) (xs:List V) (v:Value) (us:List Value) (Q:VK),Inv X pins σ H s->RelV x v->Vals xs us->r x xs H Q ->
  wpAny (model X.prog X.w) X.A (call (.builtin id) (v::us)) (EP X pins σ Q) X.xe s
section
variable {X:Cx}{a b:Expr}{ta tb:TE}{pos:Pos}
theorem J' (hr:IxR X r)(ha:PE X a ta)(hb:PE X b tb)(hs:xg b):PE X (.Subscript a b pos) (tOp r ta tb):=by intro pins s σ H Q I h;exact Subscript_ (Hg ha hb I h fun v u s2 x y H2 I2 rx ry q=>hr a b pins s2 σ H2 x y v u Q I2 rx ry q (hs _ _))
noncomputable def L9 (K:W.Frag):R2:=fun x y H Q=>∃p xs i v,x=.ref p/\y=.int i/\SqL K H p xs/\atI xs i=some v/\Q v H
noncomputable def LL (K:W.Frag):R2:=fun x y H Q=>∃p xs i v,x=.ref p/\y=.int i/\SqT K H p xs/\atI xs i=some v/\Q v H
noncomputable def Ll:R2:=fun x y H Q=>∃z i c,x=.str z/\y=.int i/\z.length<=sizeLine/\atI z.cps.toList i=some c/\Q (.str ⟨#[c]⟩) H
theorem Ed:IxR X (L9 X.K):=by
 intro value slice pins s σ H x y v u Q I rx ry h hs;obtain⟨p,xs,i,z,rfl,rfl,hq,he,q⟩:=h;cases rx;obtain⟨t,rfl⟩:=ry;obtain⟨its,r,pl,hz⟩:=I.list hq;obtain⟨j,h1,h2,h3,h4,h5⟩:=rB he;obtain⟨w,ew,rw'⟩:=r.get h2;have hl:=r.length;have hn:=iF;have fin:EP X pins σ Q w s:=⟨z,H,I,rw',q⟩;by_cases h0:0<=i
 ·have hj:i.toNat=j:=by rw[seqIndex_of h0 h5] at h1;exact NL h1
  exact item_listR pl.isList h0 (by omega) (by rw[hj];simpa using ew) fin hs
 ·have hj:(i+(its.toArray.size:Int)).toNat=j:=by rw[seqIndex_neg (by omega) h4] at h1;rw[M5,<-hl];exact NL h1
  exact subscriptTail_builtinR (x:=w) pl.isList.typeIs slot_list_getitem.lookup
   (wpAny_getItem_list_neg (Q:=fun r s'=>r=w/\EP X pins σ Q r s') pl.isList (by omega) (by rw[M5] <;> omega) (by omega) (by rw[hj];simpa using ew) ⟨rfl,fin⟩) hs
theorem Iv:IxR X (LL X.K):=by
 intro value slice pins s σ H x y v u Q I rx ry h hs;obtain⟨p,xs,i,z,rfl,rfl,hq,he,q⟩:=h;cases rx;obtain⟨t,rfl⟩:=ry;obtain⟨its,r,pl,hz⟩:=I.tuple hq;obtain⟨j,h1,h2,h3,h4,h5⟩:=rB he;obtain⟨w,ew,rw'⟩:=r.get h2;have hl:=r.length;have hn:=iF;have fin:EP X pins σ Q w s:=⟨z,H,I,rw',q⟩;exact subscriptTail_builtinR (x:=w) pl.typeIs slot_tuple_getitem.lookup
  (getItem_tuple (j:=j) (Q:=fun r s'=>r=w/\EP X pins σ Q r s') pl (by omega) (by omega) (by rw[M5,<-hl];exact h1) (by simpa using ew) ⟨rfl,fin⟩) hs
theorem HM:IxR X Ll:=by
 intro value slice pins s σ H x y v u Q I rx ry h hs;obtain⟨z,i,c,rfl,rfl,hz,he,q⟩:=h;obtain⟨t,rfl⟩:=rx;obtain⟨t',rfl⟩:=ry;obtain⟨j,h1,h2,h3,h4,h5⟩:=rB he;have hl:z.cps.toList.length=z.length:=by simp[Str.length]
 rw[hl] at h1 h4 h5;have hn:=iF;exact tail_any (typeIs_str s z t) slot_str_getitem.lookup (getItem_str (c:=c) (by have e1:decide (i < -(2 ^ 63:Int))=false:=NI (by omega);have e2:decide (i >= 2 ^ 63)=false:=NI (by omega);rw[e1,e2,Bool.or_false]) (by rw[h1];simpa using h2) ⟨.str ⟨#[c]⟩,H,I.tok _,⟨_,rfl⟩,q⟩) hs
theorem ue (its:List Value)(n j:Nat)(u:Value):Obj.mapSeq (·.setIfInBounds j u) { cls:=.type "list",data:=.seq its.toArray n }={ cls:=.type "list",data:=.seq (its.set j u).toArray n }:=by simp[Obj.mapSeq]
theorem Inv.lst {σ:St}(I:Inv X pins σ H s)(h:H p=some (.lst xs)) :
  ∃(its:List Value) (n:Nat),Vals xs its/\s.heap.get? p=some { cls:=.type "list",data:=.seq its.toArray n }/\xs.length<=sizeLine:=by
 obtain⟨z,its,n,r,e⟩:=I.hok p _ h;exact⟨its,n,r,e,z⟩
theorem Inv.lstUpd {σ:St}{its its':List Value}{f:Obj->Obj}(I:Inv X pins σ H s)(h:H p=some (.lst xs))(ho:s.heap.get? p=some { cls:=.type "list",data:=.seq its.toArray n })(hf:f { cls:=.type "list",data:=.seq its.toArray n }={ cls:=.type "list",data:=.seq its'.toArray n' })(r:Vals ys its')(hz:ys.length<=sizeLine)(t:Nat) :
  Inv X pins σ (upd H p (.lst ys)) { s with heap:=s.heap.update p f,toks:=t }:=by
 have e:(s.heap.update p f).get? p=some { cls:=.type "list",data:=.seq its'.toArray n' }:=by rw[OB f ho (by rw[hf] <;> rfl),hf]
 refine I.write (x:=p) (e:=p) (by rw[h];trivial) (.inl rfl) (fun b u hb q=>(NH _ _ (Ne.symm hb)).trans q) ⟨_,e⟩ ?_;exact⟨hz,its',n',r,e⟩
noncomputable def JW:V->V->V->Hp->(Hp->Prop)->Prop:=fun o i v H Q=>∃p xs k j,o=.ref p/\i=.int k/\H p=some (.lst xs)/\ixN xs.length k=some j/\Q (upd H p (.lst (xs.set j v)))
theorem zA:GU X JW:=by
 intro pins s σ H o i v ov iv u Q I ro ri rv h;obtain⟨p,xs,k,j,rfl,rfl,hp,hj,q⟩:=h;cases ro;obtain⟨t,rfl⟩:=ri;obtain⟨its,n,r,ho,hz⟩:=I.lst hp;obtain⟨h1,h2,h3,h4⟩:=xy hj;have hl:=r.length;have hn:=iF;have I':Inv X pins σ (upd H p (.lst (xs.set j v))) { s with heap:=s.heap.update p (Obj.mapSeq (·.setIfInBounds j u)) } :=
  I.lstUpd hp ho (ue its n j u) (r.set rv j) (by rw[OF];exact hz) s.toks
 by_cases h0:0<=k
 ·have hk:k.toNat=j:=by rw[seqIndex_of h0 h4] at h1;exact NL h1
  exact W.ki_setAt ho h0 (by omega) (by rw[M5,<-hl];exact h4) (by rw[hk];exact⟨_,I',q⟩)
 ·have hk:(k+(its.toArray.size:Int)).toNat=j:=by rw[seqIndex_neg (by omega) h3] at h1;rw[M5,<-hl];exact NL h1
  exact W.ki_setBack ho (by omega) (by rw[M5,<-hl];exact h3) (by omega) (by rw[hk];exact⟨_,I',q⟩)
theorem qe (lo hi:Option Int)(n:Nat):(sliceBounds lo hi none n).1=((HT.sIx n 0 lo:Nat):Int)/\(sliceBounds lo hi none n).2.1=((HT.sIx n n hi:Nat):Int)/\(sliceBounds lo hi none n).2.2=1:=by
 refine⟨?_,?_,rfl⟩
 ·cases lo with
  | none=>simp[sliceBounds,HT.sIx]
  | some i =>
   simp only[sliceBounds,HT.sIx,Option.getD_none,show (1:Int) > 0 by decide,if_true];by_cases h:i<0
   ·simp only[h,if_true] <;> omega
   ·simp only[h,if_false] <;> omega
 ·cases hi with
  | none=>simp[sliceBounds,HT.sIx]
  | some i =>
   simp only[sliceBounds,HT.sIx,Option.getD_none,show (1:Int) > 0 by decide,if_true];by_cases h:i<0
   ·simp only[h,if_true] <;> omega
   ·simp only[h,if_false] <;> omega
theorem nL (its:List Value)(lo hi:Option Int):slicePick its.toArray lo hi none=((its.drop (HT.sIx its.length 0 lo)).take (HT.sIx its.length its.length hi-HT.sIx its.length 0 lo)).toArray:=by obtain⟨h1,h2,h3⟩:=qe lo hi its.toArray.size;unfold slicePick;rw[h1,h2,h3];simp only[sliceRange_one,pick_run,List.size_toArray] <;> rfl
noncomputable def LZ (K:W.Frag):V->Option Int->Option Int->Hp->VK->Prop:=fun x lo hi H Q=>∃a xs,x=.ref a/\SqL K H a xs/\∀p,H p=none->Q (.ref p) (upd H p (.lst (mY xs lo hi)))
theorem Dl:SlR X (LZ X.K):=by intro pins s σ H x v vl vu lo hi sl Q I rx hs pl pu h;obtain⟨a,xs,rfl,hx,q⟩:=h;cases rx;obtain⟨its,r,ht,hz⟩:=I.list hx;have hlen:=r.length;refine ⟨"list",_,slot_list_getitem.lookup,ht.isList.typeIs,?_⟩;refine wpAny_getItem_list_slice ht.isList hs pl pu .none (by simp) ?_ (by rw[M5] <;> omega);rw[nL,<-hlen];refine⟨.ref s.heap.objs.size,_,I.laid (t':=s.toks) (o:=.lst (mY xs lo hi)) (fun b ob q=>MD _ q) (MJ _) ?_,rfl,q _ (I.hok.fresh (MJ _))⟩;exact⟨MY (kj xs lo hi) hz,_,0,(r.drop (HT.sIx xs.length 0 lo)).take (HT.sIx xs.length xs.length hi-HT.sIx xs.length 0 lo),MZ _ rfl⟩
noncomputable def ju:V->Bool
 | .non=>true
 | .bl _=>true
 | .int _=>true
 | .str _=>true
 | _=>false
noncomputable def eqV:V->V->Bool
 | .non,.non=>true
 | .bl a,.bl b=>a == b
 | .bl a,.int b=>(if a then 1 else 0) == b
 | .int a,.bl b=>a == (if b then 1 else 0)
 | .int a,.int b=>a == b
 | .str a,.str b=>a == b
 | _,_=>false
theorem IJ (ry:RelV y u)(rx:RelV x v)(fy:ju y=true)(fx:ju x=true):SeqAt.EqAt A s u v (eqV y x):=by
 cases y with
 | non =>
  cases ry;cases x with
  | non=>cases rx;exact SeqAt.EqAt.same _
  | bl b=>cases rx;exact SeqAt.EqAt.none_bool b
  | int b=>obtain⟨t,rfl⟩:=rx;exact SeqAt.EqAt.none_int b t
  | str b=>obtain⟨t,rfl⟩:=rx;exact SeqAt.EqAt.none_str b t
  | _=>exact absurd (show false=true from fx) MA
 | bl a =>
  cases ry;cases x with
  | non=>cases rx;exact SeqAt.EqAt.bool_none a
  | bl b=>cases rx;exact SeqAt.EqAt.bool_bool a b
  | int b=>obtain⟨t,rfl⟩:=rx;exact SeqAt.EqAt.bool_int a b t
  | str b=>obtain⟨t,rfl⟩:=rx;exact SeqAt.EqAt.bool_str a b t
  | _=>exact absurd (show false=true from fx) MA
 | int a =>
  obtain⟨t',rfl⟩:=ry;cases x with
  | non=>cases rx;exact SeqAt.EqAt.int_none a t'
  | bl b=>cases rx;exact SeqAt.EqAt.int_bool a t' b
  | int b=>obtain⟨t,rfl⟩:=rx;exact SeqAt.EqAt.int_int a t' b t
  | str b=>obtain⟨t,rfl⟩:=rx;exact SeqAt.EqAt.int_str a t' b t
  | _=>exact absurd (show false=true from fx) MA
 | str a =>
  obtain⟨t',rfl⟩:=ry;cases x with
  | non=>cases rx;exact SeqAt.EqAt.str_none a t'
  | bl b=>cases rx;exact SeqAt.EqAt.str_bool a t' b
  | int b=>obtain⟨t,rfl⟩:=rx;exact SeqAt.EqAt.str_int a t' b t
  | str b=>obtain⟨t,rfl⟩:=rx;exact SeqAt.EqAt.str_str a t' b t
  | _=>exact absurd (show false=true from fx) MA
 | _=>exact absurd (show false=true from fy) MA
noncomputable def eqU (x:V)(u:Value):Bool:=match u with
 | .none=>eqV .non x
 | .bool b=>eqV (.bl b) x
 | .int i _=>eqV (.int i) x
 | .str z _=>eqV (.str z) x
 | _=>false
theorem Bk (r:RelV y u)(f:ju y=true):eqU x u=eqV y x:=by
 cases y with
 | non=>cases r;rfl
 | bl b=>cases r;rfl
 | int i=>obtain⟨t,rfl⟩:=r;rfl
 | str z=>obtain⟨t,rfl⟩:=r;rfl
 | _=>exact absurd (show false=true from f) MA
theorem jh:∀ {xs:List V}{us:List Value},Vals xs us->xs.all ju=true->us.any (eqU x)=xs.any fun y=>eqV y x
 | _,_,.nil,_=>rfl
 | y::xs,u::us,.cons r t,f=>by rw[OL,MG] at f;rw[N2,N2,Bk r f.1,jh t f.2]
theorem gE (rx:RelV x v)(fx:ju x=true):∀ {xs:List V}{us:List Value},Vals xs us->xs.all ju=true->∀u∈us,SeqAt.EqAt A s u v (eqU x u)
 | _,_,.nil,_=>fun u hu=>by cases hu
 | y::xs,u::us,.cons r t,f=>fun u' hu=>by
  rw[OL,MG] at f;rcases NB.mp hu with rfl|hu
  ·rw[Bk r f.1];exact IJ r rx f.1 fx
  ·exact gE rx fx t f.2 u' hu
noncomputable def inV (x:V)(xs:List V):Bool:=xs.any fun y=>eqV y x
noncomputable def rIn (K:W.Frag)(neg:Bool):R2:=fun x y H Q=>∃p xs,y=.ref p/\(SqL K H p xs\/SqT K H p xs)/\ju x=true/\xs.all ju=true/\Q (.bl (if neg then !inV x xs else inV x xs)) H
theorem o7:OpR X (compareOp .In) (rIn X.K false):=by
 intro pins s σ H x y v u Q I rx ry h;obtain⟨p,xs,rfl,hq,fx,fs,q⟩:=h;cases ry;rcases hq with hq|hq
 ·obtain⟨its,r,pl,hz⟩:=I.list hq;refine SeqAt.in_listAt (eqU x) pl.isList (fun w hw=>gE rx fx r fs w (by simpa using hw)) ⟨.bl _,H,I,rfl,?_⟩;rw[show its.toArray.any (eqU x)=its.any (eqU x) by simp,jh r fs];exact q
 ·obtain⟨its,r,pl,hz⟩:=I.tuple hq;refine SeqAt.in_tupleAt (eqU x) pl (fun w hw=>gE rx fx r fs w (by simpa using hw)) ⟨.bl _,H,I,rfl,?_⟩;rw[show its.toArray.any (eqU x)=its.any (eqU x) by simp,jh r fs];exact q
theorem ja:OpR X (compareOp .NotIn) (rIn X.K true):=by
 intro pins s σ H x y v u Q I rx ry h;obtain⟨p,xs,rfl,hq,fx,fs,q⟩:=h;cases ry;rcases hq with hq|hq
 ·obtain⟨its,r,pl,hz⟩:=I.list hq;refine SeqAt.notIn_listAt (eqU x) pl.isList (fun w hw=>gE rx fx r fs w (by simpa using hw)) ⟨.bl _,H,I,rfl,?_⟩;rw[show its.toArray.any (eqU x)=its.any (eqU x) by simp,jh r fs];exact q
 ·obtain⟨its,r,pl,hz⟩:=I.tuple hq;refine SeqAt.notIn_tupleAt (eqU x) pl (fun w hw=>gE rx fx r fs w (by simpa using hw)) ⟨.bl _,H,I,rfl,?_⟩;rw[show its.toArray.any (eqU x)=its.any (eqU x) by simp,jh r fs];exact q
theorem pX:gi X (.builtin "len") (fun xs H Q=>∃p ys,xs=[.ref p]/\(SqL X.K H p ys\/SqT X.K H p ys)/\Q (.int ys.length) H):=by
 intro pins s σ H xs us Q I r h;obtain⟨p,ys,rfl,hq,q⟩:=h;obtain⟨u,rfl,rx⟩:=o6 r;cases rx;have hn:=iF;rcases hq with hq|hq
 ·obtain⟨its,r',pl,hz⟩:=I.list hq;have hlen:=r'.length;exact Calls.call_len_list pl.isList (by simp only[List.size_toArray] <;> omega) ⟨.int ys.length,H,I.tok _,⟨s.toks+1,by rw[M5,hlen]⟩,q⟩
 ·obtain⟨its,r',pl,hz⟩:=I.tuple hq;have hlen:=r'.length;exact len_tuple pl (by simp only[List.size_toArray] <;> omega) ⟨.int ys.length,H,I.tok _,⟨s.toks+1,by rw[M5,hlen]⟩,q⟩
theorem qL:gi X (.builtin "len") (fun xs H Q=>∃z,xs=[.str z]/\z.length<=sizeLine/\Q (.int z.length) H):=by intro pins s σ H xs us Q I r h;obtain⟨z,rfl,hz,q⟩:=h;obtain⟨u,rfl,t,rfl⟩:=o6 r;have hn:=iF;exact len_str (by omega) ⟨.int z.length,H,I.tok _,⟨_,rfl⟩,q⟩
theorem nN:gi X (.type "tuple") (fun xs H Q=>∃p ys,xs=[.ref p]/\((SqL X.K H p ys/\∀l,H l=none->Q (.ref l) (upd H l (.tup ys)))\/(SqT X.K H p ys/\Q (.ref p) H))):=by
 intro pins s σ H xs us Q I r h;obtain⟨p,ys,rfl,h⟩:=h;obtain⟨u,rfl,rx⟩:=o6 r;cases rx;rcases h with⟨hq,q⟩|⟨hq,q⟩
 ·obtain⟨its,r',pl,hz⟩:=I.list hq;have hlen:=r'.length;refine call_tuple_list pl.isList (fun h' kp=>?_) (by simp only[List.size_toArray] <;> omega);have I1:Inv X pins σ H { s with heap:=h' }:=I.kept (t':=s.toks) kp;have I2:Inv X pins σ (upd H h'.objs.size (.tup ys)) { s with heap:=h'.push { cls:=.type "tuple",data:=.seq its.toArray } } :=
   I1.laid (t':=s.toks) (fun b o e=>MD _ e) (MJ _) (show ObjOk X.prog X.w _ _ _ (.tup ys) from ⟨hz,its,r',IsTup.new _ _⟩)
  exact⟨.ref h'.objs.size,_,I2,rfl,q _ (I1.hok.fresh (MJ _))⟩
 ·obtain⟨its,r',pl,hz⟩:=I.tuple hq;exact call_tuple_same pl ⟨.ref p,H,I,rfl,q⟩
def tyV (K:W.Frag)(T:String)(x:V)(H:Hp):Prop:=match x with
 | .str _=>T="str"
 | .int _=>T="int"
 | .ref p=>(T="list"/\∃xs,SqL K H p xs)\/(T="tuple"/\∃o,K.lookup p=some o/\o.cls=.type "tuple"/\o.dict=none) \/
   (T="dict"/\((∃kvs,H p=some (.dK kvs))\/∃kvs,H p=some (.dT kvs)))\/(T="set"/\∃S n,H p=some (.set S n))
 | _=>False
theorem Bc {σ:St}(I:Inv X pins σ H s)(r:RelV x v)(ty:tyV X.K T x H) :
  s.TypeIs v T/\∀a,v=.ref a->∃ob,s.heap.get? a=some ob/\ob.dict=none:=by
 cases x with
 | str z =>obtain⟨t,rfl⟩:=r;cases (show T="str" from ty);exact⟨typeIs_str s z t,fun _ e=>nomatch e⟩
 | int i =>obtain⟨t,rfl⟩:=r;cases (show T="int" from ty);exact⟨typeIs_int s i t,fun _ e=>nomatch e⟩
 | ref p =>
  cases r;rcases ty with⟨rfl,xs,hq⟩|⟨rfl,o,hk,hc,hd⟩|⟨rfl,hk⟩|⟨rfl,S,n,hk⟩
  ·obtain⟨its,_,pl,_⟩:=I.list hq;refine⟨pl.isList.typeIs,fun a e=>?_⟩;cases e;obtain⟨o,n,e,c,hd,_⟩:=pl;exact⟨o,e,hd⟩
  ·refine⟨⟨o,I.kIn p o hk,hc⟩,fun a e=>?_⟩;cases e;exact⟨o,I.kIn _ o hk,hd⟩
  ·have z:∃o,s.heap.get? p=some o/\o.ExactDict:=by
    rcases hk with⟨kvs,hk⟩|⟨kvs,hk⟩
    ·obtain⟨_,_,_,_,o,_,_,e,ex,_⟩:=I.hok p _ hk;exact⟨o,e,ex⟩
    ·obtain⟨_,_,_,_,o,_,_,e,ex,_⟩:=I.hok p _ hk;exact⟨o,e,ex⟩
   obtain⟨o,e,ex⟩:=z;refine⟨⟨o,e,ex.1⟩,fun a e2=>?_⟩;cases e2;exact⟨o,e,ex.2.1⟩
  ·obtain⟨o,_,_,_,e,ex,_⟩:=I.hok p _ hk;refine⟨⟨o,e,ex.1⟩,fun a e2=>?_⟩;cases e2;exact⟨o,e,ex.2.1⟩
 | _=>exact False.elim ty
noncomputable def Ma (K:W.Frag)(T:String)(r:V->List V->Hp->VK->Prop)(to:TE):TE:=fun σ H Q=>to σ H fun x H1=>tyV K T x H1/\r x [] H1 Q
noncomputable def tBM (K:W.Frag)(T:String)(r:V->List V->Hp->VK->Prop)(to:TE)(t:TA):TE:=fun σ H Q=>to σ H fun x H1=>tyV K T x H1/\t σ H1 fun xs H2=>r x xs H2 Q
variable {o e:Expr}{es:List Expr}{to:TE}{t:TA}{name:Str}{apos cpos:Pos}{T id:String}{r:V->List V->Hp->VK->Prop}
theorem u6 (pa:PlainAttrs T)(slot:Slot T name id)(hty:typeOf (.builtin id)=pure (.type "method_descriptor"))(hm:MtR X id r)(ho:PE X o to)
  (hbase:attributeBase o name X.env (eval o X.env)=eval o X.env:=by rfl) (hline:(apos.endLine == cpos.line)=true:=by rfl):PE X (.Call (.Attribute o name apos) [] [] cpos) (Ma X.K T r to):=by
 intro pins s σ H Q I h;refine wpAny_Call_method0_late hbase hline (thn (ho pins s σ H _ I h) fun v s1 ⟨x,H1,I1,r1,ty,q1⟩=>?_);obtain⟨h1,h2⟩:=Bc I1 r1 ty;exact⟨T,id,pa,slot,hty,h1,h2,Calls.callWith_builtin rfl (PySem.evalArgs_none (hm pins s1 σ H1 x [] v [] Q I1 r1 .nil q1))⟩
theorem F0 (pa:PlainAttrs T)(slot:Slot T name id)(hty:typeOf (.builtin id)=pure (.type "method_descriptor"))(hm:MtR X id r)(ho:PE X o to)(ha:PA X (e::es) t)
  (hbase:attributeBase o name X.env (eval o X.env)=eval o X.env:=by rfl)
  (hfew:((backTo cpos (starEach (e::es) X.env)).all (fun x=>!x.1) && (backToKw cpos (keywordEach [] X.env)).all (fun x=>x.1.isSome)
   && decide ((e::es).length+([]:List Keyword).length+(if ([]:List Keyword).isEmpty then 0 else 1)<30))=true:=by rfl)
  (hline:(apos.endLine == cpos.line)=true:=by rfl) (hs:starEach (e::es) X.env=(false,eval e X.env)::starEach es X.env:=by rfl) (hplain:(backTo cpos (starEach es X.env)).any (·.1)=false:=by rfl) :
  PE X (.Call (.Attribute o name apos) (e::es) [] cpos) (tBM X.K T r to t):=by
 intro pins s σ H Q I h;refine wpAny_Call_method_late hbase hfew hline rfl (thn (ho pins s σ H _ I h) fun v s1 ⟨x,H1,I1,r1,ty,q1⟩=>?_);obtain⟨h1,h2⟩:=Bc I1 r1 ty;refine⟨T,id,pa,slot,hty,h1,h2,?_⟩;have hA:=ha cpos pins s1 σ H1 _ I1 q1;rw[hs] at hA |-
 refine Calls.callWith_builtin (by show (false || (backTo cpos (starEach es X.env)).any (·.1))=false;rw[hplain] <;> rfl) (Calls.evalArgs_plain ?_);exact thn hA fun us s2 ⟨vs,H2,I2,r2,q2⟩=>hm pins s2 σ H2 x vs v us Q I2 r1 r2 q2
end
end L2
namespace L2
def MtM (X:Cx)(id:String)(r:V->List V->Hp->VK->Prop):Prop :=
 ∀(pins:List (Addr × Obj)) (s:Shared) (σ:St) (H:Hp) (x:V) (xs:List V) (v:Value) (us:List Value) (Q:VK),Inv X pins σ H s->RelV x v->Vals xs us->r x xs H Q ->
  wpAny (model X.prog X.w) X.A (call (.builtin id) (v::us)) (EP X pins σ Q) X.xe s
theorem Vals.one:∀ {x:V}{us:List Value},Vals [x] us->∃u,us=[u]/\RelV x u
 | _,_,.cons r .nil=>⟨_,rfl,r⟩
section
variable {X:Cx}{pins:List (Addr × Obj)}{σ:St}{H:Hp}{s:Shared}{l b:Addr}{xs ys zs:List V}
theorem Inv.lset {its its':List Value}{f:Array Value->Array Value}{t':Nat}(I:Inv X pins σ H s)(hH:H l=some (.lst xs))(e:s.heap.get? l=some { cls:=.type "list",data:=.seq its.toArray n })(hf:f its.toArray=its'.toArray)(hv:Vals ys its')(hz:ys.length<=sizeLine) :
  Inv X pins σ (upd H l (.lst ys)) { s with heap:=s.heap.update l (Obj.mapSeq f),toks:=t' }:=by
 have q:=PySem.IsL.update e f;rw[hf] at q;refine I.write (x:=l) (e:=l) (by rw[hH];exact trivial) (.inl rfl) (fun b' u hb hu=>(NH s.heap (Obj.mapSeq f) (Ne.symm hb)).trans hu) ⟨_,q⟩ ?_;exact⟨hz,its',_,hv,q⟩
theorem Inv.lnew {t':Nat}(I:Inv X pins σ H s)(hv:Vals ys its)(hz:ys.length<=sizeLine) :
  Inv X pins σ (upd H s.heap.objs.size (.lst ys)) { s with heap:=s.heap.push { cls:=.type "list",data:=.seq its.toArray },toks:=t' } :=
 I.laid (fun _ _ q=>MD _ q) (MJ _) ⟨hz,its,0,hv,MZ _ rfl⟩
theorem Inv.fresh (I:Inv X pins σ H s):H s.heap.objs.size=none:=I.hok.fresh (MJ _)
theorem Inv.lstM (I:Inv X pins σ H s)(hH:H l=some (.lst xs)):xs.length<=sizeLine/\∃(its:List Value) (n:Nat),Vals xs its/\xs.length=its.length/\s.heap.get? l=some { cls:=.type "list",data:=.seq its.toArray n }:=by obtain⟨z,its,n,r,e⟩:=I.hok l _ hH;exact⟨z,its,n,r,r.length,e⟩
theorem Bs {n:Nat}(h:n<=sizeLine):Builtin.List.listTooLong n=false:=by unfold Builtin.List.listTooLong;exact NI (by omega)
end
section
variable {X:Cx}
noncomputable def DN:V->List V->Hp->VK->Prop:=fun x vs H Q=>∃l xs y,x=.ref l/\vs=[y]/\H l=some (.lst xs)/\xs.length<sizeLine/\Q .non (upd H l (.lst (xs++[y])))
theorem oU:MtM X "list.append" DN:=by intro pins s σ H x vs v us Q I rx rv h;obtain⟨l,xs,y,rfl,rfl,hH,hz,q⟩:=h;cases rx;obtain⟨u,rfl,ru⟩:=rv.one;obtain⟨z,its,n,r,hl,e⟩:=I.lstM hH;refine call_meets F.slot_list_append ⟨_,e,rfl⟩ F.entry_list_append (F.args_list_append_2 _ _) (PySem.list_append l its.toArray n u (by rw[M5];omega)) ⟨e,?_⟩;refine⟨.non,_,I.lset (its':=its++[u]) hH e (by simp) (r.append (.cons ru .nil)) ?_,rfl,q⟩;rw[NU,List.length_singleton];omega
noncomputable def Lg:R2:=fun x y H Q=>∃l b xs zs,x=.ref l/\y=.ref b/\H l=some (.lst xs)/\H b=some (.lst zs)/\xs.length+zs.length<=sizeLine/\∀p,H p=none->Q (.ref p) (upd H p (.lst (xs++zs)))
theorem Ih:OpR X (binaryOp .Add) Lg:=by
 intro pins s σ H x y v u Q I rx ry h;obtain⟨l,b,xs,zs,rfl,rfl,hH,hB,hz,q⟩:=h;cases rx;cases ry;obtain⟨z,its,n,r,hl,e⟩:=I.lstM hH;obtain⟨z2,its2,n2,r2,hl2,e2⟩:=I.lstM hB;refine PySem.P.add_list e e2 ?_ (by rw[M5,M5];omega);have ea:its.toArray++its2.toArray=(its++its2).toArray:=by simp
 rw[ea];exact⟨.ref _,_,I.lnew (t':=s.toks) (r.append r2) (by rw[NU];omega),rfl,q _ I.fresh⟩
end
section
variable {prog:Program}{w:World}{A:Around}{E:Value->Shared->Prop}{s:Shared}
set_option maxRecDepth 100000 in
end
section
variable {X:Cx}
end
end L2
namespace Att
open PySem PySem.W PySem.Calls
open PyProof.Rows hiding K st lo ad
theorem la:∀(ns:List Int) (vs:List Value),WellAll P h vs (ns.map WData.int)->IntsAre vs ns:=by
 intro ns
 induction ns with
 | nil =>intro vs w;rw[NM] at w;cases w;exact .nil
 | cons n ns ih =>
  intro vs w;rw[MF] at w;cases w with
  | cons a b =>cases a;exact .cons _ _ (ih _ b)
theorem yY {l:OpenLaw}(hn:l.most=some n)(hpre:l.row.toRowW.claim.pre args=true)(hwl:WellAll P h vals args) :
  ∃a vs ns,vals=[Value.ref a]/\args=[WData.list (ns.map WData.int)]/\h.get? a=some { cls:=.type "list",data:=.seq vs.toArray }/\IntsAre vs ns/\ns.length<=n:=by
 have hsh:WShape.hasAll [] args [.list .int]=true:=(pre_splitW hpre).1;have hc:l.pre.holds [] { args:=args }=true:=(pre_splitW hpre).2;obtain⟨d,r,rfl,h1,h2⟩:=hasAllW_cons hsh;obtain rfl:=hasAllW_nil h2;obtain⟨xs,rfl,h3⟩:=hasW_list h1;obtain⟨ns,rfl⟩:=items_int h3;have hlen:ns.length<=n:=by
  unfold OpenLaw.pre at hc;have h4:(WTm.not (.lt (.lit (.int (n:Int))) (.len (.arg 0)))).holds [] { args:=[.list (ns.map .int)] }=true:=by have h4:=(holds_andW hc).1;rw[hn] at h4;exact h4
  have h5:=condW_of h4 (w_not (w_lt w_lit (w_len_list (w_arg rfl))));rw[ME] at h5;refine Nat.le_of_not_lt fun q=>?_;have q':(n:Int)<((ns.length:Nat):Int):=by omega
  first
   | (rw[NF q'] at h5;exact absurd h5 (by decide))
   | (simp at h5;omega)
 cases hwl with
 | cons w1 w2 =>
  cases w2;cases w1 with
  | list ho hall=>exact⟨_,_,ns,rfl,rfl,ho,la ns _ hall,hlen⟩
theorem yS (l:OpenLaw)(args:List WData):l.row.toRowW.claim.post args (.bool true) args=true :=
 postW_of (r:=l.row.toRowW) (X:=(true == true))
  (show WShape.has [] (.bool true) .bool=true by first|rfl|decide|simp[WShape.has,WShape.arms,WShape.armsAll])
  (show (WTm.eq .res (.lit (.bool true))).value [] { args:=args,res:=some (.bool true),after:=args }=some (.bool (true == true)) from w_eq_bool (w_res rfl) w_lit) rfl
theorem attach_call {l:OpenLaw}{YP:World->Heap->Prop}{d:DefRec}(hn:l.most=some n)(hdf:d.params.defaults=[])(call:∀(w:World) (s₀ s₁:Shared) (mg mb:Str->Option Value) (fa:Addr) (o:Obj) (pm cd doc:Value) (a:Addr) (vs:List Value) (ns:List Int),
   Ground q loose [] XP w s₀ mg mb s₁.heap->YP w s₁.heap ->
   s₁.heap.get? fa=some o->o.data=.func (docDef d.name d.params d.body d.scope pm cd doc)->s₁.heap.CodeRec cd d.name->mg d.name=some (.ref fa) ->
   s₁.heap.get? a=some { cls:=.type "list",data:=.seq vs.toArray }->IntsAre vs ns->ns.length<=n->s₁.gens=#[] ->
   codeAny (model l.prog w) callerA (.call (.ref fa) ⟨[.ref a],[]⟩) (fun r s'=>r=.ok (.ret (.bool true))/\OldK s₁.heap s'.heap/\s'.os=s₁.os/\AllBare s'.gens) s₁) :
  WalkO q loose XP YP l.row.toRowW d [] (fun f vs=>PySem.call f vs):=by
 intro w s₀ s₁ mg mb G Y fa o pm cd doc dV kV ho hd hcd hD hmg hg args vals as hpre hlay hrd hwl hlo;obtain rfl:dV=.none:=Dflts.none hD hdf;obtain rfl:kV=.none:=Dflts.noKw hD;obtain⟨a,vs,ns,rfl,rfl,hobj,hints,hlen⟩:=yY hn hpre hwl;refine enter_call (codeAny_mono (call w s₀ s₁ mg mb fa o pm cd doc a vs ns G Y ho (fd_plain hd) hcd hmg hobj hints hlen hg) fun r s' hq=>?_);obtain⟨rfl,h2,h3,h4⟩:=hq;exact⟨.inl ⟨.bool true,.bool true,[],rfl,fun _=>rfl,.bool true,yS l _,fun _=>⟨List.Pairwise.nil,fun _ hm=>(nomatch hm)⟩⟩,h2,h3,h4⟩
section
variable {prog:Program}{w:World}{A:Around}{E:Value->Shared->Prop}{s:Shared}{K:Frag}
end
end Att
namespace L2
theorem pJ:∀ {vs:List Value}{ns:List Int},IntsAre vs ns->Vals (ns.map V.int) vs
 | _,_,.nil=>.nil
 | _,_,.cons n t h=>.cons ⟨t,rfl⟩ (pJ h)
end L2
namespace L2
end L2
namespace L2
noncomputable def aY (s:Stmt):Arguments:=match s with
 | .FunctionDef _ a _ _ _ _ _ _ _ _=>a
 | _=>{ posonlyargs:=[],args:=[],vararg:=none,kwonlyargs:=[],kw_defaults:=[],kwarg:=none,defaults:=[] }
noncomputable def ah (s:Stmt):List Stmt:=match s with
 | .FunctionDef _ _ b _ _ _ _ _ _ _=>b
 | _=>[]
noncomputable def ae (s:Stmt):Scope:=match s with
 | .FunctionDef _ _ _ _ _ _ sc _ _ _=>sc
 | _=>{ kind:=.function,names:=[],isGenerator:=false,isCoroutine:=false }
noncomputable abbrev CX0:CXT:=fun _ _ _ _ _ _=>False
noncomputable abbrev E0:XK:=fun _ _ _=>False
theorem FM:rk CX0 X E0:=fun _ _ _ _ _ _ _ h=>h.elim
structure Fun (K:W.Frag)(x qual:Str)(st:Stmt)(f:Addr)(fd:FuncData):Prop where
 ex:∃(oc:Value) (od:Option Addr) (kV doc pm:Value) (an:Option Addr) (cdv ct:Value) (osl:Array (Option Value)),
  fd=W.fnOf x qual (aY st) (ah st) (ae st) .none kV doc pm an cdv ct/\K.lookup f=some ⟨oc,od,.func fd,osl⟩/\W.codeIn K cdv qual=true
 kp:W.keepIn K (.ref f)=true
section
variable {P:Program}{w:World}{K:W.Frag}{mg:Str->Option Value}{base:Heap}
theorem Fun.ok (F:Fun K x qual st f fd)(S:ak N ps (ae st))(len:∀vs H Q E,sp vs H Q E->vs.length=ps.length)(hbody:∀(cdv:Value) (A:Around) (outer:List Env) (s:Shared) (H:Hp) (vs:List V) (Q:VK) (E:XK),Room k (A.deeper (envOfC qual (ae st) s.heap.objs.size f cdv))->sp vs H Q E ->
   ∃t,PSs (dv CX0 P w K mg base N qual (ae st) f cdv A outer s H E).nox (ah st) t/\t { nx:=fun _ H'=>Q .non H',rt:=Q } (start N vs) H):kW P w K mg base CX0 (k+1) f fd ps sp:=by
 obtain⟨oc,od,kV,doc,pm,an,cdv,ct,osl,rfl,lk,hcd⟩:=F.ex;refine y9 lk hcd S len fun A outer s H vs Q E hr hsp=>?_;obtain⟨t,h,q⟩:=hbody cdv A outer s H vs Q E hr hsp;exact⟨t,h.nox,q⟩
theorem Fun.binds {ps:List Str}(F:Fun K x qual st f fd)(h:∀(kV doc pm:Value) (an:Option Addr) (cdv ct:Value) (us:List Value),us.length=ps.length->bindArgs (W.fnOf x qual (aY st) (ah st) (ae st) .none kV doc pm an cdv ct) ⟨us,[]⟩=pure (ps.zip us)):Binds K fd ps []:=by
 obtain⟨oc,od,kV,doc,pm,an,cdv,ct,osl,rfl,lk,hcd⟩:=F.ex;exact .all (h kV doc pm an cdv ct)
theorem Af {x qual:Str}{st:Stmt}{an:Option Addr}{kV doc pm cdv ct:Value}(l:K.lookup f=some ⟨oc,od,.func (W.fnOf x qual (aY st) (ah st) (ae st) .none kV doc pm an cdv ct),osl⟩)(c:W.codeIn K cdv qual=true)(k:W.keepIn K (.ref f)=true):Fun K x qual st f (W.fnOf x qual (aY st) (ah st) (ae st) .none kV doc pm an cdv ct):=⟨⟨oc,od,kV,doc,pm,an,cdv,ct,osl,rfl,l,c⟩,k⟩
end
theorem yO {n:Nat}(h:n<=1000):n<sizeLine:=M_ h (by decide)
section
variable {X:Cx}
end
def Same (H H':Hp):Prop:=∀b o,H b=some o->H' b=some o
theorem Same.seq (e:Same H H')(h:SqL K H a xs):SqL K H' a xs:=by
 rcases h with (h|⟨o,h⟩)|h
 ·exact .inl (.inl (e _ _ h))
 ·exact .inl (.inr ⟨o,e _ _ h⟩)
 ·exact .inr h
end L2
namespace HX
open L2
section
variable {X:Cx}{a b c:Expr}{ta tb tc:TE}{pos:Pos}
def CBig (j:Int):Prop:=0<j/\j.natAbs.log2<9000
def CMB (i j:Int):Prop:=i.natAbs<2 ^ 20000/\j.natAbs<2 ^ 20000\/(-(2 ^ 64)<i/\i<2 ^ 64)\/(-(2 ^ 64)<j/\j<2 ^ 64)
theorem wj {i:Int}(h:i.natAbs<2 ^ n):Builtin.Int.intBits i<=n:=by
 unfold Builtin.Int.intBits;split
 ·exact NV _
 ·rename_i hz;have h0:i.natAbs≠0:=by
   intro z;apply hz;have:i=0:=by omega
   simp[this]
  have:i.natAbs.log2<n:=(QL h0).mpr h;omega
theorem CMB.ok (h:CMB i j):IntMulOk i j:=by
 rcases h with⟨h1,h2⟩|⟨h1,h2⟩|⟨h1,h2⟩
 ·exact IntMulOk.of_le (wj h1) (wj h2) (by decide)
 ·exact .of_left (intBits_le_64 h1 h2)
 ·exact .of_right (intBits_le_64 h1 h2)
theorem CBig.of {j:Int}(h:0<j)(h2:j<2 ^ 8999):CBig j:=by
 refine⟨h,?_⟩;have h0:j.natAbs≠0:=by omega
 have:j.natAbs<2 ^ 8999:=by
  have e:((2:Int) ^ 8999)=((2 ^ 8999:Nat):Int):=by rw[QH];rfl
  rw[e] at h2;generalize (2:Nat) ^ 8999=z at h2 |-
  omega
 have:=(QL h0).mpr this;omega
theorem Dz:OpR X (binaryOp .Mult) (rI CMB fun i j=>.int (i*j)):=opI fun _ _ _ _ _ _ _ hc q=>mul_int q hc.ok
theorem Am:OpR X (binaryOp .FloorDiv) (rI (fun _ j=>CBig j) fun i j=>.int (i/j)):=opI fun i j _ _ _ _ _ hc q=>by refine floordiv_int (by have:=hc.1;omega) ?_ (.inl (PyProof.noPylong_of_log2 hc.2));rw[Int.fdiv_eq_ediv_of_nonneg _ (QQ hc.1)];exact q
theorem qf:gi X (.builtin "divmod") (fun xs H Q=>∃i j,xs=[.int i,.int j]/\CBig j/\∀p,H p=none->Q (.ref p) (upd H p (.tup [.int (i/j),.int (i % j)]))):=by intro pins s σ H xs us Q I r h;obtain⟨i,j,rfl,hc,q⟩:=h;obtain⟨u,v,rfl,⟨t,rfl⟩,⟨t',rfl⟩⟩:=xa r;refine divmod_int (by have:=hc.1;omega) ?_ (.inl (PyProof.noPylong_of_log2 hc.2));rw[Int.fdiv_eq_ediv_of_nonneg _ (QQ hc.1),Int.fmod_eq_emod_of_nonneg _ (QQ hc.1)];have hf:H s.heap.objs.size=none:=I.hok.fresh (MJ _);refine⟨.ref s.heap.objs.size,upd H s.heap.objs.size (.tup [.int (i/j),.int (i % j)]),I.laid (t':=s.toks+1+1) (fun b u e=>MD _ e) (MJ _) ?_,rfl,q _ hf⟩;exact⟨by show 2<=sizeLine;decide,[_,_],.cons ⟨_,rfl⟩ (.cons ⟨_,rfl⟩ .nil),⟨_,MZ _ rfl,rfl,_,rfl⟩⟩
theorem si (r:RelV x v)(k:Bool):(v == Value.bool k)=decide (x=.bl k):=by
 cases x with
 | non=>cases r;rfl
 | bl b=>cases r;cases b <;> cases k <;> rfl
 | int _=>obtain⟨t,rfl⟩:=r;rfl
 | str _=>obtain⟨t,rfl⟩:=r;rfl
 | byt _=>obtain⟨t,rfl⟩:=r;rfl
 | flt _=>obtain⟨t,rfl⟩:=r;rfl
 | ref _=>cases r;rfl
 | ty _=>cases r;rfl
theorem mj (r:RelV x v)(k:Bool):plainIs v (.bool k)=true:=by
 cases x with
 | non=>cases r;rfl
 | bl b=>cases r;rfl
 | int _=>obtain⟨t,rfl⟩:=r;rfl
 | str _=>obtain⟨t,rfl⟩:=r;rfl
 | byt _=>obtain⟨t,rfl⟩:=r;rfl
 | flt _=>obtain⟨t,rfl⟩:=r;rfl
 | ref _=>cases r;rfl
 | ty _=>cases r;rfl
noncomputable def Lv:R2:=fun x y H Q=>∃k,y=.bl k/\Q (.bl (decide (x=.bl k))) H
noncomputable def DL:R2:=fun x y H Q=>∃k,y=.bl k/\Q (.bl (!decide (x=.bl k))) H
theorem Iu:OpR X (compareOp .Is) Lv:=by intro pins s σ H x y v u Q I rx ry h;obtain⟨k,rfl,q⟩:=h;cases ry;exact wpAny_is_plain (mj rx k) ⟨.bl _,H,I,by rw[si rx k];rfl,q⟩
theorem xV:OpR X (compareOp .IsNot) DL:=by intro pins s σ H x y v u Q I rx ry h;obtain⟨k,rfl,q⟩:=h;cases ry;exact wpAny_isNot_plain (mj rx k) ⟨.bl _,H,I,by rw[si rx k];rfl,q⟩
end
end HX
namespace HX
open L2
theorem vO {σ:L2.St}(I:Inv X pins σ H s):sysModules<s.heap.objs.size :=
 O5 (by decide) (show mainGlobals<s.heap.objs.size from (I.mod.glob.keeps I.bk).lt)
noncomputable def II:TE:=fun _ H Q=>∀p,H p=none->Q (.ref p) (upd H p (.dK []))
theorem CB:PE X (.Dict [] [] pos) II:=fun pins s σ H Q I h=>by refine wpAny_Dict_empty ⟨.ref s.heap.objs.size,_,I.laid (a:=s.heap.objs.size) (o:=.dK []) (t':=s.toks) (fun _ _ q=>MD _ q) (MJ _) ?_,rfl,h _ (I.hok.fresh (MJ _))⟩;exact⟨NV _,beq_eq_false_iff_ne.mpr (Ne.symm (M8 (vO I))),[],.nil,Heap.DictOf.new _⟩
end HX
namespace HX
open L2
noncomputable abbrev D:=PyData
mutual
noncomputable def Den (K:W.Frag)(H:Hp):D->V->Prop
 | .none,v=>v=.non
 | .bool b,v=>v=.bl b
 | .int i,v=>v=.int i
 | .str x,v=>v=.str x
 | .tuple ds,v=>∃a xs,v=.ref a/\SqT K H a xs/\Dens K H ds xs
 | .list ds,v=>∃a xs,v=.ref a/\SqL K H a xs/\Dens K H ds xs
 | .dict _,_=>False
noncomputable def Dens (K:W.Frag)(H:Hp):List D->List V->Prop
 | [],xs=>xs=[]
 | d::ds,xs=>∃x r,xs=x::r/\Den K H d x/\Dens K H ds r
end
section
variable {K:W.Frag}{H H':Hp}{v:V}{xs:List V}
theorem den_int:Den K H (.int i) v↔v=.int i:=by unfold Den;exact QT
theorem den_bl:Den K H (.bool i) v↔v=.bl i:=by unfold Den;exact QT
theorem den_str:Den K H (.str i) v↔v=.str i:=by unfold Den;exact QT
theorem den_non:Den K H .none v↔v=.non:=by unfold Den;exact QT
theorem den_tup {ds:List D}:Den K H (.tuple ds) v↔∃a xs,v=.ref a/\SqT K H a xs/\Dens K H ds xs:=by rw[Den]
theorem den_lst {ds:List D}:Den K H (.list ds) v↔∃a xs,v=.ref a/\SqL K H a xs/\Dens K H ds xs:=by rw[Den]
theorem tw {ds:List (D × D)}:Den K H (.dict ds) v↔False:=by rw[Den]
theorem dens_nil:Dens K H [] xs↔xs=[]:=by unfold Dens;exact QT
theorem jT {d:D}{ds:List D}:Dens K H (d::ds) xs↔∃x r,xs=x::r/\Den K H d x/\Dens K H ds r:=by rw[Dens]
theorem dens_cons' {d:D}{ds:List D}{x:V}:Dens K H (d::ds) (x::xs)↔Den K H d x/\Dens K H ds xs:=by
 rw[jT];constructor
 ·rintro⟨_,_,e,h1,h2⟩;cases e;exact⟨h1,h2⟩
 ·rintro⟨h1,h2⟩;exact⟨_,_,rfl,h1,h2⟩
theorem BN (e:Same H H')(h:SqT K H a xs):SqT K H' a xs:=by
 rcases h with (h|⟨o,h⟩)|h
 ·exact .inl (.inl (e _ _ h))
 ·exact .inl (.inr ⟨o,e _ _ h⟩)
 ·exact .inr h
end
mutual
theorem Den.mono (e:Same H H'):∀ {d:D}{v:V},Den K H d v->Den K H' d v
 | .none,v,h=>by rw[den_non] at h |-;exact h
 | .bool b,v,h=>by rw[den_bl] at h |-;exact h
 | .int b,v,h=>by rw[den_int] at h |-;exact h
 | .str b,v,h=>by rw[den_str] at h |-;exact h
 | .dict b,v,h=>by rw[tw] at h;exact h.elim
 | .tuple ds,v,h=>by
  rw[den_tup] at h |-
  obtain⟨a,xs,h1,h2,h3⟩:=h;exact⟨a,xs,h1,BN e h2,Dens.mono e h3⟩
 | .list ds,v,h=>by
  rw[den_lst] at h |-
  obtain⟨a,xs,h1,h2,h3⟩:=h;exact⟨a,xs,h1,Same.seq e h2,Dens.mono e h3⟩
theorem Dens.mono (e:Same H H'):∀ {ds:List D}{xs:List V},Dens K H ds xs->Dens K H' ds xs
 | [],xs,h=>by rw[dens_nil] at h |-;exact h
 | d::ds,xs,h=>by
  rw[jT] at h |-
  obtain⟨x,r,h1,h2,h3⟩:=h;exact⟨x,r,h1,Den.mono e h2,Dens.mono e h3⟩
end
section
variable {X:Cx}{pins:List (Addr × Obj)}{σ:L2.St}{H:Hp}{s:Shared}
mutual
theorem Den.reads (I:Inv X pins σ H s):∀(d:D) (v:V) (u:Value),Den X.K H d v->RelV v u->∃as,Reads s.heap u d as
 | .none,v,u,h,r=>by rw[den_non] at h;subst h;cases r;exact⟨_,.none⟩
 | .bool b,v,u,h,r=>by rw[den_bl] at h;subst h;cases r;exact⟨_,.bool b⟩
 | .int b,v,u,h,r=>by rw[den_int] at h;subst h;obtain⟨t,rfl⟩:=r;exact⟨_,.int b t⟩
 | .str b,v,u,h,r=>by rw[den_str] at h;subst h;obtain⟨t,rfl⟩:=r;exact⟨_,.str b t⟩
 | .dict b,v,u,h,r=>by rw[tw] at h;exact h.elim
 | .tuple ds,v,u,h,r=>by rw[den_tup] at h;obtain⟨a,xs,rfl,h2,h3⟩:=h;cases r;obtain⟨its,rv,⟨o,ho,hc,n,hd⟩,_⟩:=I.tuple h2;obtain⟨as,hr⟩:=Dens.reads I ds xs its h3 rv;exact⟨as,.tuple ho hc hd (by simpa using hr)⟩
 | .list ds,v,u,h,r=>by rw[den_lst] at h;obtain⟨a,xs,rfl,h2,h3⟩:=h;cases r;obtain⟨its,rv,p,_⟩:=I.list h2;obtain⟨o,ho,hc,n,hd⟩:=p.isList;obtain⟨as,hr⟩:=Dens.reads I ds xs its h3 rv;exact⟨_,.list ho hc hd (by simpa using hr)⟩
theorem Dens.reads (I:Inv X pins σ H s):∀(ds:List D) (xs:List V) (us:List Value),Dens X.K H ds xs->Vals xs us->∃as,ReadsAll s.heap us ds as
 | [],xs,us,h,r=>by rw[dens_nil] at h;subst h;cases r;exact⟨_,.nil⟩
 | d::ds,xs,us,h,r=>by
  rw[jT] at h;obtain⟨x,q,rfl,h2,h3⟩:=h;cases r with
  | cons r1 r2 =>obtain⟨as,h4⟩:=Den.reads I d x _ h2 r1;obtain⟨bs,h5⟩:=Dens.reads I ds q _ h3 r2;exact⟨_,.cons h4 h5⟩
end
end
section
variable {X:Cx}
noncomputable def Ld (K:W.Frag):R2:=fun x y H Q=>∃d e,Den K H d x/\Den K H e y/\SeqAt.shaped d=true/\SeqAt.shaped e=true/\Q (.bl (PyData.eqv d e)) H
noncomputable def LP (K:W.Frag):R2:=fun x y H Q=>∃d e,Den K H d x/\Den K H e y/\SeqAt.shaped d=true/\SeqAt.shaped e=true/\Q (.bl (!PyData.eqv d e)) H
theorem AY (hu:X.A.units+64<cLine):OpR X (compareOp .Eq) (Ld X.K):=by intro pins s σ H x y v u Q I rx ry h;obtain⟨d,e,h1,h2,h3,h4,q⟩:=h;obtain⟨as,ra⟩:=Den.reads I d x v h1 rx;obtain⟨bs,rb⟩:=Den.reads I e y u h2 ry;exact eq_dataH ra rb h3 h4 hu ⟨.bl _,H,I,rfl,q⟩
theorem Bp (hu:X.A.units+64<cLine):OpR X (compareOp .NotEq) (LP X.K):=by intro pins s σ H x y v u Q I rx ry h;obtain⟨d,e,h1,h2,h3,h4,q⟩:=h;obtain⟨as,ra⟩:=Den.reads I d x v h1 rx;obtain⟨bs,rb⟩:=Den.reads I e y u h2 ry;exact ne_dataH ra rb h3 h4 hu ⟨.bl _,H,I,rfl,q⟩
structure Has (P:Program)(w:World)(K:W.Frag)(mg:Str->Option Value)(base:Heap)(k:Nat)(x:Str)(ps:List Str)(sp:Sp):Prop where
 ex:∃(f:Addr) (fd:FuncData),kW P w K mg base CX0 k f fd ps sp/\mg x=some (.ref f)/\W.keepIn K (.ref f)=true/\Binds K fd ps []
structure At (K:W.Frag)(mg:Str->Option Value)(x:Str)(st:Stmt)(ps:List Str):Prop where
 ex:∃(f:Addr) (fd:FuncData),Fun K x x st f fd/\mg x=some (.ref f)/\Binds K fd ps []
theorem At.mk' {K:W.Frag}{ps:List Str}{an:Option Addr}{kV doc pm cdv ct:Value}(X:K.In h)(G:h.Ns mainGlobals mg)(hb:∀(kV doc pm:Value) (an:Option Addr) (cdv ct:Value) (us:List Value),us.length=ps.length->bindArgs (W.fnOf x x (aY st) (ah st) (ae st) .none kV doc pm an cdv ct) ⟨us,[]⟩=pure (ps.zip us))(a:W.nsIn K mainGlobals x=some (some (.ref f)))(l:K.lookup f=some ⟨oc,od,.func (W.fnOf x x (aY st) (ah st) (ae st) .none kV doc pm an cdv ct),osl⟩)(c:W.codeIn K cdv x=true)(k:W.keepIn K (.ref f)=true):At K mg x st ps:=by
 have F:=Af (st:=st) l c k;exact⟨f,_,F,OT X G a,F.binds hb⟩
theorem At.ok (F:At K mg x st ps)(S:ak N ps (ae st))(len:∀vs H Q E,sp vs H Q E->vs.length=ps.length)(hbody:∀(f:Addr) (cdv:Value) (A:Around) (outer:List Env) (s:Shared) (H:Hp) (vs:List V) (Q:VK) (E:XK),Room k (A.deeper (envOfC x (ae st) s.heap.objs.size f cdv))->sp vs H Q E ->
   ∃t,PSs (dv CX0 P w K mg base N x (ae st) f cdv A outer s H E).nox (ah st) t/\t { nx:=fun _ H'=>Q .non H',rt:=Q } (start N vs) H):Has P w K mg base (k+1) x ps sp:=by
 obtain⟨f,fd,Ff,m,b⟩:=F.ex;exact⟨f,fd,Ff.ok S len (fun cdv A outer s H vs Q E hr h=>hbody f cdv A outer s H vs Q E hr h),m,Ff.kp,b⟩
theorem Iy {k:Nat}{x:Str}{ps:List Str}{sp:Sp}{p pos:Pos}{e:Expr}{es:List Expr}{t:TA}(F:Has X.prog X.w X.K X.mg X.base k x ps sp)(hr:Room k X.A)(ha:PA X (e::es) t)
  (hg:Gl X x:=by rfl) (hdb:(x == ("__debug__":Str))=false:=by decide) (he:starEach (e::es) X.env=(false,eval e X.env)::starEach es X.env:=by rfl) (hpl:(backTo pos (starEach es X.env)).any (·.1)=false:=by rfl) :
  PE X (.Call (.Name x p) (e::es) [] pos) (kK sp [] E0 t):=by
 obtain⟨f,fd,F,m,kp,b⟩:=F.ex;exact CT F hr hg m kp b .nil FM ha hdb he hpl
theorem C_ {k:Nat}{x:Str}{ps:List Str}{sp:Sp}{p pos:Pos}(F:Has X.prog X.w X.K X.mg X.base k x ps sp)(hr:Room k X.A)
  (hg:Gl X x:=by rfl) (hdb:(x == ("__debug__":Str))=false:=by decide) :
  PE X (.Call (.Name x p) [] [] pos) (kK sp [] E0 sY):=by
 obtain⟨f,fd,F,m,kp,b⟩:=F.ex;exact zZ F hr hg m kp b .nil FM hdb
end
end HX
namespace HX
open L2
noncomputable def ar:Expr->Bool
 | .Starred ..=>false
 | _=>true
theorem aO {es:List Expr}(h:ar e=true):starEach (e::es) env=(false,eval e env)::starEach es env:=by cases e <;> first|rfl|cases h
theorem sI:∀ {es:List Expr},es.all ar=true->(starEach es env).any (·.1)=false
 | [],_=>rfl
 | e::es,h=>by rw[OL,MG] at h;rw[aO h.1,N2,sI h.2];rfl
noncomputable def jF:Expr->Bool
 | .Slice ..=>false
 | _=>true
theorem JT (h:jF b=true):xg b:=fun o i=>by cases b <;> first|rfl|cases h
section
variable {X:Cx}
theorem pac (ha:PE X e te)(hr:PA X es t)(h:ar e=true:=by rfl):PA X (e::es) (jz te t):=Eo ha hr (aO h)
theorem Aa (hr:IxR X r)(ha:PE X a ta)(hb:PE X b tb)(hs:jF b=true:=by rfl):PE X (.Subscript a b pos) (tOp r ta tb):=J' hr ha hb (JT hs)
theorem d_ {es:List Expr}(h:es.all ar=true):(backTo pos (starEach es env)).any (·.1)=false:=by have:=sI (env:=env) h;unfold backTo;rw[List.any_map];exact this
theorem DQ {k:Nat}{x:Str}{ps:List Str}{sp:Sp}{p pos:Pos}{e:Expr}{es:List Expr}{t:TA}(F:Has X.prog X.w X.K X.mg X.base k x ps sp)(hr:Room k X.A)(ha:PA X (e::es) t)
  (hg:Gl X x:=by rfl) (hdb:(x == ("__debug__":Str))=false:=by decide) (he:ar e=true:=by rfl) (hpl:es.all ar=true:=by rfl) :
  PE X (.Call (.Name x p) (e::es) [] pos) (kK sp [] E0 t):=Iy F hr ha hg hdb (aO he) (d_ hpl)
theorem jY {id:String}{r:List V->Hp->VK->Prop}{x:Str}{p pos:Pos}{e:Expr}{es:List Expr}{t:TA}(hc:gi X (.builtin id) r)(hg:Gl X x)(hm:X.mg x=none)(hv:bootBuiltins x=some (.builtin id))(ha:PA X (e::es) t)(hn:x≠"__name__":=by decide)(hdb:(x == ("__debug__":Str))=false:=by decide)
  (he:ar e=true:=by rfl) (hpl:es.all ar=true:=by rfl):PE X (.Call (.Name x p) (e::es) [] pos) (tCB r t):=Br hc hg hm hv ha hn hdb (aO he) (d_ hpl)
theorem ug {T:String}{r:List V->Hp->VK->Prop}{x:Str}{p pos:Pos}{e:Expr}{es:List Expr}{t:TA}(hc:gi X (.type T) r)(hg:Gl X x)(hm:X.mg x=none)(hv:bootBuiltins x=some (.type T))(ha:PA X (e::es) t)(hn:x≠"__name__":=by decide)(hdb:(x == ("__debug__":Str))=false:=by decide)
  (he:ar e=true:=by rfl) (hpl:es.all ar=true:=by rfl):PE X (.Call (.Name x p) (e::es) [] pos) (tCB r t):=xI hc hg hm hv ha hn hdb (aO he) (d_ hpl)
end
end HX
namespace L2
section
variable {κ:Type} [DecidableEq κ]
noncomputable def gx (kvs:List (κ × V))(k:κ):Option V:=(kvs.find? fun kv=>decide (kv.1=k)).map (·.2)
noncomputable def i8 (kvs:List (κ × V))(k:κ)(v:V):List (κ × V) :=
 if (kvs.any fun kv=>decide (kv.1=k))=true then kvs.map (fun kv=>if kv.1=k then (kv.1,v) else kv) else kvs++[(k,v)]
noncomputable def kM (kvs:List (κ × V))(k:κ):List (κ × V):=kvs.filter fun kv=>decide (kv.1≠k)
theorem jA {p:κ × V}{r:List (κ × V)}{k:κ}(e:p.1=k):gx (p::r) k=some p.2:=by simp[gx,List.find?_cons,e]
theorem jI {p:κ × V}{r:List (κ × V)}{k:κ}(e:¬p.1=k):gx (p::r) k=gx r k:=by simp[gx,List.find?_cons,e]
theorem ua (k:κ):∀kvs:List (κ × V),(kvs.any fun kv=>decide (kv.1=k))=(gx kvs k).isSome
 | []=>rfl
 | p::r=>by
  rw[N2];by_cases e:p.1=k
  ·simp only[jA e,decide_eq_true e,Bool.true_or,Option.isSome_some]
  ·rw[jI e,NI e,Bool.false_or];exact ua k r
theorem kC (kvs:List (κ × V))(k:κ)(v:V):(i8 kvs k v).length<=kvs.length+1:=by
 unfold i8;split
 ·rw[ME];omega
 ·rw[NU,NS,List.length_nil];omega
theorem RelO.isSome_eq (r:RelO o u):o.isSome=u.isSome:=by
 cases o with
 | none=>cases u with
  | none=>rfl
  | some _=>exact(show False from r).elim
 | some _=>cases u with
  | none=>exact(show False from r).elim
  | some _=>rfl
theorem KV.val (r:KV kvs vs)(k:κ):RelO (gx kvs k) (valueAt vs k):=by
 unfold KV at r
 induction r with
 | nil=>exact True.intro
 | @cons p q ps qs h t ih =>
  obtain⟨h1,h2⟩:=h;by_cases e:p.1=k
  ·have e':q.1=k:=h1.symm.trans e;have b:valueAt (q::qs) k=some q.2:=by simp[valueAt,List.find?_cons,e']
   rw[jA e,b];exact h2
  ·have e':¬q.1=k:=fun z=>e (h1.trans z);have b:valueAt (q::qs) k=valueAt qs k:=by simp[valueAt,List.find?_cons,e']
   rw[jI e,b];exact ih
theorem KV.any (r:KV kvs vs)(k:κ):(kvs.any fun kv=>decide (kv.1=k))=vs.any fun kv=>decide (kv.1=k):=by
 unfold KV at r
 induction r with
 | nil=>rfl
 | cons h t ih=>rw[N2,N2,ih,h.1]
theorem KV.repl (r:KV kvs vs)(k:κ)(ry:RelV y u) :
  KV (kvs.map fun kv=>if kv.1=k then (kv.1,y) else kv) (vs.map fun kv=>if kv.1=k then (kv.1,u) else kv):=by
 unfold KV at r |-
 induction r with
 | nil=>exact .nil
 | @cons p q ps qs h t ih =>
  rw[MF,MF];refine .cons ?_ ih;obtain⟨h1,h2⟩:=h;by_cases e:p.1=k
  ·rw[MN e,MN (h1.symm.trans e)];exact⟨h1,ry⟩
  ·rw[ML e,ML (fun z=>e (h1.trans z))];exact⟨h1,h2⟩
theorem KV.put (r:KV kvs vs)(k:κ)(ry:RelV y u):KV (i8 kvs k y) (stored vs k u):=by
 unfold i8 stored;rw[r.any k];by_cases e:(vs.any fun kv=>decide (kv.1=k))=true
 ·rw[MN e,MN e];exact r.repl k ry
 ·rw[ML e,ML e];exact Paired.snoc r ⟨rfl,ry⟩
theorem KV.drop (r:KV kvs vs)(k:κ):KV (kM kvs k) (without vs k):=by
 unfold KV at r |-
 unfold kM without
 induction r with
 | nil=>exact .nil
 | @cons p q ps qs h t ih =>
  obtain⟨h1,h2⟩:=h;rw[QB,QB];by_cases e:p.1=k
  ·have a:¬decide (p.1≠k)=true:=by simp[e]
   have b:¬decide (q.1≠k)=true:=by simp[h1.symm.trans e]
   rw[ML a,ML b];exact ih
  ·have e':¬q.1=k:=fun z=>e (h1.trans z);have a:decide (p.1≠k)=true:=by simp[e]
   have b:decide (q.1≠k)=true:=by simp[e']
   rw[MN a,MN b];exact .cons ⟨h1,h2⟩ ih
theorem KV.keys {kvs:List (κ × V)}{vs:List (κ × Value)}(r:KV kvs vs):kvs.map (·.1)=vs.map (·.1):=by
 unfold KV at r
 induction r with
 | nil=>rfl
 | cons h t ih=>rw[MF,MF,ih,h.1]
theorem KV.length {kvs:List (κ × V)}{vs:List (κ × Value)}(r:KV kvs vs):kvs.length=vs.length:=Paired.length r
theorem Av (kvs:List (κ × V))(k:κ):(kM kvs k).length<=kvs.length:=List.length_filter_le _ _
end
theorem pE (r:RelV (kV k) u):(aE P w).is k u=true:=by
 cases k with
 | inl i=>obtain⟨t,e⟩:=(show ∃t,u=Value.int i t from r);subst e;exact t8 P w i t
 | inr x=>obtain⟨t,e⟩:=(show ∃t,u=Value.str x t from r);subst e;exact kF P w x t
theorem nY:∀ {ks:List Key}{us:List Value},Vals (ks.map kV) us->ItemsAre (aE P w) ks us
 | [],_,r=>by rw[NM] at r;cases r;exact .nil
 | k::ks,_,r=>by
  rw[MF] at r;cases r with
  | cons h t=>exact .cons (pE h) (nY t)
noncomputable abbrev KT (H:Hp):List (List Key × V)->List (List Key × Addr × Value)->Prop:=Paired fun p q=>p.1=q.1/\H q.2.1=some (.tup (p.1.map kV))/\RelV p.2 q.2.2
theorem KT.val (r:KT H kvs xs)(k:List Key):RelO (gx kvs k) ((atKey xs k).map (·.2)):=by
 induction r with
 | nil=>exact True.intro
 | @cons p q ps qs h t ih =>
  obtain⟨h1,_,h2⟩:=h;by_cases e:p.1=k
  ·have e':q.1=k:=h1.symm.trans e;have b:atKey (q::qs) k=some q.2:=by simp[atKey,List.find?_cons,e']
   rw[jA e,b];exact h2
  ·have e':¬q.1=k:=fun z=>e (h1.trans z);have b:atKey (q::qs) k=atKey qs k:=by simp[atKey,List.find?_cons,e']
   rw[jI e,b];exact ih
theorem KT.repl (r:KT H kvs xs)(k:List Key)(ry:RelV y u) :
  KT H (kvs.map fun kv=>if kv.1=k then (kv.1,y) else kv) (xs.map (putAt k u)):=by
 induction r with
 | nil=>exact .nil
 | @cons p q ps qs h t ih =>
  rw[MF,MF];refine .cons ?_ ih;obtain⟨h1,h2,h3⟩:=h;unfold putAt;by_cases e:p.1=k
  ·rw[MN e,MN (h1.symm.trans e)];exact⟨h1,h2,ry⟩
  ·rw[ML e,ML (fun z=>e (h1.trans z))];exact⟨h1,h2,h3⟩
theorem KT.put (r:KT H kvs xs)(k:List Key)(hb:H b=some (.tup (k.map kV)))(ry:RelV y u) :
  KT H (i8 kvs k y) (storedH xs k b u):=by
 have e:(kvs.any fun kv=>decide (kv.1=k))=(atKey xs k).isSome:=by rw[ua,(r.val k).isSome_eq,OO]
 unfold i8 storedH;rw[e];by_cases q:(atKey xs k).isSome=true
 ·rw[MN q,MN q];exact r.repl k ry
 ·rw[ML q,ML q];exact Paired.snoc r ⟨rfl,hb,ry⟩
theorem KT.keeps {H':Hp}(r:KT H kvs xs)(ht:∀b ys,H b=some (.tup ys)->H' b=some (.tup ys)):KT H' kvs xs :=
 Paired.mapP r fun _ _ z=>⟨z.1,ht _ _ z.2.1,z.2.2⟩
section
variable {P:Program}{w:World}{H:Hp}{h:Heap}{a:Addr}
theorem E2 (ok:HOk P w H h)(e:Rd H a u):ObjOk P w H h a u:=e.ok ok
theorem oa (ok:HOk P w H h)(e:Rd H a (.dK kvs)):kvs.length<=sizeLine/\(a == sysModules)=false/\∃vs,KV kvs vs/\h.DictOf (aE P w) a vs :=
 show ObjOk P w H h a (.dK kvs) from E2 ok e
theorem ip (ok:HOk P w H h)(e:H a=some (.dK kvs)):kvs.length<=sizeLine/\(a == sysModules)=false/\∃vs,KV kvs vs/\h.DictOf (aE P w) a vs:=oa ok (.inl e)
theorem mr {ks:List Key}(ok:HOk P w H h)(e:H a=some (.tup (ks.map kV))):(tupleKind (aE P w)).is h ks a:=by obtain⟨_,its,r,o,h1,h2,n,h3⟩:=(show ObjOk P w H h a (.tup (ks.map kV)) from ok a _ e);exact⟨o,its.toArray,n,h1,h2,h3,by simpa using nY r⟩
theorem vJ (ok:HOk P w H h)(e:Rd H a (.dT kvs)):kvs.length<=sizeLine/\(a == sysModules)=false /\
  ∃xs,KT H kvs xs/\h.DictOfH (tupleKind (aE P w)) a xs:=by
 obtain⟨z,y,xs,r,o,es,ep,h1,h2,h3,h4,h5⟩:=(show ObjOk P w H h a (.dT kvs) from E2 ok e);refine⟨z,y,xs,r,o,es,ep,h1,h2,h3,h4,fun x hx=>?_,h5⟩;have all:∀ {l:List (List Key × V)}{m:List (List Key × Addr × Value)},KT H l m->∀x∈m,(tupleKind (aE P w)).is h x.1 x.2.1:=by
  intro l m q
  induction q with
  | nil=>intro x hx;exact nomatch hx
  | @cons p q ps qs hq t ih =>
   intro x hx;rcases NB.mp hx with e|hx
   ·subst e;exact mr ok (by rw[<-hq.1];exact hq.2.1)
   ·exact ih x hx
 exact all r x hx
theorem KU (ok:HOk P w H h)(e:H a=some (.dT kvs)):kvs.length<=sizeLine/\(a == sysModules)=false /\
  ∃xs,KT H kvs xs/\h.DictOfH (tupleKind (aE P w)) a xs:=vJ ok (.inl e)
end
def D8 (H:Hp)(a:Addr)(y:V)(r:Option V):Prop :=
 (∃kvs k,Rd H a (.dK kvs)/\y=kV k/\r=gx kvs k)\/∃kvs k b,Rd H a (.dT kvs)/\y=.ref b/\H b=some (.tup (k.map kV))/\r=gx kvs k
def DPut (H:Hp)(a:Addr)(y v:V)(H':Hp):Prop :=
 (∃kvs k,H a=some (.dK kvs)/\y=kV k/\kvs.length<sizeLine/\H'=upd H a (.dK (i8 kvs k v))) \/
 ∃kvs k b,H a=some (.dT kvs)/\y=.ref b/\H b=some (.tup (k.map kV))/\kvs.length<sizeLine/\H'=upd H a (.dT (i8 kvs k v))
theorem DPut.k {H:Hp}{a:Addr}{kvs:List (Key × V)}{k:Key}{v:V}(e:H a=some (.dK kvs))(hl:kvs.length<sizeLine):DPut H a (kV k) v (upd H a (.dK (i8 kvs k v))):=.inl ⟨kvs,k,e,rfl,hl,rfl⟩
section
variable {X:Cx}{pins:List (Addr × Obj)}{σ:St}{H:Hp}{s:Shared}{a:Addr}{y v:V}{u r:Value}{o:Option V}{A:Around}{E:Value->Shared->Prop}
theorem yB {Q:Value->Shared->Prop}(hu:A.units+1<cLine)(I:Inv X pins σ H s)(g:D8 H a y (some v))(ry:RelV y u)(h:∀w' s',Inv X pins σ H s'->RelV v w'->Q w' s') :
  wpAny (model X.prog X.w) A (getItem (.ref a) u) Q E s:=by
 rcases g with⟨kvs,k,e,ey,l⟩|⟨kvs,k,b,e,ey,eb,l⟩
 ·subst ey;obtain⟨z,hd,vs,rel,dd⟩:=oa I.hok e;obtain⟨w',hw,rw'⟩:=RelO.some_of (v:=v) (o:=valueAt vs k) (by rw[l];exact rel.val k);exact wpAny_getItem_of (pE ry) dd.mapOf hw (h w' _ (I.tok _) rw')
 ·subst ey;cases (show u=Value.ref b from ry);obtain⟨z,hd,xs,rel,dd⟩:=vJ I.hok e;obtain⟨w',hw,rw'⟩:=RelO.some_of (v:=v) (o:=(atKey xs k).map (·.2)) (by rw[l];exact rel.val k);obtain⟨p,hp,hp2⟩:=MP.mp hw;refine wpAny_getItem_heap (tupleKind_room_in1 hu) (mr I.hok eb) dd hp ?_;rw[hp2];exact h w' _ (I.tok _) rw'
theorem LW {Q:Value->Shared->Prop}(hu:A.units+1<cLine)(I:Inv X pins σ H s)(g:D8 H a y o)(ry:RelV y u)(h:∀s',Inv X pins σ H s'->Q (.bool o.isSome) s') :
  wpAny (model X.prog X.w) A (compareOp .In u (.ref a)) Q E s:=by
 rcases g with⟨kvs,k,e,ey,l⟩|⟨kvs,k,b,e,ey,eb,l⟩
 ·subst ey;obtain⟨z,hd,vs,rel,dd⟩:=oa I.hok e;refine wpAny_in_of (pE ry) hd dd.mapOf ?_;rw[<-(rel.val k).isSome_eq,<-l];exact h _ (I.tok _)
 ·subst ey;cases (show u=Value.ref b from ry);obtain⟨z,hd,xs,rel,dd⟩:=vJ I.hok e;refine wpAny_in_heap (tupleKind_room_in1 hu) (mr I.hok eb) hd dd ?_;have q:=(rel.val k).isSome_eq;rw[OO] at q;rw[<-q,<-l];exact h _ (I.tok _)
theorem Dy {Q:Value->Shared->Prop}(hu:A.units+1<cLine)(I:Inv X pins σ H s)(g:D8 H a y o)(ry:RelV y u)(h:∀s',Inv X pins σ H s'->Q (.bool (!o.isSome)) s') :
  wpAny (model X.prog X.w) A (compareOp .NotIn u (.ref a)) Q E s:=by
 rcases g with⟨kvs,k,e,ey,l⟩|⟨kvs,k,b,e,ey,eb,l⟩
 ·subst ey;obtain⟨z,hd,vs,rel,dd⟩:=oa I.hok e;refine wpAny_notIn_of (pE ry) hd dd.mapOf ?_;rw[<-(rel.val k).isSome_eq,<-l];exact h _ (I.tok _)
 ·subst ey;cases (show u=Value.ref b from ry);obtain⟨z,hd,xs,rel,dd⟩:=vJ I.hok e;refine wpAny_notIn_heap (tupleKind_room_in1 hu) (mr I.hok eb) hd dd ?_;have q:=(rel.val k).isSome_eq;rw[OO] at q;rw[<-q,<-l];exact h _ (I.tok _)
theorem lx {t':Nat}(I:Inv X pins σ H s)(mu:Mut (H a))(hs:Heap.SameBut a s.heap h')(he:∃q,h'.get? a=some q)(new:ObjOk X.prog X.w (upd H a ob) h' a ob) :
  Inv X pins σ (upd H a ob) { s with heap:=h',toks:=t' } :=
 I.write (x:=a) (e:=a) mu (.inl rfl) (fun b q hb z=>(hs.2 b hb).trans z) he new
theorem u4 {h':Heap}{kvs:List (Key × V)}(z:kvs.length<=sizeLine)(hd:(a == sysModules)=false)(rel:KV kvs vs)(dd:h'.DictOf (aE P w) a vs) :
  ObjOk P w H' h' a (.dK kvs):=⟨z,hd,vs,rel,dd⟩
theorem xP {Q:Unit->Shared->Prop}(hu:A.units+1<cLine)(I:Inv X pins σ H s)(g:DPut H a y v H')(ry:RelV y u)(rv:RelV v r)(h:∀s',Inv X pins σ H' s'->Q () s') :
  wpAny (model X.prog X.w) A (setItem (.ref a) u r) Q E s:=by
 rcases g with⟨kvs,k,e,ey,l,eH⟩|⟨kvs,k,b,e,ey,eb,l,eH⟩
 ·subst ey eH;obtain⟨z,hd,vs,rel,dd⟩:=ip I.hok e;have hz:vs.length<=sizeLine:=by rw[<-rel.length];exact z
  have hl:(i8 kvs k v).length<=sizeLine:=by have:=kC kvs k v;omega
  refine wpAny_setItem_pairs (hsz:=hz) (pE ry) dd fun h' dd' hs=>h _ ?_;have he:∃q,h'.get? a=some q:=let ⟨q,_,_,hq,_⟩:=dd';⟨q,hq⟩;exact lx I (by rw[e];exact True.intro) hs he (u4 hl hd (rel.put k rv) dd')
 ·subst ey eH;cases (show u=Value.ref b from ry);obtain⟨z,hd,xs,rel,dd⟩:=KU I.hok e;have hz:xs.length<=sizeLine:=by rw[<-Paired.length rel];exact z
  have hl:(i8 kvs k v).length<=sizeLine:=by have:=kC kvs k v;omega
  refine wpAny_setItem_heap (hsz:=hz) (tupleKind_room_in1 hu) (mr I.hok eb) dd fun h' dd' hs=>h _ ?_;obtain⟨q,es,ep,hq,h2,h3,h4,_,h5⟩:=dd';refine lx I (by rw[e];exact True.intro) hs ⟨q,hq⟩ ⟨hl,hd,_,(rel.put k eb rv).keeps fun c ys ec=>?_,q,es,ep,hq,h2,h3,h4,h5⟩;rw[af (Jb ec e (fun z=>nomatch z))];exact ec
end
section
variable {X:Cx}{pins:List (Addr × Obj)}{σ:St}{H:Hp}{s:Shared}{a:Addr}{kvs:List (Key × V)}{k:Key}{u:Value}{A:Around}{E:Value->Shared->Prop}
theorem yP {Q:Unit->Shared->Prop}(I:Inv X pins σ H s)(e:H a=some (.dK kvs))(ry:RelV (kV k) u)(l:(gx kvs k).isSome=true)(h:∀s',Inv X pins σ (upd H a (.dK (kM kvs k))) s'->Q () s') :
  wpAny (model X.prog X.w) A (delItem (.ref a) u) Q E s:=by
 obtain⟨z,hd,vs,rel,dd⟩:=ip I.hok e;refine wpAny_delItem_slot dd.typeIs (by decide) PySem.F.slot_dict_delitem
  (call_meetsIn PySem.F.slot_dict_delitem dd.typeIs PySem.F.entry_dict_delitem (PySem.F.args_dict_delitem_2 _ _) (meets_dict_delitem_pairs (aE X.prog X.w) a (pE ry)) ⟨vs,dd,by rw[<-rel.length];exact z,by rw[<-(rel.val k).isSome_eq];exact l,fun h' dd' hs=>h _ ?_⟩)
 have he:∃q,h'.get? a=some q:=let ⟨q,_,_,hq,_⟩:=dd';⟨q,hq⟩;exact lx I (by rw[e];exact True.intro) hs he (u4 (MY (Av kvs k) z) hd (rel.drop k) dd')
theorem DX {Q:Value->Shared->Prop}(I:Inv X pins σ H s)(e:H a=some (.dK kvs))(h:∀s',Inv X pins σ (upd H a (.dK [])) s'->Q .none s'):wpAny (model X.prog X.w) A (call (.builtin "dict.clear") [.ref a]) Q E s:=by obtain⟨z,hd,vs,rel,dd⟩:=ip I.hok e;refine call_meetsIn PySem.F.slot_dict_clear dd.typeIs PySem.F.entry_dict_clear (PySem.F.args_dict_clear_1 _) (meets_dict_clear (aE X.prog X.w) a) ⟨vs,dd,by rw[<-rel.length];exact z,fun h' dd' hs=>h _ ?_⟩;have he:∃q,h'.get? a=some q:=let ⟨q,_,_,hq,_⟩:=dd';⟨q,hq⟩;exact lx (t':=s.toks) I (by rw[e];exact True.intro) hs he (u4 (NV _) hd .nil dd')
end
section
variable {X:Cx}{pins:List (Addr × Obj)}{σ:St}{H:Hp}{s:Shared}{a:Addr}{kvs:List (Key × V)}{A:Around}{E:Value->Shared->Prop}
end
section
variable {X:Cx}{pins:List (Addr × Obj)}{σ:St}{H:Hp}{s:Shared}{a:Addr}{y d:V}{u r:Value}{o:Option V}{A:Around}{E:Value->Shared->Prop}
end
end L2
namespace FW
open L2
def LO (xs:Array Nat):Prop:=∀i j,i<j->j<xs.size->xs.getD i 0<xs.getD j 0
structure Jm (b:Bool)(t:SetTable):Prop where
 ris:LO t.place
 led:t.led=b
structure Lc (b:Bool)(es:Array (Int × Value))(t:SetTable):Prop where
 fit:t.fits es.size=true
 ok:Jm b t
structure SK (prog:Program)(w:World)(κ:Type)[DecidableEq κ] where
 knd:KeyKind prog w κ
 kf:Value->κ
 eq:∀ {k:κ}{v:Value},knd.is k v=true->kf v=k
 sc:∀ {k:κ}{v:Value},knd.is k v=true->v.scannable=true
section
variable {prog:Program}{w:World}{κ:Type} [DecidableEq κ] {A:Around}{E:Value->Shared->Prop}{s:Shared}{S:SK prog w κ}
def EI (S:SK prog w κ)(e:Int × Value):Prop:=∃k:κ,S.knd.is k e.2=true/\e.1=S.knd.hash k
structure Lo (S:SK prog w κ)(b:Bool)(es:Array (Int × Value))(t:SetTable)(zs:List κ):Prop where
 el:∀e∈es.toList,EI S e
 nd:(es.toList.map fun e=>S.kf e.2).Nodup
 mem:∀i,i∈(es.toList.map fun e=>S.kf e.2)↔i∈zs
 ln:es.size<=zs.length
 tb:Lc b es t
noncomputable abbrev KZ (es:Array (Int × Value))(ep:Nat)(t:SetTable):Obj:={ cls:=.type "set",dict:=none,data:=.set es ep t }
def Lf (S:SK prog w κ)(b:Bool)(h:Heap)(a:Addr)(zs:List κ):Prop:=∃es ep t,h.get? a=some (KZ es ep t)/\Lo S b es t zs
end
end FW
namespace FW
noncomputable abbrev byT (w:World):Bool:=w.params.followText "set-order"
section
variable {prog:Program}{w:World}{A:Around}{E:Value->Shared->Prop}{s:Shared}
end
end FW
namespace FW
open L2
section
variable {prog:Program}{w:World}{A:Around}{E:Value->Shared->Prop}{s:Shared}
structure Ent (h:Heap)(d:Addr)(es:Array DictEntry)(ep:Nat):Prop where
 ob:∃o,h.get? d=some o/\o.data=.dict es ep
end
end FW
namespace FW
section
variable {prog:Program}{w:World}{κ:Type} [DecidableEq κ] {SS:SK prog w κ}{A:Around}{E:Value->Shared->Prop}{s:Shared}
set_option maxHeartbeats 3200000 in
set_option maxHeartbeats 3200000 in
end
noncomputable def toI:Value->Int
 | .int n _=>n
 | _=>0
noncomputable def LU (prog:Program)(w:World):SK prog w Int:=⟨intKind prog w,toI,fun h=>by obtain⟨t,rfl⟩:=P7 h;rfl,fun h=>by obtain⟨t,rfl⟩:=P7 h;rfl⟩
section
variable {prog:Program}{w:World}{A:Around}{E:Value->Shared->Prop}{s:Shared}
theorem ui {κ:Type}[DecidableEq κ]{SS:SK prog w κ}{vs:List Value}{es:List (Int × Value)}(h:∀e∈es,EI SS e)(p:vs.Perm (es.map (·.2))):∀v∈vs,∃k,SS.knd.is k v=true:=fun v hv=>by obtain⟨e,he,rfl⟩:=MV.mp (p.mem_iff.mp hv);obtain⟨k,h1,_⟩:=h e he;exact⟨k,h1⟩
end
end FW
namespace L2
section
variable {X:Cx}
theorem D6:fillsInplaceSlot (.type "list") "add" (Operator.Add == .Add)=pure false:=by
 unfold fillsInplaceSlot;show (typeLookup (.type "list") (dunderI "add") >>= fun fi=>pure (fi.isSome && !isSeqSlot fi))=pure false;rw[F.slot_list_iadd.lookup];have e:isSeqSlot (some (.builtin "list.__iadd__"))=true:=by decide +kernel
 show (pure (true && !isSeqSlot (some (.builtin "list.__iadd__"))):Sem Bool)=pure false;rw[e];rfl
theorem C6:seqSlot? (.type "list") (dunderI "add")=pure (some (.builtin "list.__iadd__")):=PySem.seqSlot_of F.slot_list_iadd.lookup (by decide +kernel)
theorem xQ {M:Model}{E:Value->Shared->Prop}{s:Shared}(ha:s.TypeIs a "list")(hb:s.TypeIs b "list")(hc:wpAny M A (call (.builtin "list.__iadd__") [a,b]) Q E s):wpAny M A (inplaceOp .Add a b) Q E s:=by
 unfold inplaceOp;refine N1 ?_;refine MB (wpAny_typeOf ha (MB (wpAny_of_eq D6 ?_)));show wpAny M A (if false=true then _ else _) Q E s;rw[ML MA];refine MB (wpAny_binaryOp1_none (nm:="add") ha hb noFill_list_add ?_);refine MB (wpAny_of_eq C6 ?_);exact MB (wpAny_rule hc)
theorem Ir:PIp X .Add (fun x y H Q=>∃l b xs zs,x=.ref l/\y=.ref b/\H l=some (.lst xs)/\H b=some (.lst zs)/\xs.length+zs.length<=sizeLine/\Q (.ref l) (upd H l (.lst (xs++zs)))):=by
 intro pins s σ H x y v u Q I rx ry h;obtain⟨l,b,xs,zs,rfl,rfl,hH,hB,hz,q⟩:=h;cases rx;cases ry;obtain⟨z,its,n,r,hl,e⟩:=I.lstM hH;obtain⟨z2,its2,n2,r2,hl2,e2⟩:=I.lstM hB;have hsz:its.toArray.size+its2.toArray.size<=sizeLine:=by rw[M5,M5];omega
 have hlong:¬(!its.toArray.isEmpty && Builtin.List.listTooLong (its.toArray.size+its2.toArray.size))=true:=by rw[Bs hsz,P0];exact MA
 refine xQ ⟨_,e,rfl⟩ ⟨_,e2,rfl⟩ ?_;refine call_meets F.slot_list_iadd ⟨_,e,rfl⟩ F.entry_list_iadd (F.args_list_iadd_2 _ _)
  (AutoSeq1.list___iadd___list_list_0 l its.toArray n b its2.toArray n2 hlong (by rw[M5];omega) (by omega)) ⟨e,e2,?_⟩
 refine⟨.ref l,_,I.lset (its':=its++its2) hH e (by simp) (r.append r2) ?_,rfl,q⟩;rw[NU];omega
end
end L2
namespace L2
structure Jx (h:Heap)(f:Addr)(qual:Str)(params:Arguments)(body:Expr)(scope:Scope)(cl:List (Str × Addr)):Prop where
 ex:∃pm c' ctv,h.get? f=some (W.kla_obj "<lambda>" qual params body scope cl pm c' ctv)/\h.CodeRec (.ref c') qual
structure mv (ps:List Str)(scope:Scope)(cl:List (Str × Addr)):Prop where
 kind:scope.kind=.function
 co:scope.isCoroutine=false
 gen:scope.isGenerator=false
 nocell:∀y∈scope.names,y.2≠.cell
 par:∀x∈ps,scope.names.lookup x=some .local
 nd:ps.Nodup
 free:∀y,scope.names.lookup y=some .free->∃c,cl.lookup y=some c
 inj:∀y z c,cl.lookup y=some c->cl.lookup z=some c->y=z
noncomputable def cxL (CX:CXT)(P:Program)(w:World)(K:W.Frag)(mg:Str->Option Value)(base:Heap)(N:List Str)(qual:Str)(scope:Scope)(f:Addr)(cd:Value)(cl:List (Str × Addr))(A:Around)(outer:List Env)(s:Shared)(H:Hp)(E:XK):Cx where
 prog:=P
 w:=w
 K:=K
 mg:=mg
 base:=base
 A:=A.deeper (W.envX qual scope s.heap.objs.size f cd cl)
 N:=N
 s₀:=s
 H₀:=H
 env:=W.envX qual scope s.heap.objs.size f cd cl
 outer:=outer
 stack:=W.envX qual scope s.heap.objs.size f cd cl::outer
 ex:=[]
 calm:=true
 fn:=fun _=>false
 pn:=[]
 xe:=fun e s'=>wpAny (model P w) (A.deeper (W.envX qual scope s.heap.objs.size f cd cl)) (leaving (W.envX qual scope s.heap.objs.size f cd cl) e) (fun _ s''=>CX outer H s E e s'') (fun e' s''=>CX outer H s E e' s'') s'
theorem vU:∀ {ps:List Str}{us:List Value}{j:Nat},ps.Nodup->ps[j]?=some x->us[j]?=some u->(ps.zip us).reverse.lookup x=some u
 | [],_,_,_,h,_=>by simp at h
 | _::_,[],_,_,_,h=>by simp at h
 | p::ps,w::us,j,nd,h1,h2=>by
  rw[List.zip_cons_cons,List.reverse_cons,List.lookup_append];obtain⟨nd1,nd2⟩:=NO.mp nd;cases j with
  | zero =>
   simp only[List.getElem?_cons_zero,Option.some.injEq] at h1 h2;subst h1 h2;have:(ps.zip us).reverse.lookup p=none:=List.lookup_eq_none_iff.mpr fun q hq=>by have:=(ON (show (q.1,q.2)∈ps.zip us from List.mem_reverse.mp hq)).1;simpa using fun z:p=q.1=>nd1 (z ▸ this)
   rw[this];simp[List.lookup]
  | succ j=>rw[vU nd2 (by simpa using h1) (by simpa using h2)];rfl
theorem Ej {A:Around}{E:XK}{σ:St}{h1:Heap}{tk:Nat}(S:mv ps scope cl)(hd:A.handled=none)(e0:Env0 P w K mg base A outer s H)(rv:Vals vs us)(hc:∀y c,cl.lookup y=some c->(∃z,s.heap.IsCell c z)/\H c=none)(hσ:∀(i:Nat) (y:Str) (z:V),N[i]?=some y->σ[i]?=some (some z)->(∃j:Nat,ps[j]?=some y/\vs[j]?=some z)\/(scope.names.lookup y=some .free/\∃c q,cl.lookup y=some c/\s.heap.IsCell c (some q)/\RelV z q))(hl:σ.length=N.length)(hns:h1.Ns s.heap.objs.size (fun y=>(ps.zip us).reverse.lookup y))(hk:∀b o,s.heap.get? b=some o->h1.get? b=some o) :
  Inv (cxL CX P w K mg base N qual scope f cd cl A outer s H E) [] σ H { s with heap:=h1,toks:=tk }:=by
 have noA:∀b:Addr,b ∉ (cxL CX P w K mg base N qual scope f cd cl A outer s H E).ex:=fun b z=>absurd (show b∈([]:List Addr) from z) (by simp);have ck:∀c z,s.heap.IsCell c z->h1.IsCell c z:=fun c z ⟨o,e,d⟩=>⟨o,hk _ _ e,d⟩;refine⟨⟨e0.mod,S.kind,rfl,rfl,MJ _,fun y z c h1 h2=>S.inj y z c h1 h2,fun y hy=>?_,fun y c h=>Bool.noConfusion (show false=true from h),fun _=>hd,Around.frames_deeper e0.frames,.inr ⟨rfl,rfl⟩,fun b z=>absurd z (noA b),e0.bs,e0.bsz,fun b _ _=>noA b,fun b z=>absurd z (noA b),e0.funs,e0.frf⟩,
  rfl,e0.bare,Un.kept hk,⟨_,hns,fun i y z h1 h2 h3=>?_⟩,fun y c h=>?_,e0.hok.fresh (MJ _),fun y c h=>(hc y c h).2,fun p hp=>absurd (show p∈([]:List (Addr × Obj)) from hp) (by simp),e0.hok.kept hk,hl⟩
 ·have hy:scope.names.lookup y=some .cell\/scope.names.lookup y=some .free:=hy;rcases hy with hy|hy
  ·exact absurd rfl (S.nocell _ (NK hy))
  ·exact S.free y hy
 ·rcases hσ i y z h1 h2 with⟨j,hj,hz⟩|⟨hf,c,q,e1,e2,e3⟩
  ·obtain⟨u,hu,ru⟩:=rv.get hz;exact⟨u,ru,.inl ⟨S.par y (MT hj),vU S.nd hj hu⟩⟩
  ·exact⟨q,e3,.inr ⟨.inr hf,c,e1,ck _ _ e2⟩⟩
 ·obtain⟨⟨z,q⟩,_⟩:=hc y c h;exact⟨z,ck _ _ q⟩
theorem De {k:Nat}{s:Shared}{E:XK}{σ:St}(F:Jx s.heap f qual params body scope cl)(S:mv ps scope cl)(hr:Room (k+1) A)(e0:Env0 P w K mg base A outer s H)(rv:Vals vs us)(hb:∀pm c' ctv,bindArgs (W.kla_fn "<lambda>" qual params body scope cl pm (.ref c') ctv) ⟨us,[]⟩=pure (ps.zip us))(hc:∀y c,cl.lookup y=some c->(∃z,s.heap.IsCell c z)/\H c=none)(hσ:∀(i:Nat) (y:Str) (z:V),N[i]?=some y->σ[i]?=some (some z)->(∃j:Nat,ps[j]?=some y/\vs[j]?=some z)\/(scope.names.lookup y=some .free/\∃c q,cl.lookup y=some c/\s.heap.IsCell c (some q)/\RelV z q))(hl:σ.length=N.length)(hbody:∀c',Room k (A.deeper (W.envX qual scope s.heap.objs.size f (.ref c') cl))->∃t,PE (cxL CX0 P w K mg base N qual scope f (.ref c') cl A outer s H E).nox body t/\t σ H Q) :
  codeAny (model P w) A (.call (.ref f) ⟨us,[]⟩) (CR CX0 outer P w H s Q E) s:=by
 obtain⟨pm,c',ctv,ho,hcd⟩:=F.ex;have lim:s.heap.NoLimit:=e0.mod.nolimit.keeps fun b o e=>(e0.bs b o e).1;refine W.kla_callFunE hr.depth ho rfl S.co S.gen rfl hcd ?_;rw[hb];refine MU (wpAny_newFunctionEnv S.nocell (fun y hy=>?_) (fun h1 hns hsb=>?_) S.kind)
 ·exact S.par y.1 (ON (show (y.1,y.2)∈ps.zip us from hy)).1
 have hk1:∀b o,s.heap.get? b=some o->h1.get? b=some o:=fun b o e=>hsb.extBut b o (M8 (MR e)) (MD _ e);refine⟨lim.keeps hk1,?_⟩;show codeAny _ _ (.expr body (W.envX qual scope s.heap.objs.size f (.ref c') cl)) _ _;obtain⟨t,ht,hq⟩:=hbody c' (hr.deeper _);have I:=Ej (CX:=CX0) (E:=E) (f:=f) (cd:=.ref c') (qual:=qual) (tk:=s.toks+(ps.zip us).length) S hr.hd e0 rv hc hσ hl hns hk1;refine W.kla_codeExpr (wpAny_mono (ht.nox [] _ σ H Q I hq) (fun v' s' ⟨v,H',J,rv,q⟩=>?_) fun e s' hs=>hs);exact⟨v,H',J.os,J.bare,J.base,J.hok,rv,q⟩
end L2
namespace L2
noncomputable abbrev DH (ps:Array Value)(pos:Pos)(c':Addr):Array Value:=ps++#[rawInt pos.line,rawInt pos.col,.ref c']
noncomputable abbrev lg (H:Hp)(T:Addr)(ps:Array Value)(pos:Pos)(c':Addr)(oc:Obj):Hp:=upd (upd H T (.tbl (DH ps pos c'))) c' (.frz oc (.own 0))
def mO (oc:Obj)(q:Str):Prop:=∃vs t,oc.data=.fields vs/\vs[1]?=some (.str q t)
theorem Co {σ:St}{Q:Value->Shared->Prop}(I:Inv X pins σ H s)(hcd:X.env.code=.ref c)(C:W.CodeHd s.heap c T)(hT:H T=some (.tbl ps))(ht:TriplesOk ps.toList)(hcodes:∀cv,codeAmong pos ps.toList=some cv->∃c' oc,cv=.ref c'/\H c'=some (.frz oc (.own 0))/\mO oc (X.env.qual++"<lambda>"))(hbm:s.heap.BuiltinsAt X.mg T)(hcl:closureFor scope X.env=pure clos)(hdef:defaultsOf params X.env=([],[]))(h:∀f H' s' pm c' ctv oc,Inv X pins σ H' s'->s'.heap.get? f=some (W.kla_obj "<lambda>" (X.env.qual++"<lambda>") params body scope clos pm c' ctv)->H' c'=some (.frz oc (.own 0))->mO oc (X.env.qual++"<lambda>")->H' f=none->s.heap.objs.size<=f ->
   (H'=H\/(H c'=none/\c'≠T/\codeAmong pos ps.toList=none/\H'=lg H T ps pos c' oc))->Q (.ref f) s') :
  wpAny (model X.prog X.w) X.A (eval (.Lambda params body scope pos) X.env) Q X.xe s:=by
 have hP:s.heap.get? T=some (W.tabObj ps):=I.hok T _ hT;have hg:s.heap.Ns mainGlobals X.mg:=I.mod.glob.keeps I.bk;refine W.kla_eval hdef ?_;cases hf:codeAmong pos ps.toList with
 | some cv =>obtain⟨c',oc,rfl,hoc,hob⟩:=hcodes cv hf;refine W.kla_makeFunctionHit (mg:=X.mg) hcl I.ok.glob hg hcd C hP ht hf hbm fun ctv h' tk hk hsz=>?_;have hk2:∀(ob:Obj) b o,s.heap.get? b=some o->(h'.push ob).get? b=some o:=fun ob b o e=>MD _ (hk b o e);exact h h'.objs.size H _ _ c' ctv oc (I.un (Un.kept (hk2 _)) (I.hok.kept (hk2 _))) (MZ _ rfl) hoc hob (I.hok.fresh hsz) hsz (.inl rfl)
 | none =>
  have hgP:mainGlobals≠T:=fun z=>by have:=(I.bs _ _ (show X.base.get? mainGlobals=some _ from I.mod.glob.choose_spec.choose_spec.choose_spec.1)).2;rw[z,hT] at this;cases this
  refine W.kla_makeFunction (mg:=X.mg) hcl I.ok.glob hg hcd C hP ht hf hgP hbm fun c' ctv h' tk hx hge hlt hrec htb=>?_;obtain⟨c2,oc,vs,tq,e2,hoc,hdc,hq⟩:=hrec;cases e2;have hn:H c'=none:=I.hok.fresh hge;have nT:∀b,H b=none->b≠T:=fun b n z=>by rw[z,hT] at n;cases n
  have cT:c'≠T:=nT c' hn;have oT:∀b o,H b=some o->(∀qs,o≠.tbl qs)->b≠T:=fun b o e n z=>by rw[z,hT] at e;cases e;exact n _ rfl
  have oC:∀b o,H b=some o->b≠c':=fun b o e z=>by rw[z,hn] at e;cases e
  have hk2:∀(ob:Obj) b o,b≠T->s.heap.get? b=some o->(h'.push ob).get? b=some o:=fun ob b o hb e=>MD _ (hx b o hb e);have same:∀b,b≠T->b≠c'->lg H T ps pos c' oc b=H b:=fun b h1 h2=>(af h2).trans (af h1);have hTb:∀ob:Obj,(h'.push ob).get? T=some (W.tabObj (DH ps pos c')):=fun ob=>MD _ htb;have atT:lg H T ps pos c' oc T=some (.tbl (DH ps pos c')):=(af cT.symm).trans (MN rfl);have lt:∀b o,s.heap.get? b=some o->b≠c':=fun b o e=>M8 (MK (MR e) hge);have un:∀ob:Obj,Un X.fs [] H (lg H T ps pos c' oc) s.heap (h'.push ob):=fun ob =>
   ⟨fun b o e n _ _=>hk2 ob b o (nT b n) e,fun b o e n _ _=>⟨o.slots,hk2 ob b o (nT b n) e⟩,fun b o e n _=>by rw[same b (nT b n) (lt b o e)];exact n,
    fun b o e _=>by
     by_cases hb:b=T
     ·rw[hb];exact⟨_,hTb ob⟩
     ·exact⟨o,hk2 ob b o hb e⟩,
    fun b xs e=>by rw[same b (oT b _ e fun _ z=>nomatch z) (oC b _ e)];exact e,
    fun b o u e=>by rw[same b (oT b _ e fun _ z=>nomatch z) (oC b _ e)];exact e,
    fun b qs e=>by
     by_cases hb:b=T
     ·subst hb;rw[hT] at e;cases e;exact⟨_,atT⟩
     ·exact⟨#[],by rw[same b hb (oC b _ e),e];simp⟩⟩
  have recP:∀ob:Obj,(h'.push ob).get? c'=some oc:=fun ob=>MD _ hoc;have hok:∀ob:Obj,HOk X.prog X.w (lg H T ps pos c' oc) (h'.push ob):=fun ob a o e=>by
   by_cases ha:a=c'
   ·subst ha;have e':some (HO.frz oc (.own 0))=some o:=by rw[<-e];exact(MN rfl).symm
    cases e';exact⟨recP ob,oc,recP ob⟩
   ·by_cases hb:a=T
    ·subst hb;rw[atT] at e;cases e;exact hTb ob
    ·rw[same a hb ha] at e;refine(I.hok a o e).stay (fun b u hq q=>hk2 ob b u ?_ q) (fun b q=>?_) fun b xs q=>?_
     ·rcases hq with rfl|hq
      ·exact hb
      ·exact oT b _ hq fun _ z=>nomatch z
     ·rw[same b (oT b _ q fun _ z=>nomatch z) (oC b _ q)];exact q
     ·rw[same b (oT b _ q fun _ z=>nomatch z) (oC b _ q)];exact q
  have hfr:lg H T ps pos c' oc h'.objs.size=none:=by have hlT:T<h'.objs.size:=MR htb;rw[same _ (OS hlT) (OS hlt)];exact I.hok.fresh (MY hge (NQ hlt))
  exact h h'.objs.size (lg H T ps pos c' oc) _ _ c' ctv oc (I.un (un _) (hok _)) (MZ _ rfl) (MN rfl) ⟨vs,tq,hdc,hq⟩ hfr (MY hge (NQ hlt)) (.inr ⟨hn,cT,hf,rfl⟩)
end L2
namespace FW
open PySem
open PyProof.Rows hiding K st lo ad
set_option autoImplicit false
section
variable {prog:Program}{w:World}{A:Around}{E:Value->Shared->Prop}{s:Shared}{a₀:Array Keyed}{κ:KeyKind}{K:SortKind}
structure SB (K:SortKind)(a₀:Array Keyed)(st:SortSt):Prop where
 pm:(arrOf st).Perm a₀
 kd:kindOf st=K
 fl:failedOf st=none
 pd:pendingOf st=#[]
end
end FW
namespace FW
open PySem L2 HX
set_option genInjectivity true
set_option genCtorIdx true
inductive PV where
 | non|bl (b:Bool)|int (i:Int)|str (x:Str)|tup (xs:List PV)|ref (n:Nat)|rdl (xs:List PV)|fn (a:Nat)
 | gf (n:Str)|clo (a:Nat) (vs:List V) (xs:List PV)
 deriving Inhabited
inductive Cell where
 | lst (xs:List PV)
 | dk (kvs:List (Key × PV))
 | fz (kvs:List (Key × PV))
 | od (kvs:List (PV × PV))
noncomputable abbrev AH:=List Cell
noncomputable abbrev Fr:=List (Option PV)
noncomputable abbrev EK:=PV->AH->Prop
noncomputable abbrev LK:=List PV->AH->Prop
noncomputable abbrev BK:=Bool->AH->Prop
noncomputable abbrev FSp:=List PV->AH->EK->Prop
mutual
noncomputable def PV.bel (k:Nat):PV->Bool
 | .ref n=>decide (n<k)
 | .tup xs=>PV.bels k xs
 | .rdl xs=>PV.bels k xs
 | .non=>true
 | .bl _=>true
 | .int _=>true
 | .str _=>true
 | .fn _=>false
 | .gf _=>false
 | .clo _ _ _=>false
noncomputable def PV.bels (k:Nat):List PV->Bool
 | []=>true
 | x::xs=>x.bel k && PV.bels k xs
end
mutual
noncomputable def PV.bec (k:Nat):PV->Bool
 | .ref n=>decide (n<k)
 | .tup xs=>PV.becs k xs
 | .rdl xs=>PV.becs k xs
 | .non=>true
 | .bl _=>true
 | .int _=>true
 | .str _=>true
 | .fn _=>true
 | .gf _=>true
 | .clo _ _ xs=>PV.becs k xs
noncomputable def PV.becs (k:Nat):List PV->Bool
 | []=>true
 | x::xs=>x.bec k && PV.becs k xs
end
mutual
theorem PV.bel_bec {i j:Nat}(h:i<=j):∀ {v:PV},v.bel i=true->v.bec j=true
 | .non,_=>by rw[PV.bec]
 | .bl _,_=>by rw[PV.bec]
 | .int _,_=>by rw[PV.bec]
 | .str _,_=>by rw[PV.bec]
 | .ref n,z=>by rw[PV.bel] at z;rw[PV.bec];have:=N6 z;exact NF (by omega)
 | .tup xs,z=>by rw[PV.bel] at z;rw[PV.bec];exact PV.bels_becs h z
 | .rdl xs,z=>by rw[PV.bel] at z;rw[PV.bec];exact PV.bels_becs h z
 | .fn _,z=>by rw[PV.bel] at z;cases z
 | .gf _,z=>by rw[PV.bel] at z;cases z
 | .clo _ _ _,z=>by rw[PV.bel] at z;cases z
theorem PV.bels_becs {i j:Nat}(h:i<=j):∀ {vs:List PV},PV.bels i vs=true->PV.becs j vs=true
 | [],_=>by rw[PV.becs]
 | v::vs,z=>by rw[PV.bels,MG] at z;rw[PV.becs,MG];exact⟨PV.bel_bec h z.1,PV.bels_becs h z.2⟩
end
noncomputable def Cell.bec (k:Nat):Cell->Bool
 | .lst xs=>PV.becs k xs
 | .dk kvs=>PV.becs k (kvs.map (·.2))
 | .fz kvs=>PV.becs k (kvs.map (·.2))
 | .od kvs=>PV.becs k (kvs.map (·.1)) && PV.becs k (kvs.map (·.2))
noncomputable def Cell.bel (k:Nat):Cell->Bool
 | .lst xs=>PV.bels k xs
 | .dk kvs=>PV.bels k (kvs.map (·.2))
 | .fz _=>false
 | .od _=>false
mutual
noncomputable def PV.toD:PV->Option PyData
 | .non=>some .none
 | .bl b=>some (.bool b)
 | .int i=>some (.int i)
 | .str x=>some (.str x)
 | .tup xs=>(PV.toDs xs).map .tuple
 | .rdl xs=>(PV.toDs xs).map .list
 | .ref _=>none
 | .fn _=>none
 | .gf _=>none
 | .clo _ _ _=>none
noncomputable def PV.toDs:List PV->Option (List PyData)
 | []=>some []
 | x::xs=>match x.toD,PV.toDs xs with
  | some d,some ds=>some (d::ds)
  | _,_=>none
end
noncomputable def iP (st:AH):PV->Option PyData
 | .ref n=>match st[n]? with
  | some (.lst xs)=>(PV.toDs xs).map .list
  | _=>none
 | v=>v.toD
def eqW (st:AH)(x y:PV)(k:Bool->Prop):Prop :=
 match x,y with
 | .int i,.int j=>k (decide (i=j))
 | .bl a,.bl b=>k (decide (a=b))
 | .str a,.str b=>k (decide (a=b))
 | x,y=>∃d e,iP st x=some d/\iP st y=some e/\SeqAt.shaped d=true/\SeqAt.shaped e=true/\k (PyData.eqv d e)
noncomputable def pq (st:AH):PV->Option String
 | .non=>some "NoneType"
 | .bl _=>some "bool"
 | .int _=>some "int"
 | .str _=>some "str"
 | .tup _=>some "tuple"
 | .rdl _=>some "list"
 | .ref n=>match st[n]? with
  | some (.lst _)=>some "list"
  | some (.dk _)=>some "dict"
  | some (.fz _)=>some "dict"
  | some (.od _)=>some "dict"
  | none=>none
 | .fn _=>none
 | .gf _=>none
 | .clo _ _ _=>none
noncomputable def bp (st:AH):PV->Option (List PV)
 | .rdl xs=>some xs
 | .ref n=>match st[n]? with
  | some (.lst xs)=>some xs
  | _=>none
 | _=>none
noncomputable def b9 (st:AH):PV->Option (List PV)
 | .tup xs=>some xs
 | v=>bp st v
noncomputable def gc:PV->Bool
 | .non=>true
 | _=>false
noncomputable def k6 (k:Bool):PV->Bool
 | .bl b=>b == k
 | _=>false
noncomputable def rg (xs:List PV)(lo hi:Option Int):List PV:=(xs.drop (HT.sIx xs.length 0 lo)).take (HT.sIx xs.length xs.length hi-HT.sIx xs.length 0 lo)
def iiW (f:Int->Int->Prop)(x y:PV):Prop :=
 match x with
 | .int i=>match y with
  | .int j=>f i j
  | _=>False
 | _=>False
def L8 (x y:PV)(st:AH)(Q:EK):Prop :=
 match x with
 | .int i=>match y with
  | .int j=>Q (.int (i+j)) st
  | _=>False
 | .ref n=>match y with
  | .ref k=>∃xs ys,st[n]?=some (.lst xs)/\st[k]?=some (.lst ys)/\xs.length+ys.length<=100000/\Q (.ref st.length) (st++[.lst (xs++ys)])
  | _=>False
 | _=>False
def Lq (x y:PV)(st:AH)(Q:EK):Prop :=
 match x with
 | .int i=>match y with
  | .int j=>CMB i j/\Q (.int (i*j)) st
  | _=>False
 | _=>False
def j7 (op:Operator)(x y:PV)(st:AH)(Q:EK):Prop :=
 match op with
 | .Add=>L8 x y st Q
 | .Sub=>iiW (fun i j=>Q (.int (i-j)) st) x y
 | .Mult=>Lq x y st Q
 | .FloorDiv=>iiW (fun i j=>CBig j/\Q (.int (i/j)) st) x y
 | .Mod=>iiW (fun i j=>0<j/\Q (.int (i % j)) st) x y
 | .Pow=>iiW (fun i j=>D7 i j/\Q (.int (i ^ j.toNat)) st) x y
 | _=>False
noncomputable def bW (kvs:List (Key × PV))(k:Key):Option PV:=(kvs.find? fun kv=>decide (kv.1=k)).map (·.2)
noncomputable def ie (kvs:List (Key × PV))(k:Key)(v:PV):List (Key × PV) :=
 if (kvs.any fun kv=>decide (kv.1=k))=true then kvs.map (fun kv=>if kv.1=k then (kv.1,v) else kv) else kvs++[(k,v)]
noncomputable def tJ (kvs:List (Key × PV))(k:Key):List (Key × PV):=kvs.filter fun kv=>decide (kv.1≠k)
def r_ (x y:PV)(st:AH)(Q:AH->Prop):Prop :=
 match x,y with
 | .ref n,.str z=>∃kvs,st[n]?=some (.dk kvs)/\(bW kvs (.inr z)).isSome=true/\Q (st.set n (.dk (tJ kvs (.inr z))))
 | _,_=>False
noncomputable def kP:Key->PV
 | .inl i=>.int i
 | .inr x=>.str x
inductive DW where
 | keys|values
 deriving DecidableEq
noncomputable def cH:DW->List (Key × PV)->List PV
 | .keys,kvs=>kvs.map fun p=>kP p.1
 | .values,kvs=>kvs.map fun p=>p.2
noncomputable def E9 (ps:List (Str × PV)):List (Key × PV):=ps.foldl (fun d p=>ie d (.inr p.1) p.2) []
def ot (x y:PV):Prop:=x=y/\∃d,x.toD=some d/\SeqAt.shaped d=true
def As (st:AH)(x y:PV):Prop:=ot x y\/(∃n k kvs lvs,x=.ref n/\y=.ref k/\st[n]?=some (.dk kvs)/\st[k]?=some (.dk lvs)/\kvs.length=lvs.length/\∀p∈kvs,∃u,bW lvs p.1=some u/\ot p.2 u)\/∃d,iP st x=some d/\iP st y=some d/\SeqAt.shaped d=true
noncomputable def uk (st:AH):List PV->List PV->Prop
 | [],[]=>True
 | x::xs,y::ys=>As st x y/\uk st xs ys
 | _,_=>False
def pC (st:AH)(x y:PV):Prop:=∃n k kvs lvs,x=.ref n/\y=.ref k/\st[n]?=some (.dk kvs)/\st[k]?=some (.dk lvs)/\(∀p∈kvs,∃d,p.2.toD=some d/\SeqAt.shaped d=true)/\(∀p∈lvs,∃d,p.2.toD=some d/\SeqAt.shaped d=true)/\(kvs.length≠lvs.length\/∃p∈kvs,∀u,bW lvs p.1=some u->∃d d',p.2.toD=some d/\u.toD=some d'/\PyData.eqv d d'=false)
def o8 (st:AH)(x y:PV):Prop:=(∃xs ys,x=.tup xs/\y=.tup ys/\uk st xs ys)\/∃n k,x=.ref n/\y=.ref k/\As st x y
def inR (a:Str)(n:Nat)(st:AH)(k:Bool->Prop):Prop :=
 (∃ns:List Str,st[n]?=some (.lst (ns.map PV.str))/\k (ns.any fun j=>j == a))\/∃kvs,(st[n]?=some (.dk kvs)\/st[n]?=some (.fz kvs))/\k (bW kvs (.inr a)).isSome
def eB (op:CmpOp)(x y:PV)(st:AH)(Q:EK):Prop :=
 match op with
 | .Eq=>eqW st x y fun k=>Q (.bl k) st
 | .NotEq=>eqW st x y fun k=>Q (.bl (!k)) st
 | .Is=>match y with
  | .non=>Q (.bl (gc x)) st
  | .bl k=>Q (.bl (k6 k x)) st
  | _=>False
 | .IsNot=>match y with
  | .non=>Q (.bl (!gc x)) st
  | .bl k=>Q (.bl (!k6 k x)) st
  | _=>False
 | .Lt=>match x,y with
  | .int i,.int j=>Q (.bl (decide (i<j))) st
  | _,_=>False
 | .LtE=>False
 | .Gt=>match x,y with
  | .int i,.int j=>Q (.bl (decide (j<i))) st
  | _,_=>False
 | .GtE=>match x,y with
  | .int i,.int j=>Q (.bl (decide (j<=i))) st
  | _,_=>False
 | .In=>match x,y with
  | .str a,.tup xs=>∃ns:List Str,xs=ns.map PV.str/\Q (.bl (ns.any fun j=>j == a)) st
  | .str a,.ref n=>inR a n st fun k=>Q (.bl k) st
  | _,_=>False
 | .NotIn=>match x,y with
  | .str a,.tup xs=>∃ns:List Str,xs=ns.map PV.str/\Q (.bl (!(ns.any fun j=>j == a))) st
  | .str a,.ref n=>inR a n st fun k=>Q (.bl (!k)) st
  | _,_=>False
def vh (o:Option (Option PV))(f:PV->Prop):Prop :=
 match o with
 | some (some v)=>f v
 | _=>False
theorem i9 (h:vh o f):∃v,o=some (some v)/\f v:=by
 cases o with
 | none=>exact False.elim h
 | some o=>cases o with|none=>exact False.elim h|some v=>exact⟨v,rfl,h⟩
theorem qC {o:Option (Option PV)}{f:PV->Prop}(e:o=some (some v))(h:f v):vh o f:=by subst e;exact h
theorem nX:vh (some (some v)) f=f v:=rfl
def ixI (i:Int)(st:AH)(Q:EK)(x:PV):Prop :=
 match x with
 | .str z=>z.length<=100000/\∃c,atI z.cps.toList i=some c/\Q (.str ⟨#[c]⟩) st
 | x=>∃xs,b9 st x=some xs/\∃v,atI xs i=some v/\Q v st
theorem we (h:ixI i st Q x):(∃z c,x=.str z/\z.length<=100000/\atI z.cps.toList i=some c/\Q (.str ⟨#[c]⟩) st)\/∃xs v,b9 st x=some xs/\atI xs i=some v/\Q v st:=by
 cases x with
 | str z=>exact .inl ⟨z,h.2.choose,rfl,h.1,h.2.choose_spec⟩
 | _=>obtain⟨xs,e,v,e2,q⟩:=h;exact .inr ⟨xs,v,e,e2,q⟩
theorem Dh {Q:EK}(e:b9 st x=some xs)(e2:atI xs i=some v)(h:Q v st):ixI i st Q x:=by cases x with|str z=>cases e|_=>exact⟨xs,e,v,e2,h⟩
def ixD (z:Str)(st:AH)(Q:EK)(x:PV):Prop :=
 match x with
 | .ref n=>∃kvs v,(st[n]?=some (.dk kvs)\/st[n]?=some (.fz kvs))/\bW kvs (.inr z)=some v/\Q v st
 | _=>False
theorem wz (h:ixD z st Q x):∃n kvs v,x=.ref n/\(st[n]?=some (.dk kvs)\/st[n]?=some (.fz kvs))/\bW kvs (.inr z)=some v/\Q v st:=by
 cases x with
 | ref n=>obtain⟨kvs,v,h⟩:=h;exact⟨n,kvs,v,rfl,h⟩
 | _=>exact False.elim h
def ixW (x y:PV)(st:AH)(Q:EK):Prop :=
 match y with
 | .int i=>ixI i st Q x
 | .str z=>ixD z st Q x
 | _=>False
noncomputable def Dx (z:Str)(lo hi:Option Int):Str:=if ((Builtin.Str.strSliceIndices lo hi 1 z.length).length == z.length)=true then z else ⟨((Builtin.Str.strSliceIndices lo hi 1 z.length).filterMap (z.cps[·]?)).toArray⟩
def slW (x:PV)(lo hi:Option Int)(st:AH)(Q:EK):Prop :=
 match x with
 | .str z=>z.length<=100000/\Q (.str (Dx z lo hi)) st
 | .tup xs=>Q (.tup (rg xs lo hi)) st
 | x=>∃xs,bp st x=some xs/\Q (.ref st.length) (st++[.lst (rg xs lo hi)])
def IM (st:AH)(Q:EK)(x:PV):Prop :=
 match x with
 | .str z=>z.length<=100000/\Q (.int z.length) st
 | x=>∃xs,b9 st x=some xs/\Q (.int xs.length) st
theorem tZ (h:IM st Q x):(∃z,x=.str z/\z.length<=100000/\Q (.int z.length) st)\/∃xs,b9 st x=some xs/\Q (.int xs.length) st:=by cases x with|str z=>exact .inl ⟨z,rfl,h⟩|_=>exact .inr h
theorem Bm {Q:EK}(e:b9 st x=some xs)(h:Q (.int xs.length) st):IM st Q x:=by cases x with|str z=>cases e|_=>exact⟨xs,e,h⟩
noncomputable def cQ {α:Type}:List (Option α)->Option (List α)
 | []=>some []
 | some x::r=>(cQ r).map (x::·)
 | none::_=>none
noncomputable def kD:Key->PyData
 | .inl i=>.int i
 | .inr x=>.str x
noncomputable def shX (st:AH):Nat->PV->Option PyData
 | _,.non=>some .none
 | _,.bl c=>some (.bool c)
 | _,.int i=>some (.int i)
 | _,.str x=>some (.str x)
 | n+1,.tup xs=>(cQ (xs.map (shX st n))).map .tuple
 | n+1,.ref k=>match st[k]? with
  | some (.lst xs)=>(cQ (xs.map (shX st n))).map .list
  | some (.dk kvs)=>(cQ (kvs.map fun kv=>shX st n kv.2)).map fun ds=>.dict ((kvs.map fun kv=>kD kv.1).zip ds)
  | some (.od kvs)=>match cQ (kvs.map fun kv=>shX st n kv.1) with
   | some es=>(cQ (kvs.map fun kv=>shX st n kv.2)).map fun ds=>.dict (es.zip ds)
   | none=>none
  | some (.fz _)=>none
  | none=>none
 | 0,.tup _=>none
 | 0,.ref _=>none
 | _,.rdl _=>none
 | _,.fn _=>none
 | _,.gf _=>none
 | _,.clo _ _ _=>none
def sH (st:AH)(Q:EK)(x:PV):Prop :=
 match x with
 | .non=>Q (.str "None") st
 | .bl b=>Q (.str (if b then "True" else "False")) st
 | .int i=>i.natAbs.log2<1920/\Q (.str (toString i)) st
 | .str z=>(reprText z).length<=sizeLine/\Q (.str (reprText z)) st
 | x=>∃d,shX st 9 x=some d/\(d.showable=true/\d.depth<=60/\d.shown.length<=sizeLine)/\Q (.str d.shown) st
inductive B where
 | len|max2|divmod|tuple1|all1|sortD|repr2
 deriving DecidableEq
noncomputable def iy:List PV->Option (List Bool)
 | []=>some []
 | .bl b::r=>(iy r).map (b::·)
 | _::_=>none
def uB (f:PV->Prop)(vs:List PV):Prop :=
 match vs with
 | [x]=>f x
 | _=>False
def HU (f:PV->PV->Prop)(vs:List PV):Prop :=
 match vs with
 | [x,y]=>f x y
 | _=>False
def eT (b:B)(vs:List PV)(st:AH)(Q:EK):Prop :=
 match b with
 | .len=>uB (IM st Q) vs
 | .max2=>HU (iiW fun i j=>Q (.int (if i<j then j else i)) st) vs
 | .divmod=>HU (iiW fun i j=>CBig j/\Q (.tup [.int (i/j),.int (i % j)]) st) vs
 | .tuple1=>uB (fun x=>∃xs,b9 st x=some xs/\Q (.tup xs) st) vs
 | .all1=>uB (fun x=>∃xs bs,bp st x=some xs/\iy xs=some bs/\Q (.bl (bs.all id)) st) vs
 | .sortD=>uB (fun x=>∃n,x=.ref n/\∃kvs,(st[n]?=some (.dk kvs)\/st[n]?=some (.fz kvs))/\∃ss:List Str,kvs.map (·.1)=ss.map Sum.inr/\ss.length<64/\∀ss':List Str,ss'.Perm ss->PyProof.Rows.sortedS ss'=true->Q (.ref st.length) (st++[.lst (ss'.map PV.str)])) vs
 | .repr2=>uB (sH st Q) vs
inductive M where
 | append
 deriving DecidableEq
def rfW (f:Nat->Prop)(x:PV):Prop :=
 match x with
 | .ref n=>f n
 | _=>False
def vi (m:M)(x:PV)(vs:List PV)(st:AH)(Q:EK):Prop :=
 match m with
 | .append=>rfW (fun n=>uB (fun v=>∃xs,st[n]?=some (.lst xs)/\xs.length<100000/\Q .non (st.set n (.lst (xs++[v])))) vs) x
theorem b_ (h:iiW f x y):∃i j,x=.int i/\y=.int j/\f i j:=by
 cases x with
 | int i =>
  cases y with
  | int j=>exact⟨i,j,rfl,rfl,h⟩
  | _=>exact False.elim h
 | _=>exact False.elim h
theorem bD (h:uB f vs):∃x,vs=[x]/\f x:=by
 cases vs with
 | nil=>exact False.elim h
 | cons x t =>
  cases t with
  | nil=>exact⟨x,rfl,h⟩
  | cons _ _=>exact False.elim h
theorem js (h:HU f vs):∃x y,vs=[x,y]/\f x y:=by
 cases vs with
 | nil=>exact False.elim h
 | cons x t =>
  cases t with
  | nil=>exact False.elim h
  | cons y t =>
   cases t with
   | nil=>exact⟨x,y,rfl,h⟩
   | cons _ _=>exact False.elim h
theorem w_ {f:Nat->Prop}(h:rfW f x):∃b,x=.ref b/\f b:=by
 cases x with
 | ref b=>exact⟨b,rfl,h⟩
 | _=>exact False.elim h
def dZ (x:PV)(st:AH)(Q:BK):Prop :=
 match x with
 | .bl b=>Q b st
 | .non=>Q false st
 | .int i=>Q (i != 0) st
 | .str _=>False
 | x=>∃xs,b9 st x=some xs/\Q (!xs.isEmpty) st
def Sub (st st':AH):Prop:=∀i,i<st.length->st'[i]?=st[i]?\/∃c,st'[i]?=some c/\c.bel 0=true
noncomputable def Tmp (st:AH)(Q:EK):EK:=fun v st'=>∃st1 g,st'=st1++g/\st1.length=st.length/\Sub st st1/\v.bel st.length=true/\Q v st1
noncomputable def Ret (st:AH)(Q:EK):EK:=fun v st'=>Q v st'\/Tmp st Q v st'
inductive SM where
 | join
 deriving DecidableEq
def smW (k:SM)(x y:PV)(st:AH)(Q:EK):Prop :=
 match x with
 | .str z=>match k with
  | .join=>∃ss:List Str,bp st y=some (ss.map PV.str)/\JoinOk z ss=true/\Q (.str (Txt.join z ss)) st
 | _=>False
inductive UK where
 | isE
 deriving DecidableEq
def unW (k:UK)(x:PV)(st:AH)(Q:EK):Prop :=
 match k with
 | .isE=>∃xs,bp st x=some xs/\Q (.bl xs.isEmpty) st
set_option genInjectivity false
set_option genCtorIdx false
mutual
inductive E where
 | var (i:Nat)|int (i:Int)|bl (b:Bool)|non|str (x:Str)|gv (x:Str) (v:PV)
 | tup (es:Es)|lst (es:Es)|dct0
 | bin (op:Operator) (a b:E)|not (a:E)
 | cmp (op:CmpOp) (a b:E)
 | bop (isAnd:Bool) (es:Es)
 | ite (c a b:E)
 | ix (a b:E)|sl (a:E) (lo hi:O)
 | call (f:Nat) (es:Es)
 | blt (b:B) (es:Es)
 | met (m:M) (o:E) (es:Es)
 | comp (elt:E) (tg:Tg) (it:It) (ifs:Es) (nt:List Str) (caps:List Nat)
 | tmp (a:E)
 | bad|clr (a:E)
 | pcg (i g:Nat) (n:Str) (es:Es)
 | pcl (i:Nat) (es:Es)|plm (f g:Nat) (a b be:E) (gn:Str) (cap:Nat)|eqd (ne:Bool) (a b:E)|dct2 (k v:E)
 | un (k:UK) (a:E)
inductive Es where
 | nil|cons (e:E) (es:Es)
inductive O where
 | no|yes (e:E)
inductive It where
 | seq (e:E)|range1 (a:E)
inductive Tg where
 | name (i:Nat)|tup (ts:Tgs)|sub (o i:E)
inductive Tgs where
 | nil|cons (t:Tg) (ts:Tgs)
end
noncomputable def Tgs.size:Tgs->Nat
 | .nil=>0
 | .cons _ ts=>ts.size+1
def pS (o i v:PV)(st:AH)(k:AH->Prop):Prop :=
 match o,i with
 | .ref n,.int j=>∃xs,st[n]?=some (.lst xs)/\∃q,ixN xs.length j=some q/\k (st.set n (.lst (xs.set q v)))
 | .ref n,.str z=>∃kvs,st[n]?=some (.dk kvs)/\kvs.length<=1000/\k (st.set n (.dk (ie kvs (.inr z) v)))
 | _,_=>False
noncomputable def ef (chk:AH->Prop)(body:PV->AH->(Option PV->AH->Prop)->Prop):List PV->List PV->AH->LK->Prop
 | [],acc,st,Q=>chk st/\Q acc st
 | x::xs,acc,st,Q=>chk st/\body x st fun o st'=>ef chk body xs (acc++o.toList) st' Q
noncomputable def CJ (st:AH):PV->AH->Prop
 | .ref n=>fun st'=>st'[n]?=st[n]?
 | _=>fun _=>True
noncomputable def cO (lo:Int)(n:Nat):List PV:=(List.range n).map fun (i:Nat)=>PV.int (lo+(i:Int))
noncomputable def GW (g:PV->Bool)(xs:List PV):Nat->Nat->Nat->Nat
 | 0,lo,_=>lo
 | n+1,lo,hi=>if lo<hi then (if g (xs.getD ((lo+hi)/2) .non)=true then GW g xs n ((lo+hi)/2+1) hi else GW g xs n lo ((lo+hi)/2)) else lo
noncomputable def bsr (g:PV->Bool)(xs:List PV):Nat:=GW g xs xs.length 0 xs.length
section
variable (Γ:Nat->FSp)
mutual
noncomputable def wpE:E->Fr->AH->EK->Prop
 | .var i,ρ,st,Q=>vh ρ[i]? fun v=>Q v st
 | .int i,_,st,Q=>Q (.int i) st
 | .bl b,_,st,Q=>Q (.bl b) st
 | .non,_,st,Q=>Q .non st
 | .str x,_,st,Q=>Q (.str x) st
 | .gv _ v,_,st,Q=>Q v st
 | .tup es,ρ,st,Q=>a9 es ρ st fun vs st1=>vs.length<=100000/\Q (.tup vs) st1
 | .lst es,ρ,st,Q=>a9 es ρ st fun vs st1=>vs.length<=100000/\Q (.ref st1.length) (st1++[.lst vs])
 | .dct0,_,st,Q=>Q (.ref st.length) (st++[.dk []])
 | .bin op a b,ρ,st,Q=>wpE a ρ st fun x st1=>wpE b ρ st1 fun y st2=>j7 op x y st2 Q
 | .not a,ρ,st,Q=>wpE a ρ st fun x st1=>∃c,x=.bl c/\Q (.bl (!c)) st1
 | .cmp op a b,ρ,st,Q=>wpE a ρ st fun x st1=>wpE b ρ st1 fun y st2=>eB op x y st2 Q
 | .bop true es,ρ,st,Q=>qJ es ρ st Q
 | .bop false es,ρ,st,Q=>pU es ρ st Q
 | .ite c a b,ρ,st,Q=>wpT c ρ st fun k st1=>if k=true then wpE a ρ st1 Q else wpE b ρ st1 Q
 | .ix a b,ρ,st,Q=>wpE a ρ st fun x st1=>wpE b ρ st1 fun y st2=>ixW x y st2 Q
 | .sl a lo hi,ρ,st,Q=>wpE a ρ st fun x st1=>wpO lo ρ st1 fun l st2=>wpO hi ρ st2 fun h st3=>slW x l h st3 Q
 | .call f es,ρ,st,Q=>a9 es ρ st fun vs st1=>Γ f vs st1 Q
 | .blt b es,ρ,st,Q=>a9 es ρ st fun vs st1=>eT b vs st1 Q
 | .met m o es,ρ,st,Q=>wpE o ρ st fun x st1=>(∃xs,bp st1 x=some xs)/\a9 es ρ st1 fun vs st2=>vi m x vs st2 Q
 | .comp elt tg it ifs nt caps,ρ,st,Q=>iJ it ρ st fun xs chk st1 =>
   xs.length<100000/\ef chk (fun x st2 k=>bt tg x (nt.map (fun _=>none)++caps.map fun i=>(ρ[i]?).join) st2 fun ρ' st3=>gu ifs ρ' st3 fun c st4 =>
    if c=true then wpE elt ρ' st4 fun v st5=>k (some v) st5 else k none st4) xs [] st1 fun vs st2=>Q (.ref st2.length) (st2++[.lst vs])
 | .tmp a,ρ,st,Q=>wpE a ρ st (Tmp st Q)
 | .bad,_,_,_=>False
 | .clr a,ρ,st,Q=>wpE a ρ st fun x st1=>∃n,x=.ref n/\∃kvs,st1[n]?=some (.dk kvs)/\Q .non (st1.set n (.dk []))
 | .pcg i g n es,ρ,st,Q=>ρ[i]?=some (some (.gf n))/\a9 es ρ st fun vs st1=>Γ g vs st1 Q
 | .pcl i es,ρ,st,Q=>∃a us cs,ρ[i]?=some (some (.clo a us cs))/\a9 es ρ st fun vs st1=>Γ 1000 (.clo a us cs::vs) st1 Q
 | .plm f _ a b _ gn cap,ρ,st,Q=>wpE a ρ st fun x st1=>wpE b ρ st1 fun y st2=>∃c,ρ[cap]?=some (some c)/\∀l us,Γ f [x,y,.clo l us [c],.gf gn] st2 Q
 | .dct2 k v,ρ,st,Q=>wpE k ρ st fun x st1=>∃z,x=.str z/\wpE v ρ st1 fun y st2=>Q (.ref st2.length) (st2++[.dk [(.inr z,y)]])
 | .eqd ne a b,ρ,st,Q=>wpE a ρ st fun x st1=>wpE b ρ st1 fun y st2=>(o8 st2 x y/\Q (.bl (!ne)) st2)\/(pC st2 x y/\Q (.bl ne) st2)
 | .un k a,ρ,st,Q=>wpE a ρ st fun x st1=>unW k x st1 Q
noncomputable def a9:Es->Fr->AH->LK->Prop
 | .nil,_,st,Q=>Q [] st
 | .cons e es,ρ,st,Q=>wpE e ρ st fun x st1=>a9 es ρ st1 fun xs st2=>Q (x::xs) st2
noncomputable def wpO:O->Fr->AH->(Option Int->AH->Prop)->Prop
 | .no,_,st,Q=>Q none st
 | .yes e,ρ,st,Q=>wpE e ρ st fun x st1=>∃i,x=.int i/\Q (some i) st1
noncomputable def wpT:E->Fr->AH->BK->Prop
 | .bop true es,ρ,st,Q=>gu es ρ st Q
 | .bop false es,ρ,st,Q=>qY es ρ st Q
 | .not a,ρ,st,Q=>wpT a ρ st fun c st1=>Q (!c) st1
 | .cmp op a b,ρ,st,Q=>wpE a ρ st fun x st1=>wpE b ρ st1 fun y st2=>eB op x y st2 fun v st3=>∃c,v=.bl c/\Q c st3
 | .var i,ρ,st,Q=>vh ρ[i]? fun v=>dZ v st Q
 | .call f es,ρ,st,Q=>a9 es ρ st fun vs st1=>Γ f vs st1 fun v st2=>dZ v st2 Q
 | .blt b es,ρ,st,Q=>a9 es ρ st fun vs st1=>eT b vs st1 fun v st2=>dZ v st2 Q
 | .tmp a,ρ,st,Q=>wpE a ρ st (Tmp st fun v st1=>dZ v st1 Q)
 | .ix a b,ρ,st,Q=>wpE a ρ st fun x st1=>wpE b ρ st1 fun y st2=>ixW x y st2 fun v st3=>dZ v st3 Q
 | .pcg i g n es,ρ,st,Q=>ρ[i]?=some (some (.gf n))/\a9 es ρ st fun vs st1=>Γ g vs st1 fun v st2=>dZ v st2 Q
 | .eqd ne a b,ρ,st,Q=>wpE a ρ st fun x st1=>wpE b ρ st1 fun y st2=>(o8 st2 x y/\Q (!ne) st2)\/(pC st2 x y/\Q ne st2)
 | .un k a,ρ,st,Q=>wpE a ρ st fun x st1=>unW k x st1 fun v st2=>∃c,v=.bl c/\Q c st2
 | _,_,_,_=>False
noncomputable def qJ:Es->Fr->AH->EK->Prop
 | .nil,_,_,_=>False
 | .cons e .nil,ρ,st,Q=>wpE e ρ st Q
 | .cons e es,ρ,st,Q=>wpE e ρ st fun x st1=>∃c,x=.bl c/\if c=true then qJ es ρ st1 Q else Q (.bl false) st1
noncomputable def pU:Es->Fr->AH->EK->Prop
 | .nil,_,_,_=>False
 | .cons e .nil,ρ,st,Q=>wpE e ρ st Q
 | .cons e es,ρ,st,Q=>wpE e ρ st fun x st1=>∃c,x=.bl c/\if c=true then Q (.bl true) st1 else pU es ρ st1 Q
noncomputable def gu:Es->Fr->AH->BK->Prop
 | .nil,_,st,Q=>Q true st
 | .cons e .nil,ρ,st,Q=>wpT e ρ st Q
 | .cons e es,ρ,st,Q=>wpT e ρ st fun c st1=>if c=true then gu es ρ st1 Q else Q false st1
noncomputable def qY:Es->Fr->AH->BK->Prop
 | .nil,_,st,Q=>Q false st
 | .cons e .nil,ρ,st,Q=>wpT e ρ st Q
 | .cons e es,ρ,st,Q=>wpT e ρ st fun c st1=>if c=true then Q true st1 else qY es ρ st1 Q
noncomputable def iJ:It->Fr->AH->(List PV->(AH->Prop)->AH->Prop)->Prop
 | .seq e,ρ,st,Q=>wpE e ρ st fun x st1=>∃xs,b9 st1 x=some xs/\Q xs (CJ st1 x) st1
 | .range1 a,ρ,st,Q=>wpE a ρ st fun x st1=>∃j,x=.int j/\-(2 ^ 62)<=j/\j<2 ^ 62/\Q (cO 0 j.toNat) (fun _=>True) st1
noncomputable def bt:Tg->PV->Fr->AH->(Fr->AH->Prop)->Prop
 | .name i,v,ρ,st,Q=>Q (ρ.set i (some v)) st
 | .tup ts,v,ρ,st,Q=>∃xs,v=.tup xs/\xs.length=ts.size/\gy ts xs ρ st Q
 | .sub o i,v,ρ,st,Q=>wpE o ρ st fun x st1=>wpE i ρ st1 fun y st2=>pS x y v st2 fun st3=>Q ρ st3
noncomputable def gy:Tgs->List PV->Fr->AH->(Fr->AH->Prop)->Prop
 | .nil,vs,ρ,st,Q=>vs=[]/\Q ρ st
 | .cons t ts,vs,ρ,st,Q=>∃v r,vs=v::r/\bt t v ρ st fun ρ' st'=>gy ts r ρ' st' Q
end
end
mutual
inductive S where
 | set (t:Tg) (e:E)|par (i j:Nat) (a b:E)|aug (i:Nat) (op:Operator) (e:E)|expr (e:E)|ret (e:E)|retN
 | ifS (c:E) (a b:Ss)|whileS (c:E) (b:Ss)|forS (t:Tg) (it:It) (b:Ss)|pass|brk|cont|bad|set2 (i j:Nat) (e:E)|del (a b:E)|forK (t:Tg) (wk:DW) (e:E) (b:Ss)
inductive Ss where
 | nil|cons (s:S) (ss:Ss)
end
structure aC where
 nx:Fr->AH->Prop
 rt:EK
 bk:Fr->AH->Prop:=fun _ _=>False
 ct:Fr->AH->Prop:=fun _ _=>False
set_option genInjectivity true
set_option genCtorIdx true
noncomputable def fzD (n:Nat)(kvs:List (Key × PV))(D:aC):aC:={ nx:=fun ρ st=>st[n]?=some (.fz kvs)/\D.nx ρ (st.set n (.dk kvs)),rt:=fun v st=>st[n]?=some (.fz kvs)/\D.rt v (st.set n (.dk kvs)) }
noncomputable def gk (chk:AH->Prop)(body:PV->Fr->AH->aC->Prop)(D:aC):List PV->Fr->AH->Prop
 | [],ρ,st=>chk st/\D.nx ρ st
 | x::xs,ρ,st=>chk st/\body x ρ st { nx:=gk chk body D xs,ct:=gk chk body D xs,bk:=D.nx,rt:=D.rt }
noncomputable def dS (c:Fr->AH->BK->Prop)(body:Fr->AH->aC->Prop)(D:aC):Nat->Fr->AH->Prop
 | 0,_,_=>False
 | n+1,ρ,st=>c ρ st fun k st1=>if k=true then body ρ st1 { nx:=dS c body D n,ct:=dS c body D n,bk:=D.nx,rt:=D.rt } else D.nx ρ st1
def nE (op:Operator)(x y:PV)(st:AH)(Q:EK):Prop :=
 match op,x,y with
 | .Add,.int i,.int j=>Q (.int (i+j)) st
 | .Sub,.int i,.int j=>Q (.int (i-j)) st
 | .Add,.ref n,.ref k=>∃xs ys,st[n]?=some (.lst xs)/\st[k]?=some (.lst ys)/\xs.length+ys.length<=100000/\Q (.ref n) (st.set n (.lst (xs++ys)))
 | _,_,_=>False
section
variable (Γ:Nat->FSp)
mutual
noncomputable def wpS:S->Fr->AH->aC->Prop
 | .set t e,ρ,st,D=>wpE Γ e ρ st fun v st1=>bt Γ t v ρ st1 D.nx
 | .par i j a b,ρ,st,D=>wpE Γ a ρ st fun x st1=>wpE Γ b ρ st1 fun y st2=>D.nx ((ρ.set i (some x)).set j (some y)) st2
 | .aug i op e,ρ,st,D=>∃x,ρ[i]?=some (some x)/\wpE Γ e ρ st fun y st1=>nE op x y st1 fun z st2=>D.nx (ρ.set i (some z)) st2
 | .expr e,ρ,st,D=>wpE Γ e ρ st fun _ st1=>D.nx ρ st1
 | .ret e,ρ,st,D=>wpE Γ e ρ st D.rt
 | .retN,_,st,D=>D.rt .non st
 | .ifS c a b,ρ,st,D=>wpT Γ c ρ st fun k st1=>if k=true then az a ρ st1 D else az b ρ st1 D
 | .whileS c b,ρ,st,D=>∃n,dS (wpT Γ c) (az b) D n ρ st
 | .forS t it b,ρ,st,D=>iJ Γ it ρ st fun xs chk st1=>gk chk (fun x ρ' st' D'=>bt Γ t x ρ' st' fun ρ2 st2=>az b ρ2 st2 D') D xs ρ st1
 | .pass,ρ,st,D=>D.nx ρ st
 | .del a b,ρ,st,D=>wpE Γ a ρ st fun x st1=>wpE Γ b ρ st1 fun y st2=>r_ x y st2 fun st3=>D.nx ρ st3
 | .brk,ρ,st,D=>D.bk ρ st
 | .cont,ρ,st,D=>D.ct ρ st
 | .bad,_,_,_=>False
 | .forK t wk e b,ρ,st,D=>wpE Γ e ρ st fun x st1=>∃n,x=.ref n/\∃kvs,st1[n]?=some (.dk kvs)/\gk (fun _=>True) (fun x ρ' st' D'=>bt Γ t x ρ' st' fun ρ2 st2=>az b ρ2 st2 D') (fzD n kvs D) (cH wk kvs) ρ (st1.set n (.fz kvs))
 | .set2 i j e,ρ,st,D=>wpE Γ e ρ st fun v st1=>D.nx ((ρ.set i (some v)).set j (some v)) st1
noncomputable def az:Ss->Fr->AH->aC->Prop
 | .nil,ρ,st,D=>D.nx ρ st
 | .cons s ss,ρ,st,D=>wpS s ρ st { D with nx:=fun ρ' st'=>az ss ρ' st' D }
end
end
section
variable {Γ:Nat->FSp}{ρ:Fr}{st:AH}{Q:EK}{D:aC}{a b c:E}{es:Es}
theorem zg:az Γ .nil ρ st D=D.nx ρ st:=rfl
theorem zh:az Γ (.cons s .nil) ρ st D=wpS Γ s ρ st D:=rfl
theorem Ay:wpS Γ (.set t a) ρ st D=wpE Γ a ρ st fun v st1=>bt Γ t v ρ st1 D.nx:=rfl
theorem EZ:wpS Γ (.par i j a b) ρ st D=wpE Γ a ρ st fun x st1=>wpE Γ b ρ st1 fun y st2=>D.nx ((ρ.set i (some x)).set j (some y)) st2:=rfl
theorem Fx:wpS Γ (.aug i op a) ρ st D=∃x,ρ[i]?=some (some x)/\wpE Γ a ρ st fun y st1=>nE op x y st1 fun z st2=>D.nx (ρ.set i (some z)) st2:=rfl
theorem BE:wpS Γ (.expr a) ρ st D=wpE Γ a ρ st fun _ st1=>D.nx ρ st1:=rfl
theorem Fc:wpS Γ (.ret a) ρ st D=wpE Γ a ρ st fun v st1=>D.rt v st1:=rfl
theorem zP:wpS Γ .retN ρ st D=D.rt .non st:=rfl
theorem Jz:wpS Γ (.ifS c x y) ρ st D=wpT Γ c ρ st fun k st1=>if k=true then az Γ x ρ st1 D else az Γ y ρ st1 D:=rfl
theorem Gh:wpS Γ (.del a b) ρ st D=wpE Γ a ρ st fun x st1=>wpE Γ b ρ st1 fun y st2=>r_ x y st2 fun st3=>D.nx ρ st3:=rfl
theorem GC {Q:AH->Prop}:r_ (.ref n) (.str z) st Q=∃kvs,st[n]?=some (.dk kvs)/\(bW kvs (.inr z)).isSome=true/\Q (st.set n (.dk (tJ kvs (.inr z)))):=rfl
theorem Ar:wpS Γ .pass ρ st D=D.nx ρ st:=rfl
theorem zG:wpS Γ (.set2 i j a) ρ st D=wpE Γ a ρ st fun v st1=>D.nx ((ρ.set i (some v)).set j (some v)) st1:=rfl
theorem F3:wpS Γ .brk ρ st D=D.bk ρ st:=rfl
theorem BZ:wpS Γ .cont ρ st D=D.ct ρ st:=rfl
theorem EX:wpE Γ (.var i) ρ st Q=vh ρ[i]? fun v=>Q v st:=rfl
theorem FH:wpE Γ (.int i) ρ st Q=Q (.int i) st:=rfl
theorem KB:wpE Γ (.bl i) ρ st Q=Q (.bl i) st:=rfl
theorem Gb:wpE Γ .non ρ st Q=Q .non st:=rfl
theorem E4:wpE Γ (.str i) ρ st Q=Q (.str i) st:=rfl
theorem KJ:wpE Γ (.gv x v) ρ st Q=Q v st:=rfl
theorem Fi:wpE Γ (.tup es) ρ st Q=a9 Γ es ρ st fun vs st1=>vs.length<=100000/\Q (.tup vs) st1:=rfl
theorem Gu:wpE Γ (.lst es) ρ st Q=a9 Γ es ρ st fun vs st1=>vs.length<=100000/\Q (.ref st1.length) (st1++[.lst vs]):=rfl
theorem B4:wpE Γ .dct0 ρ st Q=Q (.ref st.length) (st++[.dk []]):=rfl
theorem Gk:wpE Γ (.bin op a b) ρ st Q=wpE Γ a ρ st fun x st1=>wpE Γ b ρ st1 fun y st2=>j7 op x y st2 Q:=rfl
theorem Gx:wpE Γ (.not a) ρ st Q=wpE Γ a ρ st fun x st1=>∃c,x=.bl c/\Q (.bl (!c)) st1:=rfl
theorem FU:wpE Γ (.cmp op a b) ρ st Q=wpE Γ a ρ st fun x st1=>wpE Γ b ρ st1 fun y st2=>eB op x y st2 Q:=rfl
theorem FD:wpE Γ (.bop true es) ρ st Q=qJ Γ es ρ st Q:=rfl
theorem KC:wpE Γ (.bop false es) ρ st Q=pU Γ es ρ st Q:=rfl
theorem F1:wpE Γ (.ite c a b) ρ st Q=wpT Γ c ρ st fun k st1=>if k=true then wpE Γ a ρ st1 Q else wpE Γ b ρ st1 Q:=rfl
theorem KY:wpE Γ (.ix a b) ρ st Q=wpE Γ a ρ st fun x st1=>wpE Γ b ρ st1 fun y st2=>ixW x y st2 Q:=rfl
theorem JF:wpE Γ (.sl a lo hi) ρ st Q=wpE Γ a ρ st fun x st1=>wpO Γ lo ρ st1 fun l st2=>wpO Γ hi ρ st2 fun h st3=>slW x l h st3 Q:=rfl
theorem AS:wpE Γ (.call f es) ρ st Q=a9 Γ es ρ st fun vs st1=>Γ f vs st1 Q:=rfl
theorem GE:wpE Γ (.blt f es) ρ st Q=a9 Γ es ρ st fun vs st1=>eT f vs st1 Q:=rfl
theorem FT:wpE Γ (.met m a es) ρ st Q=wpE Γ a ρ st fun x st1=>(∃xs,bp st1 x=some xs)/\a9 Γ es ρ st1 fun vs st2=>vi m x vs st2 Q:=rfl
theorem Gc:wpE Γ (.clr a) ρ st Q=wpE Γ a ρ st fun x st1=>∃n,x=.ref n/\∃kvs,st1[n]?=some (.dk kvs)/\Q .non (st1.set n (.dk [])):=rfl
theorem EW:wpE Γ (.pcg i g n es) ρ st Q=(ρ[i]?=some (some (.gf n))/\a9 Γ es ρ st fun vs st1=>Γ g vs st1 Q):=rfl
theorem FN:wpE Γ (.pcl i es) ρ st Q=∃l us cs,ρ[i]?=some (some (.clo l us cs))/\a9 Γ es ρ st fun vs st1=>Γ 1000 (.clo l us cs::vs) st1 Q:=rfl
theorem E8:wpE Γ (.plm f g a b c gn cap) ρ st Q=wpE Γ a ρ st fun x st1=>wpE Γ b ρ st1 fun y st2=>∃v,ρ[cap]?=some (some v)/\∀l us,Γ f [x,y,.clo l us [v],.gf gn] st2 Q:=rfl
theorem AO:wpE Γ (.dct2 a b) ρ st Q=wpE Γ a ρ st fun x st1=>∃z,x=.str z/\wpE Γ b ρ st1 fun y st2=>Q (.ref st2.length) (st2++[.dk [(.inr z,y)]]):=rfl
theorem Gy:wpE Γ (.eqd ne a b) ρ st Q=wpE Γ a ρ st fun x st1=>wpE Γ b ρ st1 fun y st2=>(o8 st2 x y/\Q (.bl (!ne)) st2)\/(pC st2 x y/\Q (.bl ne) st2):=rfl
theorem KP:wpE Γ (.un k a) ρ st Q=wpE Γ a ρ st fun x st1=>unW k x st1 Q:=rfl
theorem Gz:wpE Γ (.tmp a) ρ st Q=wpE Γ a ρ st fun v st1=>Tmp st Q v st1:=rfl
variable {LQ:LK}{BQ:BK}{e e2:E}{i:Nat}{v:PV}{FQ:Fr->AH->Prop}{IQ:List PV->(AH->Prop)->AH->Prop}
theorem zk:a9 Γ .nil ρ st LQ=LQ [] st:=rfl
theorem xt:a9 Γ (.cons e es) ρ st LQ=wpE Γ e ρ st fun x st1=>a9 Γ es ρ st1 fun xs st2=>LQ (x::xs) st2:=rfl
theorem JH:wpO Γ .no ρ st OQ=OQ none st:=rfl
theorem Fo:wpO Γ (.yes e) ρ st OQ=wpE Γ e ρ st fun x st1=>∃i,x=.int i/\OQ (some i) st1:=rfl
theorem F6:wpT Γ (.bop true es) ρ st BQ=gu Γ es ρ st BQ:=rfl
theorem JI:wpT Γ (.bop false es) ρ st BQ=qY Γ es ρ st BQ:=rfl
theorem EO:wpT Γ (.not a) ρ st BQ=wpT Γ a ρ st fun c st1=>BQ (!c) st1:=rfl
theorem FP:wpT Γ (.cmp op a b) ρ st BQ=wpE Γ a ρ st fun x st1=>wpE Γ b ρ st1 fun y st2=>eB op x y st2 fun v st3=>∃c,v=.bl c/\BQ c st3:=rfl
theorem Ft:wpT Γ (.var i) ρ st BQ=vh ρ[i]? fun v=>dZ v st BQ:=rfl
theorem Cp:wpT Γ (.call f es) ρ st BQ=a9 Γ es ρ st fun vs st1=>Γ f vs st1 fun v st2=>dZ v st2 BQ:=rfl
theorem Fw:wpT Γ (.blt f es) ρ st BQ=a9 Γ es ρ st fun vs st1=>eT f vs st1 fun v st2=>dZ v st2 BQ:=rfl
theorem Fb:wpT Γ (.eqd ne a b) ρ st BQ=wpE Γ a ρ st fun x st1=>wpE Γ b ρ st1 fun y st2=>(o8 st2 x y/\BQ (!ne) st2)\/(pC st2 x y/\BQ ne st2):=rfl
theorem K4:wpT Γ (.un k a) ρ st BQ=wpE Γ a ρ st fun x st1=>unW k x st1 fun v st2=>∃c,v=.bl c/\BQ c st2:=rfl
theorem EE:wpT Γ (.tmp a) ρ st BQ=wpE Γ a ρ st fun v st1=>Tmp st (fun v st1=>dZ v st1 BQ) v st1:=rfl
theorem GD:wpT Γ (.pcg i g n es) ρ st BQ=(ρ[i]?=some (some (.gf n))/\a9 Γ es ρ st fun vs st1=>Γ g vs st1 fun v st2=>dZ v st2 BQ):=rfl
theorem Ji:wpT Γ (.ix a b) ρ st BQ=wpE Γ a ρ st fun x st1=>wpE Γ b ρ st1 fun y st2=>ixW x y st2 fun v st3=>dZ v st3 BQ:=rfl
theorem Cj:qJ Γ (.cons e .nil) ρ st Q=wpE Γ e ρ st Q:=rfl
theorem xA:qJ Γ (.cons e (.cons e2 es)) ρ st Q=wpE Γ e ρ st fun x st1=>∃c,x=.bl c/\if c=true then qJ Γ (.cons e2 es) ρ st1 Q else Q (.bl false) st1:=rfl
theorem B_:pU Γ (.cons e .nil) ρ st Q=wpE Γ e ρ st Q:=rfl
theorem wK:pU Γ (.cons e (.cons e2 es)) ρ st Q=wpE Γ e ρ st fun x st1=>∃c,x=.bl c/\if c=true then Q (.bl true) st1 else pU Γ (.cons e2 es) ρ st1 Q:=rfl
theorem uJ:gu Γ .nil ρ st BQ=BQ true st:=rfl
theorem zT:gu Γ (.cons e .nil) ρ st BQ=wpT Γ e ρ st BQ:=rfl
theorem wD:gu Γ (.cons e (.cons e2 es)) ρ st BQ=wpT Γ e ρ st fun c st1=>if c=true then gu Γ (.cons e2 es) ρ st1 BQ else BQ false st1:=rfl
theorem A9:qY Γ (.cons e .nil) ρ st BQ=wpT Γ e ρ st BQ:=rfl
theorem vN:qY Γ (.cons e (.cons e2 es)) ρ st BQ=wpT Γ e ρ st fun c st1=>if c=true then BQ true st1 else qY Γ (.cons e2 es) ρ st1 BQ:=rfl
theorem Cs:iJ Γ (.seq e) ρ st IQ=wpE Γ e ρ st fun x st1=>∃xs,b9 st1 x=some xs/\IQ xs (CJ st1 x) st1:=rfl
theorem EM:iJ Γ (.range1 a) ρ st IQ=wpE Γ a ρ st fun x st1=>∃j,x=.int j/\-(2 ^ 62)<=j/\j<2 ^ 62/\IQ (cO 0 j.toNat) (fun _=>True) st1:=rfl
theorem eP:bt Γ (.name i) v ρ st FQ=FQ (ρ.set i (some v)) st:=rfl
theorem lZ {ts:Tgs}:bt Γ (.tup ts) v ρ st FQ=∃xs,v=.tup xs/\xs.length=ts.size/\gy Γ ts xs ρ st FQ:=rfl
theorem lT:bt Γ (.sub a b) v ρ st FQ=wpE Γ a ρ st fun x st1=>wpE Γ b ρ st1 fun y st2=>pS x y v st2 fun st3=>FQ ρ st3:=rfl
theorem xC:gy Γ .nil vs ρ st FQ=(vs=[]/\FQ ρ st):=rfl
theorem rL:gy Γ (.cons t ts) vs ρ st FQ=∃v r,vs=v::r/\bt Γ t v ρ st fun ρ' st'=>gy Γ ts r ρ' st' FQ:=rfl
theorem zH:Tgs.size .nil=0:=id rfl
theorem xi {ts:Tgs}:Tgs.size (.cons t ts)=ts.size+1:=id rfl
end
end FW
namespace FW
open PySem L2 HX
theorem sS {k k':Bool->Prop}(h:∀b,k b->k' b)(q:eqW st x y k):eqW st x y k':=by
 unfold eqW at q |-
 split at q
 ·exact h _ q
 ·exact h _ q
 ·exact h _ q
 ·obtain⟨d,e,h1,h2,h3,h4,q⟩:=q;exact⟨d,e,h1,h2,h3,h4,h _ q⟩
theorem oM {st:AH}{Q':EK}(h:∀v st,Q v st->Q' v st)(q:j7 op x y st Q):j7 op x y st Q':=by
 cases op with
 | Add =>
  cases x with
  | int i =>
   cases y with
   | int j=>exact h _ _ q
   | _=>exact False.elim q
  | ref n =>
   cases y with
   | ref k=>obtain⟨xs,ys,h1,h2,h3,q⟩:=q;exact⟨xs,ys,h1,h2,h3,h _ _ q⟩
   | _=>exact False.elim q
  | _=>exact False.elim q
 | Mult =>
  cases x with
  | int i =>
   cases y with
   | int j=>exact⟨q.1,h _ _ q.2⟩
   | _=>exact False.elim q
  | _=>exact False.elim q
 | Sub=>obtain⟨i,j,rfl,rfl,q⟩:=b_ q;exact h _ _ q
 | FloorDiv=>obtain⟨i,j,rfl,rfl,q⟩:=b_ q;exact⟨q.1,h _ _ q.2⟩
 | Mod=>obtain⟨i,j,rfl,rfl,q⟩:=b_ q;exact⟨q.1,h _ _ q.2⟩
 | Pow=>obtain⟨i,j,rfl,rfl,q⟩:=b_ q;exact⟨q.1,h _ _ q.2⟩
 | _=>exact False.elim q
theorem sg {k k':Bool->Prop}(h:∀b,k b->k' b)(q:inR a n st k):inR a n st k':=by
 rcases q with⟨ns,e,q⟩|⟨kvs,e,q⟩
 ·exact .inl ⟨ns,e,h _ q⟩
 ·exact .inr ⟨kvs,e,h _ q⟩
theorem gL {st:AH}{Q':EK}(h:∀v st,Q v st->Q' v st)(q:eB op x y st Q):eB op x y st Q':=by
 unfold eB at q |-
 split at q
 ·exact sS (fun _=>h _ _) q
 ·exact sS (fun _=>h _ _) q
 ·split at q <;> first|exact h _ _ q|exact q
 ·split at q <;> first|exact h _ _ q|exact q
 ·split at q <;> first|exact h _ _ q|exact q
 ·exact q
 ·split at q <;> first|exact h _ _ q|exact q
 ·split at q <;> first|exact h _ _ q|exact q
 ·split at q <;> first|exact h _ _ q|(obtain⟨ns,e,q⟩:=q;exact⟨ns,e,h _ _ q⟩)|exact⟨q.1,h _ _ q.2⟩|exact sg (fun _=>h _ _) q|exact q
 ·split at q <;> first|exact h _ _ q|(obtain⟨ns,e,q⟩:=q;exact⟨ns,e,h _ _ q⟩)|exact sg (fun _=>h _ _) q|exact q
theorem i3 {st:AH}{Q':EK}(h:∀v st,Q v st->Q' v st)(q:ixW x y st Q):ixW x y st Q':=by
 cases y with
 | int i =>
  rcases we q with⟨z,c,rfl,h1,h2,q⟩|⟨xs,v,h1,h2,q⟩
  ·exact⟨h1,c,h2,h _ _ q⟩
  ·exact Dh h1 h2 (h _ _ q)
 | str z=>obtain⟨n,kvs,v,rfl,h1,h2,q⟩:=wz q;exact⟨kvs,v,h1,h2,h _ _ q⟩
 | _=>exact q
theorem rX {st:AH}{Q':EK}(h:∀v st,Q v st->Q' v st)(q:slW x lo hi st Q):slW x lo hi st Q':=by
 cases x with
 | tup xs=>exact h _ _ q
 | str z=>exact⟨q.1,h _ _ q.2⟩
 | _=>obtain⟨xs,e,q⟩:=q;exact⟨xs,e,h _ _ q⟩
theorem uc {st:AH}{Q':EK}(h:∀v st,Q v st->Q' v st)(q:unW k x st Q):unW k x st Q':=by
 cases k with
 | isE=>obtain⟨xs,h1,q⟩:=q;exact⟨xs,h1,h _ _ q⟩
theorem vn {st:AH}{Q':EK}(h:∀v st,Q v st->Q' v st)(q:sH st Q x):sH st Q' x:=by
 cases x with
 | non=>exact h _ _ q
 | bl b=>exact h _ _ q
 | int i=>exact⟨q.1,h _ _ q.2⟩
 | str z=>exact⟨q.1,h _ _ q.2⟩
 | _=>obtain⟨d,h1,h2,q⟩:=q;exact⟨d,h1,h2,h _ _ q⟩
theorem g_ {st:AH}{Q':EK}(h:∀v st,Q v st->Q' v st)(q:eT b vs st Q):eT b vs st Q':=by
 cases b with
 | len =>
  obtain⟨x,rfl,q⟩:=bD q;rcases tZ q with⟨z,rfl,h1,q⟩|⟨xs,e,q⟩
  ·exact⟨h1,h _ _ q⟩
  ·exact Bm e (h _ _ q)
 | max2=>obtain⟨x,y,rfl,q⟩:=js q;obtain⟨i,j,rfl,rfl,q⟩:=b_ q;exact h _ _ q
 | divmod=>obtain⟨x,y,rfl,q⟩:=js q;obtain⟨i,j,rfl,rfl,q⟩:=b_ q;exact⟨q.1,h _ _ q.2⟩
 | tuple1=>obtain⟨x,rfl,xs,h1,q⟩:=bD q;exact⟨xs,h1,h _ _ q⟩
 | repr2=>obtain⟨x,rfl,q⟩:=bD q;exact vn h q
 | all1=>obtain⟨x,rfl,xs,bs,h1,h2,q⟩:=bD q;exact⟨xs,bs,h1,h2,h _ _ q⟩
 | sortD=>obtain⟨x,rfl,n,e,kvs,h1,ss,h2,h3,q⟩:=bD q;exact⟨n,e,kvs,h1,ss,h2,h3,fun z p s=>h _ _ (q z p s)⟩
theorem gK {st:AH}{Q':EK}(h:∀v st,Q v st->Q' v st)(q:vi m x vs st Q):vi m x vs st Q':=by
 cases m with
 | append=>obtain⟨n,rfl,q⟩:=w_ q;obtain⟨v,rfl,xs,h1,h2,q⟩:=bD q;exact⟨xs,h1,h2,h _ _ q⟩
theorem a_ {st:AH}{Q':BK}(h:∀v st,Q v st->Q' v st)(q:dZ x st Q):dZ x st Q':=by
 unfold dZ at q |-
 split at q <;> first
  | exact h _ _ q
  | exact q.elim
  | (obtain⟨xs,h1,q⟩:=q;exact⟨xs,h1,h _ _ q⟩)
theorem oA {st:AH}{k k':AH->Prop}(h:∀st,k st->k' st)(q:pS o i v st k):pS o i v st k':=by
 unfold pS at q |-
 split at q
 ·obtain⟨xs,h1,j,h2,q⟩:=q;exact⟨xs,h1,j,h2,h _ q⟩
 ·obtain⟨xs,h1,h2,q⟩:=q;exact⟨xs,h1,h2,h _ q⟩
 ·exact q
theorem sR {Q':EK}(h:∀v st,Q v st->Q' v st)(q:Tmp st0 Q v st):Tmp st0 Q' v st:=by obtain⟨st1,g,h1,h2,h3,h4,q⟩:=q;exact⟨st1,g,h1,h2,h3,h4,h _ _ q⟩
theorem fT {body body':PV->AH->(Option PV->AH->Prop)->Prop}(hb:∀x st k k',(∀o st,k o st->k' o st)->body x st k->body' x st k') :
  ∀ {xs acc:List PV}{st:AH}{Q Q':LK},(∀v st,Q v st->Q' v st)->ef chk body xs acc st Q->ef chk body' xs acc st Q'
 | [],acc,st,Q,Q',h,q=>⟨q.1,h _ _ q.2⟩
 | x::xs,acc,st,Q,Q',h,q=>⟨q.1,hb _ _ _ _ (fun o st' z=>fT hb h z) q.2⟩
section
variable {Γ:Nat->FSp}
def aJ (Γ:Nat->FSp):Prop:=∀f vs st Q Q',(∀v st,Q v st->Q' v st)->Γ f vs st Q->Γ f vs st Q'
mutual
theorem aa (G:aJ Γ):∀(e:E) {ρ:Fr}{st:AH}{Q Q':EK},(∀v st,Q v st->Q' v st)->wpE Γ e ρ st Q->wpE Γ e ρ st Q'
 | .var i,ρ,st,Q,Q',h,q=>by obtain⟨v,e,z⟩:=i9 q;exact qC e (h _ _ z)
 | .int i,ρ,st,Q,Q',h,q=>by exact h _ _ q
 | .bl i,ρ,st,Q,Q',h,q=>by exact h _ _ q
 | .non,ρ,st,Q,Q',h,q=>by exact h _ _ q
 | .str i,ρ,st,Q,Q',h,q=>by exact h _ _ q
 | .gv _ i,ρ,st,Q,Q',h,q=>by exact h _ _ q
 | .tup es,ρ,st,Q,Q',h,q=>by exact au G es (fun vs st1 z=>⟨z.1,h _ _ z.2⟩) q
 | .lst es,ρ,st,Q,Q',h,q=>by exact au G es (fun vs st1 z=>⟨z.1,h _ _ z.2⟩) q
 | .dct0,ρ,st,Q,Q',h,q=>by exact h _ _ q
 | .bad,ρ,st,Q,Q',h,q=>False.elim q
 | .clr a,ρ,st,Q,Q',h,q=>by refine aa G a (fun x st1 z=>?_) q;obtain⟨n,e,kvs,h1,z⟩:=z;exact⟨n,e,kvs,h1,h _ _ z⟩
 | .pcg i g n es,ρ,st,Q,Q',h,q=>⟨q.1,au G es (fun vs st1 z=>G _ _ _ _ _ h z) q.2⟩
 | .pcl i es,ρ,st,Q,Q',h,q=>by obtain⟨a,us,cs,e1,q⟩:=q;exact⟨a,us,cs,e1,au G es (fun x st1 z=>G _ _ _ _ _ h z) q⟩
 | .plm f g a b be gn cap,ρ,st,Q,Q',h,q=>by exact aa G a (fun x st1 z=>aa G b (fun y st2 z=>by obtain⟨c,e,z⟩:=z;exact⟨c,e,fun l us=>G _ _ _ _ _ h (z l us)⟩) z) q
 | .bin op a b,ρ,st,Q,Q',h,q=>by exact aa G a (fun x st1 z=>aa G b (fun y st2 z=>oM h z) z) q
 | .not a,ρ,st,Q,Q',h,q=>by
  skip
  refine aa G a (fun x st1 z=>?_) q;obtain⟨i,e,z⟩:=z;exact⟨i,e,h _ _ z⟩
 | .cmp op a b,ρ,st,Q,Q',h,q=>by exact aa G a (fun x st1 z=>aa G b (fun y st2 z=>gL h z) z) q
 | .bop true es,ρ,st,Q,Q',h,q=>by exact jR G es h q
 | .bop false es,ρ,st,Q,Q',h,q=>by exact jP G es h q
 | .ite c a b,ρ,st,Q,Q',h,q=>by
  skip
  refine aM G c (fun k st1 z=>?_) q;cases k with
  | true=>rw[MN rfl] at z |-;exact aa G a h z
  | false=>rw[ML MA] at z |-;exact aa G b h z
 | .ix a b,ρ,st,Q,Q',h,q=>by exact aa G a (fun x st1 z=>aa G b (fun y st2 z=>i3 h z) z) q
 | .sl a lo hi,ρ,st,Q,Q',h,q=>by exact aa G a (fun x st1 z=>jk G lo (fun l st2 z=>jk G hi (fun u st3 z=>rX h z) z) z) q
 | .call f es,ρ,st,Q,Q',h,q=>by exact au G es (fun vs st1 z=>G _ _ _ _ _ h z) q
 | .blt b es,ρ,st,Q,Q',h,q=>by exact au G es (fun vs st1 z=>g_ h z) q
 | .met m o es,ρ,st,Q,Q',h,q=>by exact aa G o (fun x st1 z=>⟨z.1,au G es (fun vs st2 z=>gK h z) z.2⟩) q
 | .comp elt tg it ifs nt caps,ρ,st,Q,Q',h,q=>by
  skip
  exact cX G it (fun xs chk st1 z=>⟨z.1,fT (fun x st k k' hk w=>aG G tg (fun ρ' st3 w=>bZ G ifs (fun c st4 w=>by
   cases c with
   | true=>rw[MN rfl] at w |-;exact aa G elt (fun v st5 w=>hk _ _ w) w
   | false=>rw[ML MA] at w |-;exact hk _ _ w) w) w) (fun vs st2 w=>h _ _ w) z.2⟩) q
 | .tmp a,ρ,st,Q,Q',h,q=>by exact aa G a (fun v st1 z=>sR h z) q
 | .un k a,ρ,st,Q,Q',h,q=>by exact aa G a (fun v st1 z=>uc h z) q
 | .dct2 k v,ρ,st,Q,Q',h,q=>by exact aa G k (fun x st1 z=>let ⟨u,e,z⟩:=z;⟨u,e,aa G v (fun y st2 z=>h _ _ z) z⟩) q
 | .eqd ne a b,ρ,st,Q,Q',h,q=>by exact aa G a (fun x st1 z=>aa G b (fun y st2 z=>z.imp (fun z=>⟨z.1,h _ _ z.2⟩) fun z=>⟨z.1,h _ _ z.2⟩) z) q
theorem au (G:aJ Γ):∀(e:Es) {ρ:Fr}{st:AH}{Q Q':LK},(∀v st,Q v st->Q' v st)->a9 Γ e ρ st Q->a9 Γ e ρ st Q'
 | .nil,ρ,st,Q,Q',h,q=>by exact h _ _ q
 | .cons e es,ρ,st,Q,Q',h,q=>by exact aa G e (fun x st1 z=>au G es (fun xs st2 z=>h _ _ z) z) q
theorem jk (G:aJ Γ):∀(e:O) {ρ:Fr}{st:AH}{Q Q':Option Int->AH->Prop},(∀v st,Q v st->Q' v st)->wpO Γ e ρ st Q->wpO Γ e ρ st Q'
 | .no,ρ,st,Q,Q',h,q=>by exact h _ _ q
 | .yes e,ρ,st,Q,Q',h,q=>by
  skip
  refine aa G e (fun x st1 z=>?_) q;obtain⟨i,e,z⟩:=z;exact⟨i,e,h _ _ z⟩
theorem aM (G:aJ Γ):∀(e:E) {ρ:Fr}{st:AH}{Q Q':BK},(∀v st,Q v st->Q' v st)->wpT Γ e ρ st Q->wpT Γ e ρ st Q'
 | .bop true es,ρ,st,Q,Q',h,q=>by exact bZ G es h q
 | .bop false es,ρ,st,Q,Q',h,q=>by exact jV G es h q
 | .not a,ρ,st,Q,Q',h,q=>by exact aM G a (fun c st1 z=>h _ _ z) q
 | .cmp op a b,ρ,st,Q,Q',h,q=>by
  skip
  exact aa G a (fun x st1 z=>aa G b (fun y st2 z=>gL (fun v st3 w=>by obtain⟨c,e,w⟩:=w;exact⟨c,e,h _ _ w⟩) z) z) q
 | .var i,ρ,st,Q,Q',h,q=>by obtain⟨v,e,z⟩:=i9 q;exact qC e (a_ h z)
 | .call f es,ρ,st,Q,Q',h,q=>by exact au G es (fun vs st1 z=>G _ _ _ _ _ (fun v st2 z=>a_ h z) z) q
 | .blt b es,ρ,st,Q,Q',h,q=>by exact au G es (fun vs st1 z=>g_ (fun v st2 z=>a_ h z) z) q
 | .tmp a,ρ,st,Q,Q',h,q=>by exact aa G a (fun v st1 z=>sR (fun v st2 z=>a_ h z) z) q
 | .ix a b,ρ,st,Q,Q',h,q=>by exact aa G a (fun x st1 z=>aa G b (fun y st2 z=>i3 (fun v st3 z=>a_ h z) z) z) q
 | .pcg i g n es,ρ,st,Q,Q',h,q=>⟨q.1,au G es (fun vs st1 z=>G _ _ _ _ _ (fun v st2 z=>a_ h z) z) q.2⟩
 | .eqd ne a b,ρ,st,Q,Q',h,q=>by exact aa G a (fun x st1 z=>aa G b (fun y st2 z=>z.imp (fun z=>⟨z.1,h _ _ z.2⟩) fun z=>⟨z.1,h _ _ z.2⟩) z) q
 | .un k a,ρ,st,Q,Q',h,q=>by exact aa G a (fun v st1 z=>uc (fun v st2 w=>let ⟨c,e,w⟩:=w;⟨c,e,h _ _ w⟩) z) q
 | .dct2 _ _,ρ,st,Q,Q',h,q=>False.elim q
 | .pcl _ _,ρ,st,Q,Q',h,q=>False.elim q
 | .plm _ _ _ _ _ _ _,ρ,st,Q,Q',h,q=>False.elim q
 | .int _,ρ,st,Q,Q',h,q=>False.elim q
 | .bl _,ρ,st,Q,Q',h,q=>False.elim q
 | .non,ρ,st,Q,Q',h,q=>False.elim q
 | .str _,ρ,st,Q,Q',h,q=>False.elim q
 | .gv _ _,ρ,st,Q,Q',h,q=>False.elim q
 | .tup _,ρ,st,Q,Q',h,q=>False.elim q
 | .lst _,ρ,st,Q,Q',h,q=>False.elim q
 | .dct0,ρ,st,Q,Q',h,q=>False.elim q
 | .bad,ρ,st,Q,Q',h,q=>False.elim q
 | .clr _,ρ,st,Q,Q',h,q=>False.elim q
 | .bin _ _ _,ρ,st,Q,Q',h,q=>False.elim q
 | .ite _ _ _,ρ,st,Q,Q',h,q=>False.elim q
 | .sl _ _ _,ρ,st,Q,Q',h,q=>False.elim q
 | .met _ _ _,ρ,st,Q,Q',h,q=>False.elim q
 | .comp _ _ _ _ _ _,ρ,st,Q,Q',h,q=>False.elim q
theorem jR (G:aJ Γ):∀(e:Es) {ρ:Fr}{st:AH}{Q Q':EK},(∀v st,Q v st->Q' v st)->qJ Γ e ρ st Q->qJ Γ e ρ st Q'
 | .nil,ρ,st,Q,Q',h,q=>False.elim q
 | .cons e .nil,ρ,st,Q,Q',h,q=>by exact aa G e h q
 | .cons e (.cons e2 es),ρ,st,Q,Q',h,q=>by
  skip
  refine aa G e (fun x st1 z=>?_) q;obtain⟨c,e,z⟩:=z;refine⟨c,e,?_⟩;cases c with
  | true=>rw[MN rfl] at z |-;exact jR G (.cons e2 es) h z
  | false=>rw[ML MA] at z |-;exact h _ _ z
theorem jP (G:aJ Γ):∀(e:Es) {ρ:Fr}{st:AH}{Q Q':EK},(∀v st,Q v st->Q' v st)->pU Γ e ρ st Q->pU Γ e ρ st Q'
 | .nil,ρ,st,Q,Q',h,q=>False.elim q
 | .cons e .nil,ρ,st,Q,Q',h,q=>by exact aa G e h q
 | .cons e (.cons e2 es),ρ,st,Q,Q',h,q=>by
  skip
  refine aa G e (fun x st1 z=>?_) q;obtain⟨c,e,z⟩:=z;refine⟨c,e,?_⟩;cases c with
  | true=>rw[MN rfl] at z |-;exact h _ _ z
  | false=>rw[ML MA] at z |-;exact jP G (.cons e2 es) h z
theorem bZ (G:aJ Γ):∀(e:Es) {ρ:Fr}{st:AH}{Q Q':BK},(∀v st,Q v st->Q' v st)->gu Γ e ρ st Q->gu Γ e ρ st Q'
 | .nil,ρ,st,Q,Q',h,q=>by exact h _ _ q
 | .cons e .nil,ρ,st,Q,Q',h,q=>by exact aM G e h q
 | .cons e (.cons e2 es),ρ,st,Q,Q',h,q=>by
  skip
  refine aM G e (fun c st1 z=>?_) q;cases c with
  | true=>rw[MN rfl] at z |-;exact bZ G (.cons e2 es) h z
  | false=>rw[ML MA] at z |-;exact h _ _ z
theorem jV (G:aJ Γ):∀(e:Es) {ρ:Fr}{st:AH}{Q Q':BK},(∀v st,Q v st->Q' v st)->qY Γ e ρ st Q->qY Γ e ρ st Q'
 | .nil,ρ,st,Q,Q',h,q=>by exact h _ _ q
 | .cons e .nil,ρ,st,Q,Q',h,q=>by exact aM G e h q
 | .cons e (.cons e2 es),ρ,st,Q,Q',h,q=>by
  skip
  refine aM G e (fun c st1 z=>?_) q;cases c with
  | true=>rw[MN rfl] at z |-;exact h _ _ z
  | false=>rw[ML MA] at z |-;exact jV G (.cons e2 es) h z
theorem cX (G:aJ Γ):∀(e:It) {ρ:Fr}{st:AH}{Q Q':List PV->(AH->Prop)->AH->Prop},(∀v c st,Q v c st->Q' v c st)->iJ Γ e ρ st Q->iJ Γ e ρ st Q'
 | .seq a,ρ,st,Q,Q',h,q=>by
  skip
  refine aa G a (fun x st1 z=>?_) q;obtain⟨c,e,z⟩:=z;exact⟨c,e,h _ _ _ z⟩
 | .range1 a,ρ,st,Q,Q',h,q=>by
  skip
  refine aa G a (fun x st1 z=>?_) q;obtain⟨c,e,h1,h2,z⟩:=z;exact⟨c,e,h1,h2,h _ _ _ z⟩
theorem aG (G:aJ Γ):∀(t:Tg) {v:PV}{ρ:Fr}{st:AH}{Q Q':Fr->AH->Prop},(∀ρ st,Q ρ st->Q' ρ st)->bt Γ t v ρ st Q->bt Γ t v ρ st Q'
 | .name i,v,ρ,st,Q,Q',h,q=>by exact h _ _ q
 | .tup ts,v,ρ,st,Q,Q',h,q=>by
  skip
  obtain⟨xs,e,hl,q⟩:=q;exact⟨xs,e,hl,fN G ts h q⟩
 | .sub o i,v,ρ,st,Q,Q',h,q=>by exact aa G o (fun x st1 z=>aa G i (fun y st2 z=>oA (fun st3 z=>h _ _ z) z) z) q
theorem fN (G:aJ Γ):∀(t:Tgs) {v:List PV}{ρ:Fr}{st:AH}{Q Q':Fr->AH->Prop},(∀ρ st,Q ρ st->Q' ρ st)->gy Γ t v ρ st Q->gy Γ t v ρ st Q'
 | .nil,v,ρ,st,Q,Q',h,q=>by exact⟨q.1,h _ _ q.2⟩
 | .cons t ts,v,ρ,st,Q,Q',h,q=>by
  skip
  obtain⟨x,r,e,q⟩:=q;exact⟨x,r,e,aG G t (fun ρ' st' z=>fN G ts h z) q⟩
end
structure gD (D D':aC):Prop where
 nx:∀ρ st,D.nx ρ st->D'.nx ρ st
 rt:∀v st,D.rt v st->D'.rt v st
 bk:∀ρ st,D.bk ρ st->D'.bk ρ st
 ct:∀ρ st,D.ct ρ st->D'.ct ρ st
theorem fF {body body':PV->Fr->AH->aC->Prop}{D:aC}(hD:gD D D')(hb:∀x ρ st D D',gD D D'->body x ρ st D->body' x ρ st D') :
  ∀ {xs:List PV}{ρ:Fr}{st:AH},gk chk body D xs ρ st->gk chk body' D' xs ρ st
 | [],ρ,st,q=>⟨q.1,hD.nx _ _ q.2⟩
 | x::xs,ρ,st,q=>by refine⟨q.1,hb _ _ _ _ _ ?_ q.2⟩;exact⟨fun _ _ z=>fF hD hb z,hD.rt,hD.nx,fun _ _ z=>fF hD hb z⟩
theorem gG {c:Fr->AH->BK->Prop}{body:Fr->AH->aC->Prop}{D:aC}(hD:gD D D')(hc:∀ρ st Q Q',(∀b st,Q b st->Q' b st)->c ρ st Q->c ρ st Q')(hb:∀ρ st D D',gD D D'->body ρ st D->body ρ st D'):∀ {n:Nat}{ρ:Fr}{st:AH},dS c body D n ρ st->dS c body D' n ρ st
 | 0,ρ,st,q=>q
 | n+1,ρ,st,q=>hc _ _ _ _ (fun b st1 z=>by
  cases b with
  | true =>
   rw[MN rfl] at z |-
   refine hb _ _ _ _ ?_ z;exact⟨fun _ _ z=>gG hD hc hb z,hD.rt,hD.nx,fun _ _ z=>gG hD hc hb z⟩
  | false=>rw[ML MA] at z |-;exact hD.nx _ _ z) q
theorem o5 {st:AH}{Q':EK}(h:∀v st,Q v st->Q' v st)(q:nE op x y st Q):nE op x y st Q':=by
 unfold nE at q |-
 split at q
 ·exact h _ _ q
 ·exact h _ _ q
 ·obtain⟨xs,ys,h1,h2,h3,q⟩:=q;exact⟨xs,ys,h1,h2,h3,h _ _ q⟩
 ·exact q
theorem sP (q:r_ x y st Q):∃n z kvs,x=.ref n/\y=.str z/\st[n]?=some (.dk kvs)/\(bW kvs (.inr z)).isSome=true/\Q (st.set n (.dk (tJ kvs (.inr z)))):=by
 cases x with
 | ref n=>cases y with
  | str z=>obtain⟨kvs,q⟩:=q;exact⟨n,z,kvs,rfl,rfl,q⟩
  | _=>exact q.elim
 | _=>exact q.elim
theorem yV {st:AH}{Q Q':AH->Prop}(h:∀st,Q st->Q' st)(q:r_ x y st Q):r_ x y st Q':=by obtain⟨n,z,kvs,rfl,rfl,e1,e2,q⟩:=sP q;exact⟨kvs,e1,e2,h _ q⟩
mutual
theorem ej (G:aJ Γ):∀(s:S) {ρ:Fr}{st:AH}{D D':aC},gD D D'->wpS Γ s ρ st D->wpS Γ s ρ st D'
 | .set t e,ρ,st,D,D',h,q=>by exact aa G e (fun v st1 z=>aG G t h.nx z) q
 | .par i j a b,ρ,st,D,D',h,q=>by exact aa G a (fun v st1 z=>aa G b (fun w st2 z=>h.nx _ _ z) z) q
 | .aug i op e,ρ,st,D,D',h,q=>by
  skip
  obtain⟨x,h1,q⟩:=q;exact⟨x,h1,aa G e (fun v st1 z=>o5 (fun _ _ z=>h.nx _ _ z) z) q⟩
 | .expr e,ρ,st,D,D',h,q=>by exact aa G e (fun v st1 z=>h.nx _ _ z) q
 | .ret e,ρ,st,D,D',h,q=>by exact aa G e h.rt q
 | .retN,ρ,st,D,D',h,q=>by exact h.rt _ _ q
 | .ifS c a b,ρ,st,D,D',h,q=>by
  skip
  refine aM G c (fun k st1 z=>?_) q;cases k with
  | true=>rw[MN rfl] at z |-;exact aH G a h z
  | false=>rw[ML MA] at z |-;exact aH G b h z
 | .whileS c b,ρ,st,D,D',h,q=>by
  skip
  obtain⟨n,q⟩:=q;refine⟨n,gG h (c:=wpT Γ c) (body:=az Γ b) ?_ ?_ q⟩
  ·exact fun _ _ _ _ hk z=>aM G c hk z
  ·exact fun _ _ _ _ hk z=>aH G b hk z
 | .forS t it b,ρ,st,D,D',h,q=>by
  skip
  exact cX G it (fun xs chk st1 z=>fF h (fun x ρ st D D' hd w=>aG G t (fun ρ2 st2 w=>aH G b hd w) w) z) q
 | .forK t wk e b,ρ,st,D,D',h,q=>by
  skip
  refine aa G e (fun x st1 z=>?_) q;obtain⟨n,ex,kvs,e1,z⟩:=z;exact⟨n,ex,kvs,e1,fF (D:=fzD n kvs D) (D':=fzD n kvs D') ⟨fun _ _ z=>⟨z.1,h.nx _ _ z.2⟩,fun _ _ z=>⟨z.1,h.rt _ _ z.2⟩,fun _ _ z=>False.elim z,fun _ _ z=>False.elim z⟩ (fun x ρ st D D' hd w=>aG G t (fun ρ2 st2 w=>aH G b hd w) w) z⟩
 | .pass,ρ,st,D,D',h,q=>by exact h.nx _ _ q
 | .del a b,ρ,st,D,D',h,q=>by exact aa G a (fun x st1 z=>aa G b (fun y st2 z=>yV (fun st3 z=>h.nx _ _ z) z) z) q
 | .bad,ρ,st,D,D',h,q=>False.elim q
 | .set2 i j e,ρ,st,D,D',h,q=>by exact aa G e (fun v st1 z=>h.nx _ _ z) q
 | .brk,ρ,st,D,D',h,q=>by exact h.bk _ _ q
 | .cont,ρ,st,D,D',h,q=>by exact h.ct _ _ q
theorem aH (G:aJ Γ):∀(s:Ss) {ρ:Fr}{st:AH}{D D':aC},gD D D'->az Γ s ρ st D->az Γ s ρ st D'
 | .nil,ρ,st,D,D',h,q=>by exact h.nx _ _ q
 | .cons s ss,ρ,st,D,D',h,q=>by
  skip
  refine ej G s ?_ q;exact⟨fun _ _ z=>aH G ss h z,h.rt,h.bk,h.ct⟩
end
end
end FW
namespace FW
open L2 HX
def RdF (K:W.Frag)(H:Hp)(a:Addr)(ys:List V):Prop :=
 (∃o,H a=some (.frz o (.lst ys)))\/∃(o:Obj) (its:Array Value) (n:Nat),K.lookup a=some o/\o.cls=.type "list"/\o.dict=none/\o.data=.seq its n/\its.size<=sizeLine/\Vals ys its.toList
theorem RdF.sq (h:RdF K H a ys):SqL K H a ys:=by
 rcases h with h|h
 ·exact .inl (.inr h)
 ·exact .inr h
mutual
noncomputable def R (K:W.Frag)(m:List Addr)(H:Hp):PV->V->Prop
 | .non,v=>v=.non
 | .bl b,v=>v=.bl b
 | .int i,v=>v=.int i
 | .str x,v=>v=.str x
 | .ref n,v=>∃a,m[n]?=some a/\v=.ref a
 | .tup xs,v=>∃a ys,v=.ref a/\SqT K H a ys/\Rs K m H xs ys
 | .rdl xs,v=>∃a ys,v=.ref a/\RdF K H a ys/\Rs K m H xs ys
 | .fn a,v=>v=.ref a
 | .gf n,v=>∃f,v=.ref f/\W.nsIn K mainGlobals n=some (some (.ref f))
 | .clo a vs xs,v=>v=.ref a/\Rs K m H xs vs
noncomputable def Rs (K:W.Frag)(m:List Addr)(H:Hp):List PV->List V->Prop
 | [],ys=>ys=[]
 | x::xs,ys=>∃y r,ys=y::r/\R K m H x y/\Rs K m H xs r
end
section
variable {K:W.Frag}{m m':List Addr}{H H':Hp}{v:V}{vs:List V}
theorem R_non:R K m H .non v↔v=.non:=by rw[R]
theorem R_bl:R K m H (.bl b) v↔v=.bl b:=by rw[R]
theorem R_int:R K m H (.int b) v↔v=.int b:=by rw[R]
theorem R_str:R K m H (.str b) v↔v=.str b:=by rw[R]
theorem fC:R K m H (.ref n) v↔∃a,m[n]?=some a/\v=.ref a:=by rw[R]
theorem R_tup:R K m H (.tup xs) v↔∃a ys,v=.ref a/\SqT K H a ys/\Rs K m H xs ys:=by rw[R]
theorem gg:R K m H (.rdl xs) v↔∃a ys,v=.ref a/\RdF K H a ys/\Rs K m H xs ys:=by rw[R]
theorem yh:R K m H (.fn a) v↔v=.ref a:=by rw[R]
theorem R_gf:R K m H (.gf n) v↔∃f,v=.ref f/\W.nsIn K mainGlobals n=some (some (.ref f)):=by rw[R]
theorem R_clo:R K m H (.clo a us xs) v↔v=.ref a/\Rs K m H xs us:=by rw[R]
theorem Rs_nil:Rs K m H [] vs↔vs=[]:=by rw[Rs]
theorem aK {x:PV}{xs:List PV}:Rs K m H (x::xs) vs↔∃y r,vs=y::r/\R K m H x y/\Rs K m H xs r:=by rw[Rs]
theorem Rs_cons' {x:PV}{xs:List PV}:Rs K m H (x::xs) (v::vs)↔R K m H x v/\Rs K m H xs vs:=by
 rw[aK];constructor
 ·rintro⟨_,_,e,h1,h2⟩;cases e;exact⟨h1,h2⟩
 ·rintro⟨h1,h2⟩;exact⟨_,_,rfl,h1,h2⟩
theorem Rs.len:∀ {xs:List PV}{ys:List V},Rs K m H xs ys->xs.length=ys.length
 | [],ys,h=>by rw[Rs_nil] at h;subst h;rfl
 | x::xs,ys,h=>by rw[aK] at h;obtain⟨y,r,rfl,_,h⟩:=h;simp[Rs.len h]
theorem Rs.get:∀ {xs:List PV}{ys:List V}{i:Nat}{x:PV},Rs K m H xs ys->xs[i]?=some x->∃y,ys[i]?=some y/\R K m H x y
 | [],ys,i,x,h,e=>by simp at e
 | x::xs,ys,i,z,h,e=>by
  rw[aK] at h;obtain⟨y,r,rfl,h1,h⟩:=h;cases i with
  | zero=>simp at e;subst e;exact⟨y,rfl,h1⟩
  | succ i =>obtain⟨w,e1,e2⟩:=Rs.get h (by simpa using e);exact⟨w,by simpa using e1,e2⟩
theorem Rs.app:∀ {xs zs:List PV}{ys ws:List V},Rs K m H xs ys->Rs K m H zs ws->Rs K m H (xs++zs) (ys++ws)
 | [],zs,ys,ws,h,h'=>by rw[Rs_nil] at h;subst h;exact h'
 | x::xs,zs,ys,ws,h,h'=>by rw[aK] at h;obtain⟨y,r,rfl,h1,h⟩:=h;rw[QC,aK];exact⟨y,r++ws,rfl,h1,h.app h'⟩
theorem Rs.drop:∀ {xs:List PV}{ys:List V} (n:Nat),Rs K m H xs ys->Rs K m H (xs.drop n) (ys.drop n)
 | xs,ys,0,h=>by simpa using h
 | [],ys,n+1,h=>by rw[Rs_nil] at h;subst h;simp[Rs_nil]
 | x::xs,ys,n+1,h=>by rw[aK] at h;obtain⟨y,r,rfl,h1,h⟩:=h;simpa using Rs.drop n h
theorem Rs.take:∀ {xs:List PV}{ys:List V} (n:Nat),Rs K m H xs ys->Rs K m H (xs.take n) (ys.take n)
 | xs,ys,0,h=>by simp[Rs_nil]
 | [],ys,n+1,h=>by rw[Rs_nil] at h;subst h;simp[Rs_nil]
 | x::xs,ys,n+1,h=>by rw[aK] at h;obtain⟨y,r,rfl,h1,h⟩:=h;rw[List.take_succ_cons,List.take_succ_cons,Rs_cons'];exact⟨h1,Rs.take n h⟩
theorem Rs.set (hx:R K m H x y):∀ {xs:List PV}{ys:List V} (n:Nat),Rs K m H xs ys->Rs K m H (xs.set n x) (ys.set n y)
 | [],ys,n,h=>by rw[Rs_nil] at h;subst h;simp[Rs_nil]
 | z::xs,ys,0,h=>by rw[aK] at h;obtain⟨w,r,rfl,h1,h⟩:=h;rw[P1,P1,Rs_cons'];exact⟨hx,h⟩
 | z::xs,ys,n+1,h=>by rw[aK] at h;obtain⟨w,r,rfl,h1,h⟩:=h;rw[List.set_cons_succ,List.set_cons_succ,Rs_cons'];exact⟨h1,Rs.set hx n h⟩
theorem Rs.cut (h:Rs K m H xs ys)(lo hi:Option Int):Rs K m H (rg xs lo hi) (mY ys lo hi):=by unfold rg mY;rw[h.len];exact(h.drop _).take _
theorem Rs.atI (h:Rs K m H xs ys)(e:atI xs i=some x):∃y,L2.atI ys i=some y/\R K m H x y:=by
 unfold L2.atI at e |-
 rw[h.len] at e;cases q:ixN ys.length i with
 | none=>rw[q] at e;cases e
 | some j =>rw[q] at e;obtain⟨y,e1,e2⟩:=h.get (show xs[j]?=some x from e);exact⟨y,e1,e2⟩
theorem Rs.one (h:R K m H x y):Rs K m H [x] [y]:=by rw[Rs_cons',Rs_nil];exact⟨h,rfl⟩
end
noncomputable def aW:List Str:=["coming","latest","through","paper_of"]
def TL (K:W.Frag)(H:Hp):Prop:=∀x∈aW,∀c T,W.tabIn K x=some (c,T)->(∀y∈aW,∀d,W.tabIn K y=some (d,T)->y=x)/\∃ps,H T=some (.tbl ps)/\TriplesOk ps.toList /\
 ∀pos cv,codeAmong pos ps.toList=some cv->∃c' oc,cv=.ref c'/\H c'=some (.frz oc (.own 0))/\mO oc (x++".<locals>."++"<lambda>")
def TB (K:W.Frag)(H:Hp):Prop:=TL K H/\∃o,H sysModules=some (.frz o (.own 0))
theorem TB.keep {H':Hp}(t:TB K H)(h1:∀a ps,H a=some (.tbl ps)->H' a=some (.tbl ps))(h2:∀a o,H a=some (.frz o (.own 0))->H' a=some (.frz o (.own 0))):TB K H':=⟨fun x hx c T e=>by obtain⟨e0,ps,e1,e2,e3⟩:=t.1 x hx c T e;refine⟨e0,ps,h1 _ _ e1,e2,fun pos cv q=>?_⟩;obtain⟨c',oc,g1,g2,g3⟩:=e3 pos cv q;exact⟨c',oc,g1,h2 _ _ g2,g3⟩,let ⟨o,e⟩:=t.2;⟨o,h2 _ _ e⟩⟩
structure Ext (K:W.Frag)(m:List Addr)(H:Hp)(m':List Addr)(H':Hp):Prop where
 pre:m <+: m'
 new:∀a∈m',a∈m\/H a=none
 fr:∀a o,a ∉ m->H a=some o->(∀ps,o≠.tbl ps)->H' a=some o
 tup:∀a ys,SqT K H a ys->SqT K H' a ys
 rdf:∀a ys,RdF K H a ys->RdF K H' a ys
 tbs:∀a ps,a ∉ m->H a=some (.tbl ps)->∃ps',H' a=some (.tbl ps')
 tb:TB K H->TB K H'
 frz:∀a o u,H a=some (.frz o u)->H' a=some (.frz o u)
theorem Ext.refl (K:W.Frag)(m:List Addr)(H:Hp):Ext K m H m H:=⟨OU _,fun _ h=>.inl h,fun _ _ _ h _=>h,fun _ _ h=>h,fun _ _ h=>h,fun _ ps _ h=>⟨ps,h⟩,fun h=>h,fun _ _ _ h=>h⟩
theorem Ext.ne (x:Ext K m H m' H'){a:Addr}(hm:a ∉ m)(e:H a=some o):H' a≠none:=fun z=>by
 by_cases h:∃ps,o=.tbl ps
 ·obtain⟨ps,rfl⟩:=h;obtain⟨q,e2⟩:=x.tbs a ps hm e;rw[e2] at z;cases z
 ·rw[x.fr a o hm e fun ps q=>h ⟨ps,q⟩] at z;cases z
theorem Ext.trans (a:Ext K m H m1 H1)(b:Ext K m1 H1 m2 H2):Ext K m H m2 H2:=by
 have nin:∀c o,c ∉ m->H c=some o->c ∉ m1:=fun c o h e z=>by
  rcases a.new c z with q|q
  ·exact h q
  ·rw[e] at q;cases q
 refine⟨a.pre.trans b.pre,fun c hc=>?_,fun c o h e n=>b.fr c o (nin c o h e) (a.fr c o h e n) n,fun c ys h=>b.tup c ys (a.tup c ys h),fun c ys h=>b.rdf c ys (a.rdf c ys h),fun c ps h e=>let ⟨p1,e1⟩:=a.tbs c ps h e;b.tbs c p1 (nin c _ h e) e1,fun h=>b.tb (a.tb h),fun c o u h=>b.frz c o u (a.frz c o u h)⟩;rcases b.new c hc with q|q
 ·exact a.new c q
 ·by_cases hm:c∈m
  ·exact .inl hm
  ·cases e:H c with
   | none=>exact .inr rfl
   | some o=>exact absurd q (a.ne hm e)
theorem hJ {m:List Addr}(h:m <+: m'){n:Nat}(e:m[n]?=some a):m'[n]?=some a:=by obtain⟨t,rfl⟩:=h;rw[MS (MC.mp e).1];exact e
mutual
theorem R.mono (x:Ext K m H m' H'):∀ {p:PV}{v:V},R K m H p v->R K m' H' p v
 | .non,v,h=>by rw[R_non] at h |-;exact h
 | .bl b,v,h=>by rw[R_bl] at h |-;exact h
 | .int b,v,h=>by rw[R_int] at h |-;exact h
 | .str b,v,h=>by rw[R_str] at h |-;exact h
 | .ref n,v,h=>by rw[fC] at h |-;obtain⟨a,e,q⟩:=h;exact⟨a,hJ x.pre e,q⟩
 | .tup xs,v,h=>by rw[R_tup] at h |-;obtain⟨a,ys,e,q,r⟩:=h;exact⟨a,ys,e,x.tup _ _ q,Rs.mono x r⟩
 | .rdl xs,v,h=>by rw[gg] at h |-;obtain⟨a,ys,e,q,r⟩:=h;exact⟨a,ys,e,x.rdf _ _ q,Rs.mono x r⟩
 | .fn b,v,h=>by rw[yh] at h |-;exact h
 | .gf b,v,h=>by rw[R_gf] at h |-;exact h
 | .clo a us xs,v,h=>by rw[R_clo] at h |-;exact⟨h.1,Rs.mono x h.2⟩
theorem Rs.mono (x:Ext K m H m' H'):∀ {ps:List PV}{vs:List V},Rs K m H ps vs->Rs K m' H' ps vs
 | [],vs,h=>by rw[Rs_nil] at h |-;exact h
 | p::ps,vs,h=>by
  rw[aK] at h |-
  obtain⟨y,r,e,h1,h2⟩:=h;exact⟨y,r,e,R.mono x h1,Rs.mono x h2⟩
end
mutual
theorem R.cut {m:List Addr}:∀ {p:PV}{v:V},R K m H p v->p.bec k=true->R K (m.take k) H p v
 | .non,v,h,_=>by rw[R_non] at h |-;exact h
 | .bl b,v,h,_=>by rw[R_bl] at h |-;exact h
 | .int b,v,h,_=>by rw[R_int] at h |-;exact h
 | .str b,v,h,_=>by rw[R_str] at h |-;exact h
 | .ref n,v,h,z=>by
  rw[fC] at h |-
  obtain⟨a,e,q⟩:=h;rw[PV.bec] at z;exact⟨a,by rw[OJ (N6 z)];exact e,q⟩
 | .tup xs,v,h,z=>by
  rw[R_tup] at h |-
  obtain⟨a,ys,e,q,r⟩:=h;rw[PV.bec] at z;exact⟨a,ys,e,q,Rs.cutm r z⟩
 | .rdl xs,v,h,z=>by
  rw[gg] at h |-
  obtain⟨a,ys,e,q,r⟩:=h;rw[PV.bec] at z;exact⟨a,ys,e,q,Rs.cutm r z⟩
 | .fn b,v,h,_=>by rw[yh] at h |-;exact h
 | .gf b,v,h,_=>by rw[R_gf] at h |-;exact h
 | .clo a us xs,v,h,z=>by rw[R_clo] at h |-;rw[PV.bec] at z;exact⟨h.1,Rs.cutm h.2 z⟩
theorem Rs.cutm {m:List Addr}:∀ {ps:List PV}{vs:List V},Rs K m H ps vs->PV.becs k ps=true->Rs K (m.take k) H ps vs
 | [],vs,h,_=>by rw[Rs_nil] at h |-;exact h
 | p::ps,vs,h,z=>by
  rw[aK] at h |-
  obtain⟨y,r,e,h1,h2⟩:=h;rw[PV.becs,MG] at z;exact⟨y,r,e,R.cut h1 z.1,Rs.cutm h2 z.2⟩
end
mutual
theorem R.bel {m:List Addr}:∀ {p:PV}{v:V},R K m H p v->p.bec m.length=true
 | .non,v,h=>by rw[PV.bec]
 | .bl b,v,h=>by rw[PV.bec]
 | .int b,v,h=>by rw[PV.bec]
 | .str b,v,h=>by rw[PV.bec]
 | .ref n,v,h=>by rw[fC] at h;obtain⟨a,e,q⟩:=h;rw[PV.bec];exact NF (MC.mp e).1
 | .tup xs,v,h=>by rw[R_tup] at h;obtain⟨a,ys,e,q,r⟩:=h;rw[PV.bec];exact Rs.bel r
 | .rdl xs,v,h=>by rw[gg] at h;obtain⟨a,ys,e,q,r⟩:=h;rw[PV.bec];exact Rs.bel r
 | .fn b,v,h=>by rw[PV.bec]
 | .gf b,v,h=>by rw[PV.bec]
 | .clo a us xs,v,h=>by rw[R_clo] at h;rw[PV.bec];exact Rs.bel h.2
theorem Rs.bel {m:List Addr}:∀ {ps:List PV}{vs:List V},Rs K m H ps vs->PV.becs m.length ps=true
 | [],vs,h=>by rw[PV.becs]
 | p::ps,vs,h=>by rw[aK] at h;obtain⟨y,r,e,h1,h2⟩:=h;rw[PV.becs,MG];exact⟨R.bel h1,Rs.bel h2⟩
end
def L5 (a:Addr)(o:Obj)(ks vs:List V):Prop:=(a == sysModules)=false/\o.ExactDict/\∃es ep,o.data=.dict es ep/\Vals ks (es.toList.map (·.key))/\Vals vs (es.toList.map (·.val))
noncomputable def CellR (K:W.Frag)(m:List Addr)(H:Hp):Cell->Addr->Prop
 | .lst xs,a=>∃ys,H a=some (.lst ys)/\Rs K m H xs ys
 | .dk kvs,a=>∃ys,H a=some (.dK ys)/\ys.map (·.1)=kvs.map (·.1)/\Rs K m H (kvs.map (·.2)) (ys.map (·.2))
 | .fz kvs,a=>∃o ys,H a=some (.frz o (.dK ys))/\ys.map (·.1)=kvs.map (·.1)/\Rs K m H (kvs.map (·.2)) (ys.map (·.2))
 | .od kvs,a=>∃o ks vs,H a=some (.frz o (.own 0))/\L5 a o ks vs/\Rs K m H (kvs.map (·.1)) ks/\Rs K m H (kvs.map (·.2)) vs
theorem CellR.mono (x:Ext K m H m' H')(h:CellR K m H c a)(e:H' a=H a):CellR K m' H' c a:=by
 cases c with
 | lst xs=>obtain⟨ys,h1,h2⟩:=h;exact⟨ys,e.trans h1,h2.mono x⟩
 | dk kvs=>obtain⟨ys,h1,h2,h3⟩:=h;exact⟨ys,e.trans h1,h2,h3.mono x⟩
 | fz kvs=>obtain⟨o,ys,h1,h2,h3⟩:=h;exact⟨o,ys,e.trans h1,h2,h3.mono x⟩
 | od kvs=>obtain⟨o,ks,vs,h1,h2,h3,h4⟩:=h;exact⟨o,ks,vs,e.trans h1,h2,h3.mono x,h4.mono x⟩
theorem CellR.ex (h:CellR K m H c a):∃o,H a=some o/\(∀ys,o≠.tup ys)/\∀u p,o=.frz u p->(∃ys,p=.dK ys)\/p=.own 0:=by
 cases c with
 | lst xs=>obtain⟨ys,h1,h2⟩:=h;exact⟨_,h1,⟨fun _ z=>(by cases z),fun _ _ z=>(by cases z)⟩⟩
 | dk kvs=>obtain⟨ys,h1,h2,h3⟩:=h;exact⟨_,h1,⟨fun _ z=>(by cases z),fun _ _ z=>(by cases z)⟩⟩
 | fz kvs=>obtain⟨o,ys,h1,h2,h3⟩:=h;exact⟨_,h1,⟨fun _ z=>(by cases z),fun _ _ z=>(by cases z;exact .inl ⟨ys,rfl⟩)⟩⟩
 | od kvs=>obtain⟨o,ks,vs,h1,h2,h3,h4⟩:=h;exact⟨_,h1,⟨fun _ z=>(by cases z),fun _ _ z=>(by cases z;exact .inr rfl)⟩⟩
theorem CellR.cut (h:CellR K m H c a)(z:c.bec k=true):CellR K (m.take k) H c a:=by
 cases c with
 | lst xs=>obtain⟨ys,h1,h2⟩:=h;exact⟨ys,h1,h2.cutm z⟩
 | dk kvs=>obtain⟨ys,h1,h2,h3⟩:=h;exact⟨ys,h1,h2,h3.cutm z⟩
 | fz kvs=>obtain⟨o,ys,h1,h2,h3⟩:=h;exact⟨o,ys,h1,h2,h3.cutm z⟩
 | od kvs=>obtain⟨o,ks,vs,h1,h2,h3,h4⟩:=h;rw[Cell.bec,MG] at z;exact⟨o,ks,vs,h1,h2,h3.cutm z.1,h4.cutm z.2⟩
theorem CellR.bel (h:CellR K m H c a):c.bec m.length=true:=by
 cases c with
 | lst xs=>obtain⟨ys,h1,h2⟩:=h;exact h2.bel
 | dk kvs=>obtain⟨ys,h1,h2,h3⟩:=h;exact h3.bel
 | fz kvs=>obtain⟨o,ys,h1,h2,h3⟩:=h;exact h3.bel
 | od kvs=>obtain⟨o,ks,vs,h1,h2,h3,h4⟩:=h;rw[Cell.bec,MG];exact⟨h3.bel,h4.bel⟩
structure RH (K:W.Frag)(m:List Addr)(H:Hp)(st:AH):Prop where
 len:m.length=st.length
 nd:m.Nodup
 at_:∀(n:Nat) (c:Cell) (a:Addr),st[n]?=some c->m[n]?=some a->CellR K m H c a
 tb:TB K H
section
variable {K:W.Frag}{m m':List Addr}{H H':Hp}{st:AH}
theorem RH.get {n:Nat}(h:RH K m H st)(e:st[n]?=some c):∃a,m[n]?=some a/\CellR K m H c a:=by
 have:n<m.length:=by rw[h.len];exact(MC.mp e).1
 exact⟨m[n],by simp[this],h.at_ n c _ e (by simp[this])⟩
theorem RH.mem {a:Addr}(h:RH K m H st)(e:a∈m):∃o,H a=some o/\(∀ys,o≠.tup ys)/\∀u p,o=.frz u p->(∃ys,p=.dK ys)\/p=.own 0:=by
 obtain⟨n,hn,rfl⟩:=PD.mp e;have:n<st.length:=by rw[<-h.len];exact hn
 exact(h.at_ n st[n] _ (by simp[this]) (by simp[hn])).ex
theorem RH.mem_tbl {a:Addr}(h:RH K m H st)(e:a∈m):H a≠some (.tbl ps):=fun z=>by
 obtain⟨n,hn,rfl⟩:=PD.mp e;have:n<st.length:=by rw[<-h.len];exact hn
 have c:=h.at_ n st[n] m[n] (by simp[this]) (by simp[hn]);cases q:st[n] with
 | lst xs=>rw[q] at c;obtain⟨ys,h1,_⟩:=c;rw[h1] at z;cases z
 | dk xs=>rw[q] at c;obtain⟨ys,h1,_⟩:=c;rw[h1] at z;cases z
 | fz xs=>rw[q] at c;obtain⟨o,ys,h1,_⟩:=c;rw[h1] at z;cases z
 | od xs=>rw[q] at c;obtain⟨o,ks,vs,h1,_⟩:=c;rw[h1] at z;cases z
theorem RH.lst {n:Nat}(h:RH K m H st)(e:st[n]?=some (.lst xs))(r:R K m H (.ref n) v):∃a ys,v=.ref a/\m[n]?=some a/\H a=some (.lst ys)/\Rs K m H xs ys:=by rw[fC] at r;obtain⟨a,e1,rfl⟩:=r;obtain⟨ys,h1,h2⟩:=h.at_ n _ a e e1;exact⟨a,ys,rfl,e1,h1,h2⟩
theorem RH.fresh (h:RH K m H st)(e:H p=none):p ∉ m:=fun z=>by obtain⟨o,q,_⟩:=h.mem z;rw[e] at q;cases q
theorem Ext.newT (h:RH K m H st)(e:H p=none):Ext K m H m (upd H p o):=by
 refine⟨OU _,fun _ z=>.inl z,fun a u _ q _=>?_,fun a ys q=>?_,fun a ys q=>?_,fun a ps _ q=>⟨ps,by rw[af (av q e)];exact q⟩,fun t=>t.keep (fun a ps q=>by rw[af (av q e)];exact q) fun a o q=>by rw[af (av q e)];exact q,fun a o u q=>by rw[af (av q e)];exact q⟩
 ·rw[af (av q e)];exact q
 ·rcases q with (q|⟨u,q⟩)|q
  ·exact .inl (.inl (by rw[af (av q e)];exact q))
  ·exact .inl (.inr ⟨u,by rw[af (av q e)];exact q⟩)
  ·exact .inr q
 ·rcases q with⟨u,q⟩|q
  ·exact .inl ⟨u,by rw[af (av q e)];exact q⟩
  ·exact .inr q
theorem RH.keep (h:RH K m H st)(x:Ext K m H m H')(e:∀a∈m,H' a=H a):RH K m H' st :=
 ⟨h.len,h.nd,fun n c a h1 h2=>(h.at_ n c a h1 h2).mono x (e a (MT h2)),x.tb h.tb⟩
theorem RH.newT (h:RH K m H st)(e:H p=none):RH K m (upd H p o) st :=
 h.keep (Ext.newT h e) fun a ha=>af fun z=>h.fresh e (z ▸ ha)
theorem Ext.new1 (h:RH K m H st)(e:H p=none):Ext K m H (m++[p]) (upd H p o):=by
 have q:=Ext.newT (o:=o) h e;refine⟨O1 _ _,fun a z=>?_,q.fr,q.tup,q.rdf,q.tbs,q.tb,q.frz⟩;rcases M9.mp z with z|z
 ·exact .inl z
 ·rw[M1] at z;subst z;exact .inr e
theorem RH.new1 (h:RH K m H st)(e:H p=none)(hc:CellR K (m++[p]) (upd H p o) c p):RH K (m++[p]) (upd H p o) (st++[c]):=by
 have x:=Ext.new1 (o:=o) h e;refine⟨by simp[h.len],NP.mpr ⟨h.nd,NO.mpr ⟨by simp,P2⟩,fun a ha b hb z=>?_⟩,fun n c' a h1 h2=>?_,x.tb h.tb⟩
 ·rw[M1] at hb;subst hb;exact h.fresh e (z ▸ ha)
 ·by_cases hn:n<st.length
  ·rw[MS hn] at h1;rw[MS (by rw[h.len];exact hn)] at h2;exact(h.at_ n c' a h1 h2).mono x (af fun z=>h.fresh e (z ▸ MT h2))
  ·rw[MX (by omega)] at h1;rw[MX (by rw[h.len];omega)] at h2;have hl:=h.len;by_cases hz:n-st.length=0
   ·rw[hz] at h1;rw[show n-m.length=0 by omega] at h2;simp at h1 h2;subst h1 h2;exact hc
   ·rw[NJ (by simp;omega)] at h1;cases h1
theorem RH.newL (h:RH K m H st)(e:H p=none)(r:Rs K m H xs ys):RH K (m++[p]) (upd H p (.lst ys)) (st++[.lst xs]) :=
 h.new1 e ⟨ys,aw,r.mono (Ext.new1 h e)⟩
theorem R.last {p:Addr}{n:Nat}(h:m.length=n):R K (m++[p]) H (.ref n) (.ref p):=by rw[fC];exact⟨p,by rw[<-h];simp,rfl⟩
theorem nfL {H:Hp}(g:H a=some (.lst ys)):∀w v,H a≠some (.frz w v):=fun _ _ z=>by rw[g] at z;cases z
theorem nfD {H:Hp}(g:H a=some (.dK ys)):∀w v,H a≠some (.frz w v):=fun _ _ z=>by rw[g] at z;cases z
theorem Ext.set {n:Nat}{ys:List V}(h:RH K m H st)(e:m[n]?=some a)(hz:∀w v,H a≠some (.frz w v)):Ext K m H m (upd H a o):=by
 have hm:=MT e;obtain⟨u,hu,h1,h2⟩:=h.mem hm;refine⟨OU _,fun _ z=>.inl z,fun b w hb q _=>?_,fun b zs q=>?_,fun b zs q=>?_,fun b ps hb q=>⟨ps,by rw[af (show b≠a from fun z=>hb (by rw[z];exact hm))];exact q⟩,fun t=>t.keep (fun b ps q=>by rw[af (fun z=>by subst z;exact h.mem_tbl hm q)];exact q) fun b w q=>by rw[af (fun z=>by subst z;exact hz _ _ q)];exact q,fun b w v q=>by rw[af (fun z=>by subst z;exact hz _ _ q)];exact q⟩
 ·have hne:b≠a:=fun z=>hb (by rw[z];exact hm);rw[af hne];exact q
 ·rcases q with (q|⟨w,q⟩)|q
  ·exact .inl (.inl (by rw[af (fun z=>by subst z;rw[hu] at q;cases q;exact h1 _ rfl)];exact q))
  ·exact .inl (.inr ⟨w,by rw[af (fun z=>by subst z;exact hz _ _ q)];exact q⟩)
  ·exact .inr q
 ·rcases q with⟨w,q⟩|q
  ·exact .inl ⟨w,by rw[af (fun z=>by subst z;exact hz _ _ q)];exact q⟩
  ·exact .inr q
theorem j8 {m:List Addr}(h:m.Nodup){i j:Nat}(e:m[i]?=some a)(e':m[j]?=some a):i=j:=by obtain⟨h1,h2⟩:=MC.mp e;obtain⟨h3,h4⟩:=MC.mp e';exact(List.getElem_inj h).mp (h2.trans h4.symm)
theorem RH.setL {n:Nat}(h:RH K m H st)(e:m[n]?=some a)(hz:∀w v,H a≠some (.frz w v))(r:Rs K m H xs ys):RH K m (upd H a (.lst ys)) (st.set n (.lst xs)):=by
 have x:Ext K m H m (upd H a (.lst ys)):=Ext.set (ys:=ys) h e hz;refine⟨by simp[h.len],h.nd,fun k c b h1 h2=>?_,x.tb h.tb⟩;by_cases hk:k=n
 ·subst hk;rw[e] at h2;cases h2;have hl:k<st.length:=by rw[<-h.len];exact(MC.mp e).1
  rw[MW hl] at h1;cases h1;exact⟨ys,aw,r.mono x⟩
 ·rw[MH (fun z=>hk z.symm)] at h1;exact(h.at_ k c b h1 h2).mono x (af fun z=>hk (j8 h.nd h2 (z ▸ e)))
end
structure RF (K:W.Frag)(m:List Addr)(H:Hp)(ρ:Fr)(σ:L2.St):Prop where
 len:ρ.length=σ.length
 at_:∀(i:Nat) v,ρ[i]?=some (some v)->∃x,σ[i]?=some (some x)/\R K m H v x
theorem RF.mono (h:RF K m H ρ σ)(x:Ext K m H m' H'):RF K m' H' ρ σ :=
 ⟨h.len,fun i v e=>let ⟨y,e1,r⟩:=h.at_ i v e;⟨y,e1,r.mono x⟩⟩
theorem RF.set (h:RF K m H ρ σ)(i:Nat)(r:R K m H v x):RF K m H (ρ.set i (some v)) (σ.set i (some x)):=by
 refine⟨by simp[h.len],fun j w e=>?_⟩;by_cases hj:i=j
 ·subst hj;have hl:i<ρ.length:=by have:=(MC.mp e).1;simpa using this
  rw[MW hl] at e;cases e;exact⟨x,by rw[MW (h.len ▸ hl)],r⟩
 ·rw[MH hj] at e;rw[MH hj];exact h.at_ j w e
noncomputable def post (K:W.Frag)(m:List Addr)(H:Hp)(Q:VK):EK:=fun v st'=>∀m' H' x,Ext K m H m' H'->RH K m' H' st'->R K m' H' v x->Q x H'
noncomputable def postB (K:W.Frag)(m:List Addr)(H:Hp)(Q:Bool->Hp->Prop):BK:=fun v st'=>∀m' H',Ext K m H m' H'->RH K m' H' st'->Q v H'
noncomputable def EN (K:W.Frag)(m:List Addr)(H:Hp)(Q:List V->Hp->Prop):LK:=fun vs st'=>∀m' H' xs,Ext K m H m' H'->RH K m' H' st'->Rs K m' H' vs xs->Q xs H'
noncomputable def TEx (K:W.Frag)(w:Fr->AH->EK->Prop):TE:=fun σ H Q=>∃m ρ st,RF K m H ρ σ/\RH K m H st/\w ρ st (post K m H Q)
noncomputable def TTx (K:W.Frag)(w:Fr->AH->BK->Prop):TT:=fun σ H Q=>∃m ρ st,RF K m H ρ σ/\RH K m H st/\w ρ st (postB K m H Q)
noncomputable def TAx (K:W.Frag)(w:Fr->AH->LK->Prop):TA:=fun σ H Q=>∃m ρ st,RF K m H ρ σ/\RH K m H st/\w ρ st (EN K m H Q)
theorem post.ext (x:Ext K m H m1 H1)(q:post K m H Q v st):post K m1 H1 Q v st:=fun m' H' y e r s=>q m' H' y (x.trans e) r s
theorem postB.ext (x:Ext K m H m1 H1)(q:postB K m H Q v st):postB K m1 H1 Q v st:=fun m' H' e r=>q m' H' (x.trans e) r
noncomputable def Cg (K:W.Frag)(w:PV->PV->AH->EK->Prop):R2:=fun x' y' H Q=>∃m st x y,RH K m H st/\R K m H x x'/\R K m H y y'/\w x y st (post K m H Q)
noncomputable def JP (K:W.Frag)(w:List PV->AH->EK->Prop):List V->Hp->VK->Prop:=fun xs' H Q=>∃m st xs,RH K m H st/\Rs K m H xs xs'/\w xs st (post K m H Q)
end FW
namespace FW
open L2 HX
theorem iT {n:Nat}(h:n<=100000):n<=sizeLine:=by rw[sizeLine_eq];omega
theorem jc {n:Nat}(h:n<100000):n<sizeLine:=by rw[sizeLine_eq];omega
section
variable {X:Cx}
theorem post.here (q:post K m H Q v st)(h:RH K m H st)(r:R K m H v x):Q x H:=q m H x (Ext.refl _ _ _) h r
theorem post.newT (q:post K m H Q (.tup xs) st)(h:RH K m H st)(r:Rs K m H xs ys)(e:H p=none):Q (.ref p) (upd H p (.tup ys)) :=
 q m _ _ (Ext.newT h e) (h.newT e) (R_tup.mpr ⟨p,ys,rfl,SqT.of aw,r.mono (Ext.newT h e)⟩)
theorem post.newL {st:AH}(q:post K m H Q (.ref st.length) (st++[.lst xs]))(h:RH K m H st)(r:Rs K m H xs ys)(e:H p=none):Q (.ref p) (upd H p (.lst ys)) :=
 q _ _ _ (Ext.new1 h e) (h.newL e r) (R.last h.len)
theorem post.setL {st:AH}(q:post K m H Q v (st.set n (.lst xs)))(h:RH K m H st)(e:m[n]?=some a)(hz:∀w v,H a≠some (.frz w v))(r:Rs K m H xs ys)(rv:R K m H v y) :
  Q y (upd H a (.lst ys)):=q _ _ _ (Ext.set (ys:=ys) h e hz) (h.setL e hz r) (rv.mono (Ext.set (ys:=ys) h e hz))
theorem dM (h:RH K m H st)(r:R K m H v x)(e:bp st v=some xs):∃a ys,x=.ref a/\SqL K H a ys/\Rs K m H xs ys:=by
 cases v with
 | rdl zs =>cases e;rw[gg] at r;obtain⟨a,ys,rfl,h1,h2⟩:=r;exact⟨a,ys,rfl,h1.sq,h2⟩
 | ref n =>
  unfold bp at e;simp only at e;split at e
  ·cases e;rename_i q;obtain⟨a,ys,rfl,_,h1,h2⟩:=h.lst q r;exact⟨a,ys,rfl,SqL.of h1,h2⟩
  ·cases e
 | _=>cases e
theorem i7 (h:RH K m H st)(r:R K m H v x)(e:b9 st v=some xs):∃a ys,x=.ref a/\(SqL K H a ys\/SqT K H a ys)/\Rs K m H xs ys:=by
 cases v with
 | tup zs =>cases e;rw[R_tup] at r;obtain⟨a,ys,rfl,h1,h2⟩:=r;exact⟨a,ys,rfl,.inr h1,h2⟩
 | rdl zs =>obtain⟨a,ys,h1,h2,h3⟩:=dM h r e;exact⟨a,ys,h1,.inl h2,h3⟩
 | ref n =>obtain⟨a,ys,h1,h2,h3⟩:=dM h r e;exact⟨a,ys,h1,.inl h2,h3⟩
 | _=>cases e
theorem CF (op:Operator):OpR X (binaryOp op) (Cg X.K (j7 op)):=by
 intro pins s σ H x' y' v u Q I rx ry h;obtain⟨m,st,x,y,rh,hx,hy,w⟩:=h;cases op with
 | Add =>
  cases x with
  | int i =>
   cases y with
   | int j =>have w:post X.K m H Q (.int (i+j)) st:=w;rw[R_int] at hx hy;subst hx hy;exact IC pins s σ H _ _ v u Q I rx ry ⟨_,_,rfl,rfl,w.here rh (R_int.mpr rfl)⟩
   | _=>exact False.elim w
  | ref n =>
   cases y with
   | ref k =>obtain⟨xs,ys,h1,h2,h3,w⟩:=w;obtain⟨a,xs',rfl,e1,g1,r1⟩:=rh.lst h1 hx;obtain⟨b,ys',rfl,e2,g2,r2⟩:=rh.lst h2 hy;exact Ih pins s σ H _ _ v u Q I rx ry ⟨a,b,xs',ys',rfl,rfl,g1,g2,by rw[<-r1.len,<-r2.len];exact iT h3,fun p hp=>w.newL rh (r1.app r2) hp⟩
   | _=>exact False.elim w
  | _=>exact False.elim w
 | Mult =>
  cases x with
  | int i =>
   cases y with
   | int j =>have w:CMB i j/\post X.K m H Q (.int (i*j)) st:=w;rw[R_int] at hx hy;subst hx hy;exact Dz pins s σ H _ _ v u Q I rx ry ⟨_,_,rfl,rfl,w.1,w.2.here rh (R_int.mpr rfl)⟩
   | _=>exact False.elim w
  | _=>exact False.elim w
 | Sub =>obtain⟨i,j,rfl,rfl,w⟩:=b_ w;rw[R_int] at hx hy;subst hx hy;exact Hv pins s σ H _ _ v u Q I rx ry ⟨_,_,rfl,rfl,w.here rh (R_int.mpr rfl)⟩
 | FloorDiv =>obtain⟨i,j,rfl,rfl,w⟩:=b_ w;rw[R_int] at hx hy;subst hx hy;exact Am pins s σ H _ _ v u Q I rx ry ⟨_,_,rfl,rfl,w.1,w.2.here rh (R_int.mpr rfl)⟩
 | Mod =>obtain⟨i,j,rfl,rfl,w⟩:=b_ w;rw[R_int] at hx hy;subst hx hy;exact IL pins s σ H _ _ v u Q I rx ry ⟨_,_,rfl,rfl,w.1,w.2.here rh (R_int.mpr rfl)⟩
 | Pow =>obtain⟨i,j,rfl,rfl,w⟩:=b_ w;rw[R_int] at hx hy;subst hx hy;exact GK pins s σ H _ _ v u Q I rx ry ⟨_,_,rfl,rfl,w.1,w.2.here rh (R_int.mpr rfl)⟩
 | _=>exact False.elim w
mutual
theorem R.den:∀ {p:PV}{v:V}{d:PyData},R K m H p v->p.toD=some d->(∃xs,d=.list xs)\/Den K H d v
 | .non,v,d,h,e=>by rw[PV.toD] at e;cases e;rw[R_non] at h;exact .inr (den_non.mpr h)
 | .bl b,v,d,h,e=>by rw[PV.toD] at e;cases e;rw[R_bl] at h;exact .inr (den_bl.mpr h)
 | .int b,v,d,h,e=>by rw[PV.toD] at e;cases e;rw[R_int] at h;exact .inr (den_int.mpr h)
 | .str b,v,d,h,e=>by rw[PV.toD] at e;cases e;rw[R_str] at h;exact .inr (den_str.mpr h)
 | .ref n,v,d,h,e=>by rw[PV.toD] at e;cases e
 | .fn n,v,d,h,e=>by rw[PV.toD] at e;cases e
 | .gf n,v,d,h,e=>by rw[PV.toD] at e;cases e
 | .clo a us xs,v,d,h,e=>by rw[PV.toD] at e;cases e
 | .tup xs,v,d,h,e=>by
  rw[PV.toD] at e;cases q:PV.toDs xs with
  | none=>rw[q] at e;cases e
  | some ds =>rw[q] at e;cases e;rw[R_tup] at h;obtain⟨a,ys,rfl,h1,h2⟩:=h;exact .inr (den_tup.mpr ⟨a,ys,rfl,h1,Rs.den h2 q⟩)
 | .rdl xs,v,d,h,e=>by
  rw[PV.toD] at e;cases q:PV.toDs xs with
  | none=>rw[q] at e;cases e
  | some ds=>rw[q] at e;cases e;exact .inl ⟨_,rfl⟩
theorem Rs.den:∀ {ps:List PV}{vs:List V}{ds:List PyData},Rs K m H ps vs->PV.toDs ps=some ds->Dens K H ds vs
 | [],vs,ds,h,e=>by rw[PV.toDs] at e;cases e;rw[Rs_nil] at h;exact dens_nil.mpr h
 | p::ps,vs,ds,h,e=>by
  rw[aK] at h;obtain⟨y,r,rfl,h1,h2⟩:=h;rw[PV.toDs] at e;cases q:p.toD with
  | none=>rw[q] at e;cases e
  | some d =>
   cases q2:PV.toDs ps with
   | none=>rw[q,q2] at e;cases e
   | some ds' =>
    rw[q,q2] at e;cases e;refine dens_cons'.mpr ⟨?_,Rs.den h2 q2⟩;cases p with
    | rdl xs =>
     rw[PV.toD] at q;cases q3:PV.toDs xs with
     | none=>rw[q3] at q;cases q
     | some es =>rw[q3] at q;cases q;rw[gg] at h1;obtain⟨a,ys,rfl,g1,g2⟩:=h1;exact den_lst.mpr ⟨a,ys,rfl,g1.sq,Rs.den g2 q3⟩
    | _ =>
     rcases R.den h1 q with⟨xs,rfl⟩|z
     ·first
       | (rw[PV.toD] at q;cases q;done)
       | (rw[PV.toD] at q;simp only[Option.map_eq_some_iff,reduceCtorEq,and_false,exists_false] at q)
     ·exact z
end
theorem bC (rh:RH K m H st)(h:R K m H p v)(e:iP st p=some d):Den K H d v:=by
 cases p with
 | ref n =>
  unfold iP at e;simp only at e;split at e
  ·rename_i xs q;cases q2:PV.toDs xs with
   | none=>rw[q2] at e;cases e
   | some ds =>rw[q2] at e;cases e;obtain⟨a,ys,rfl,_,h1,h2⟩:=rh.lst q h;exact den_lst.mpr ⟨a,ys,rfl,SqL.of h1,h2.den q2⟩
  ·cases e
 | rdl xs =>
  have e':(PV.rdl xs).toD=some d:=e;rw[PV.toD] at e';cases q2:PV.toDs xs with
  | none=>rw[q2] at e';cases e'
  | some ds =>rw[q2] at e';cases e';rw[gg] at h;obtain⟨a,ys,rfl,g1,g2⟩:=h;exact den_lst.mpr ⟨a,ys,rfl,g1.sq,g2.den q2⟩
 | tup xs =>
  have e':(PV.tup xs).toD=some d:=e;rcases R.den h e' with⟨zs,rfl⟩|z
  ·rw[PV.toD] at e';simp at e'
  ·exact z
 | fn b=>have e':(PV.fn b).toD=some d:=e;rw[PV.toD] at e';cases e'
 | gf b=>have e':(PV.gf b).toD=some d:=e;rw[PV.toD] at e';cases e'
 | clo a us xs=>have e':(PV.clo a us xs).toD=some d:=e;rw[PV.toD] at e';cases e'
 | non=>have e':(PV.non).toD=some d:=e;rw[PV.toD] at e';cases e';exact den_non.mpr (R_non.mp h)
 | bl b=>have e':(PV.bl b).toD=some d:=e;rw[PV.toD] at e';cases e';exact den_bl.mpr (R_bl.mp h)
 | int b=>have e':(PV.int b).toD=some d:=e;rw[PV.toD] at e';cases e';exact den_int.mpr (R_int.mp h)
 | str b=>have e':(PV.str b).toD=some d:=e;rw[PV.toD] at e';cases e';exact den_str.mpr (R_str.mp h)
theorem R.nonB (h:R K m H p v):decide (v=.non)=gc p:=by
 cases p with
 | non=>rw[R_non] at h;subst h;rfl
 | bl b=>rw[R_bl] at h;subst h;rfl
 | int b=>rw[R_int] at h;subst h;rfl
 | str b=>rw[R_str] at h;subst h;rfl
 | ref n=>rw[fC] at h;obtain⟨a,_,rfl⟩:=h;rfl
 | tup n=>rw[R_tup] at h;obtain⟨a,_,rfl,_⟩:=h;rfl
 | rdl n=>rw[gg] at h;obtain⟨a,_,rfl,_⟩:=h;rfl
 | fn n=>rw[yh] at h;subst h;rfl
 | gf n=>rw[R_gf] at h;obtain⟨a,rfl,_⟩:=h;rfl
 | clo a us xs=>rw[R_clo] at h;obtain⟨rfl,_⟩:=h;rfl
theorem R.blB (h:R K m H p v):decide (v=.bl k)=k6 k p:=by
 cases p with
 | non=>rw[R_non] at h;subst h;rfl
 | bl b=>rw[R_bl] at h;subst h;cases b <;> cases k <;> rfl
 | int b=>rw[R_int] at h;subst h;rfl
 | str b=>rw[R_str] at h;subst h;rfl
 | ref n=>rw[fC] at h;obtain⟨a,_,rfl⟩:=h;rfl
 | tup n=>rw[R_tup] at h;obtain⟨a,_,rfl,_⟩:=h;rfl
 | rdl n=>rw[gg] at h;obtain⟨a,_,rfl,_⟩:=h;rfl
 | fn n=>rw[yh] at h;subst h;rfl
 | gf n=>rw[R_gf] at h;obtain⟨a,rfl,_⟩:=h;rfl
 | clo a us xs=>rw[R_clo] at h;obtain⟨rfl,_⟩:=h;rfl
theorem Kk:decide (V.int i=V.int j)=decide (i=j):=by simp
theorem Jv:decide (V.bl i=V.bl j)=decide (i=j):=by simp
theorem Ke:decide (V.str i=V.str j)=decide (i=j):=by simp
theorem jG:∀ {ns:List Str}{ys:List V},Rs K m H (ns.map PV.str) ys->ys=ns.map V.str
 | [],ys,h=>by rw[NM,Rs_nil] at h;exact h
 | n::ns,ys,h=>by
  cases ys with
  | nil=>have:=h.len;simp at this
  | cons y ys =>rw[MF,Rs_cons',R_str] at h;rw[h.1,jG h.2];rfl
theorem fo:∀ {ns:List Str},(ns.map V.str).all ju=true
 | []=>rfl
 | n::ns=>by rw[MF,OL,fo];rfl
theorem je:∀ {ns:List Str},inV (.str i) (ns.map V.str)=ns.any fun j=>j == i
 | []=>rfl
 | n::ns=>by
  have:=je (i:=i) (ns:=ns);unfold inV at this |-
  rw[MF,N2,N2,this];rfl
section
variable {K:W.Frag}{m:List Addr}{H:Hp}
theorem jZ:∀ {kvs:List (Key × PV)}{ys:List (Key × V)},ys.map (·.1)=kvs.map (·.1)->Rs K m H (kvs.map (·.2)) (ys.map (·.2)) ->
  (∀v,bW kvs k=some v->∃v',gx ys k=some v'/\R K m H v v')/\(bW kvs k=none->gx ys k=none)
 | [],ys,e,_=>by
  cases ys with
  | nil=>exact⟨fun v z=>(by cases z),fun _=>rfl⟩
  | cons y ys=>cases e
 | p::kvs,ys,e,r=>by
  cases ys with
  | nil=>cases e
  | cons y ys =>
   rw[MF,MF,PM] at e;rw[MF,MF,Rs_cons'] at r;obtain⟨a1,a2⟩:=jZ (k:=k) e.2 r.2;by_cases q:p.1=k
   ·have e1:bW (p::kvs) k=some p.2:=by simp[bW,List.find?_cons,q]
    have e2:gx (y::ys) k=some y.2:=jA (by rw[e.1];exact q);rw[e1,e2];exact⟨fun v z=>⟨_,rfl,by cases z;exact r.1⟩,fun z=>by cases z⟩
   ·have e1:bW (p::kvs) k=bW kvs k:=by simp[bW,List.find?_cons,q]
    have e2:gx (y::ys) k=gx ys k:=jI (by rw[e.1];exact q);rw[e1,e2];exact⟨a1,a2⟩
theorem qV {kvs:List (Key × PV)}{ys:List (Key × V)}(e:ys.map (·.1)=kvs.map (·.1))(r:Rs K m H (kvs.map (·.2)) (ys.map (·.2))):(gx ys k).isSome=(bW kvs k).isSome:=by
 obtain⟨a1,a2⟩:=jZ (k:=k) e r;cases q:bW kvs k with
 | none=>rw[a2 q];rfl
 | some v=>obtain⟨v',e',_⟩:=a1 v q;rw[e'];rfl
theorem zx {k:Key}:∀ {kvs:List (Key × PV)}{ys:List (Key × V)},ys.map (·.1)=kvs.map (·.1)->(kvs.any fun kv=>decide (kv.1=k))=ys.any fun kv=>decide (kv.1=k)
 | [],ys,e=>by cases ys with|nil=>rfl|cons y ys=>cases e
 | p::kvs,ys,e=>by
  cases ys with
  | nil=>cases e
  | cons y ys =>rw[MF,MF,PM] at e;rw[N2,N2,zx e.2,e.1]
theorem AN {k:Key}(rv:R K m H v v'):∀ {kvs:List (Key × PV)}{ys:List (Key × V)},ys.map (·.1)=kvs.map (·.1)->Rs K m H (kvs.map (·.2)) (ys.map (·.2)) ->
  (ys.map fun kv=>if kv.1=k then (kv.1,v') else kv).map (·.1)=(kvs.map fun kv=>if kv.1=k then (kv.1,v) else kv).map (·.1)/\Rs K m H ((kvs.map fun kv=>if kv.1=k then (kv.1,v) else kv).map (·.2)) ((ys.map fun kv=>if kv.1=k then (kv.1,v') else kv).map (·.2))
 | [],ys,e,_=>by cases ys with|nil=>exact⟨rfl,by rw[NM,NM,NM,NM,Rs_nil]⟩|cons y ys=>cases e
 | p::kvs,ys,e,r=>by
  cases ys with
  | nil=>cases e
  | cons y ys =>
   rw[MF,MF,PM] at e;rw[MF,MF,Rs_cons'] at r;obtain⟨a1,a2⟩:=AN (k:=k) rv e.2 r.2;simp only[List.map_cons];rw[Rs_cons',a1];by_cases q:p.1=k
   ·rw[MN q,MN (by rw[e.1];exact q)];exact⟨by rw[e.1],rv,a2⟩
   ·rw[ML q,ML (by rw[e.1];exact q)];exact⟨by rw[e.1],r.1,a2⟩
theorem IU (rv:R K m H v v'){kvs:List (Key × PV)}{ys:List (Key × V)}(e:ys.map (·.1)=kvs.map (·.1))(r:Rs K m H (kvs.map (·.2)) (ys.map (·.2))) :
  (i8 ys k v').map (·.1)=(ie kvs k v).map (·.1)/\Rs K m H ((ie kvs k v).map (·.2)) ((i8 ys k v').map (·.2)):=by
 unfold i8 ie;rw[<-zx (k:=k) e];by_cases q:(kvs.any fun kv=>decide (kv.1=k))=true
 ·rw[MN q,MN q];exact AN rv e r
 ·rw[ML q,ML q];simp only[List.map_append,List.map_cons,List.map_nil];exact⟨by rw[e],r.app (.one rv)⟩
end
theorem RH.dkat {n:Nat}(h:RH K m H st)(e:st[n]?=some (.dk kvs))(r:R K m H (.ref n) v):∃a ys,v=.ref a/\m[n]?=some a/\H a=some (.dK ys)/\ys.map (·.1)=kvs.map (·.1)/\Rs K m H (kvs.map (·.2)) (ys.map (·.2)):=by rw[fC] at r;obtain⟨a,e1,rfl⟩:=r;obtain⟨ys,h1,h2⟩:=h.at_ n _ a e e1;exact⟨a,ys,rfl,e1,h1,h2⟩
theorem RH.setD {n:Nat}{kvs:List (Key × PV)}{ys:List (Key × V)}(h:RH K m H st)(e:m[n]?=some a)(hz:∀w v,H a≠some (.frz w v))(r1:ys.map (·.1)=kvs.map (·.1))(r2:Rs K m H (kvs.map (·.2)) (ys.map (·.2))):RH K m (upd H a (.dK ys)) (st.set n (.dk kvs)):=by
 have x:Ext K m H m (upd H a (.dK ys)):=Ext.set (ys:=[]) h e hz;refine⟨by simp[h.len],h.nd,fun k c b h1 h2=>?_,x.tb h.tb⟩;by_cases hk:k=n
 ·subst hk;have hl:k<st.length:=by rw[<-h.len];exact(MC.mp e).1
  rw[MW hl] at h1;rw[e] at h2;cases h1;cases h2;exact⟨ys,aw,r1,r2.mono x⟩
 ·rw[MH (Ne.symm hk)] at h1;have ne:b≠a:=fun z=>hk ((List.getElem?_inj (MC.mp h2).1 h.nd).mp (by rw[h2,e,z]));exact(h.at_ k c b h1 h2).mono x (af ne)
theorem RH.dkrd {n:Nat}(h:RH K m H st)(e:st[n]?=some (.dk kvs)\/st[n]?=some (.fz kvs))(r:R K m H (.ref n) v):∃a ys,v=.ref a/\m[n]?=some a/\Rd H a (.dK ys)/\ys.map (·.1)=kvs.map (·.1)/\Rs K m H (kvs.map (·.2)) (ys.map (·.2)):=by
 rw[fC] at r;obtain⟨a,e1,rfl⟩:=r;rcases e with e|e
 ·obtain⟨ys,h1,h2⟩:=h.at_ n _ a e e1;exact⟨a,ys,rfl,e1,.inl h1,h2⟩
 ·obtain⟨o,ys,h1,h2⟩:=h.at_ n _ a e e1;exact⟨a,ys,rfl,e1,.inr ⟨o,h1⟩,h2⟩
theorem zM (hu:X.A.units+64<cLine)(op:CmpOp):OpR X (compareOp op) (Cg X.K (eB op)):=by
 intro pins s σ H x' y' v u Q I rx ry h;obtain⟨m,st,x,y,rh,hx,hy,w⟩:=h;unfold eB at w;cases op with
 | Eq =>
  simp only at w;unfold eqW at w;split at w
  ·rw[R_int] at hx hy;subst hx hy;exact zJ pins s σ H _ _ v u Q I rx ry ⟨rfl,by rw[Kk];exact w.here rh (R_bl.mpr rfl)⟩
  ·rw[R_bl] at hx hy;subst hx hy;exact zJ pins s σ H _ _ v u Q I rx ry ⟨rfl,by rw[Jv];exact w.here rh (R_bl.mpr rfl)⟩
  ·rw[R_str] at hx hy;subst hx hy;exact zJ pins s σ H _ _ v u Q I rx ry ⟨rfl,by rw[Ke];exact w.here rh (R_bl.mpr rfl)⟩
  ·obtain⟨d,e,h1,h2,h3,h4,w⟩:=w;exact AY hu pins s σ H _ _ v u Q I rx ry ⟨d,e,bC rh hx h1,bC rh hy h2,h3,h4,w.here rh (R_bl.mpr rfl)⟩
 | NotEq =>
  simp only at w;unfold eqW at w;split at w
  ·rw[R_int] at hx hy;subst hx hy;exact zI pins s σ H _ _ v u Q I rx ry ⟨rfl,by rw[Kk];exact w.here rh (R_bl.mpr rfl)⟩
  ·rw[R_bl] at hx hy;subst hx hy;exact zI pins s σ H _ _ v u Q I rx ry ⟨rfl,by rw[Jv];exact w.here rh (R_bl.mpr rfl)⟩
  ·rw[R_str] at hx hy;subst hx hy;exact zI pins s σ H _ _ v u Q I rx ry ⟨rfl,by rw[Ke];exact w.here rh (R_bl.mpr rfl)⟩
  ·obtain⟨d,e,h1,h2,h3,h4,w⟩:=w;exact Bp hu pins s σ H _ _ v u Q I rx ry ⟨d,e,bC rh hx h1,bC rh hy h2,h3,h4,w.here rh (R_bl.mpr rfl)⟩
 | Is =>
  simp only at w;split at w
  ·rw[R_non] at hy;subst hy;exact G_ pins s σ H _ _ v u Q I rx ry ⟨rfl,by rw[hx.nonB];exact w.here rh (R_bl.mpr rfl)⟩
  ·rw[R_bl] at hy;subst hy;exact Iu pins s σ H _ _ v u Q I rx ry ⟨_,rfl,by rw[hx.blB];exact w.here rh (R_bl.mpr rfl)⟩
  ·exact w.elim
 | IsNot =>
  simp only at w;split at w
  ·rw[R_non] at hy;subst hy;exact DB pins s σ H _ _ v u Q I rx ry ⟨rfl,by rw[hx.nonB];exact w.here rh (R_bl.mpr rfl)⟩
  ·rw[R_bl] at hy;subst hy;exact xV pins s σ H _ _ v u Q I rx ry ⟨_,rfl,by rw[hx.blB];exact w.here rh (R_bl.mpr rfl)⟩
  ·exact w.elim
 | Lt =>
  simp only at w;split at w
  ·rw[R_int] at hx hy;subst hx hy;exact KI pins s σ H _ _ v u Q I rx ry ⟨_,_,rfl,rfl,w.here rh (R_bl.mpr rfl)⟩
  ·exact w.elim
 | LtE=>exact False.elim w
 | Gt =>
  simp only at w;split at w
  ·rw[R_int] at hx hy;subst hx hy;exact Jq pins s σ H _ _ v u Q I rx ry ⟨_,_,rfl,rfl,w.here rh (R_bl.mpr rfl)⟩
  ·exact w.elim
 | GtE =>
  simp only at w;split at w
  ·rw[R_int] at hx hy;subst hx hy;exact La pins s σ H _ _ v u Q I rx ry ⟨_,_,rfl,rfl,w.here rh (R_bl.mpr rfl)⟩
  ·exact w.elim
 | In =>
  simp only at w;split at w
  ·rw[R_str] at hx;subst hx;obtain⟨ns,rfl,w⟩:=w;obtain⟨a,ys,rfl,g,r⟩:=R_tup.mp hy;obtain rfl:=jG r;refine o7 pins s σ H _ _ v u Q I rx ry ⟨a,_,rfl,.inr g,rfl,fo,?_⟩;rw[ML MA,je];exact w.here rh (R_bl.mpr rfl)
  ·rw[R_str] at hx;subst hx;rcases w with⟨ns,e,w⟩|⟨kvs,e,w⟩
   ·obtain⟨a,ys,rfl,_,g,r⟩:=rh.lst e hy;obtain rfl:=jG r;refine o7 pins s σ H _ _ v u Q I rx ry ⟨a,_,rfl,.inl (SqL.of g),rfl,fo,?_⟩;rw[ML MA,je];exact w.here rh (R_bl.mpr rfl)
   ·obtain⟨a,ys,rfl,_,g,r1,r2⟩:=rh.dkrd e hy;cases ry;refine LW (M_ (by omega) hu) I (.inl ⟨_,.inr _,g,rfl,rfl⟩) rx fun s' I'=>⟨.bl _,H,I',rfl,?_⟩;rw[qV r1 r2];exact w.here rh (R_bl.mpr rfl)
  ·exact w.elim
 | NotIn =>
  simp only at w;split at w
  ·rw[R_str] at hx;subst hx;obtain⟨ns,rfl,w⟩:=w;obtain⟨a,ys,rfl,g,r⟩:=R_tup.mp hy;obtain rfl:=jG r;refine ja pins s σ H _ _ v u Q I rx ry ⟨a,_,rfl,.inr g,rfl,fo,?_⟩;rw[MN rfl,je];exact w.here rh (R_bl.mpr rfl)
  ·rw[R_str] at hx;subst hx;rcases w with⟨ns,e,w⟩|⟨kvs,e,w⟩
   ·obtain⟨a,ys,rfl,_,g,r⟩:=rh.lst e hy;obtain rfl:=jG r;refine ja pins s σ H _ _ v u Q I rx ry ⟨a,_,rfl,.inl (SqL.of g),rfl,fo,?_⟩;rw[MN rfl,je];exact w.here rh (R_bl.mpr rfl)
   ·obtain⟨a,ys,rfl,_,g,r1,r2⟩:=rh.dkrd e hy;cases ry;refine Dy (M_ (by omega) hu) I (.inl ⟨_,.inr _,g,rfl,rfl⟩) rx fun s' I'=>⟨.bl _,H,I',rfl,?_⟩;rw[qV r1 r2];exact w.here rh (R_bl.mpr rfl)
  ·exact w.elim
theorem Jg {E:Value->Shared->Prop}{s:Shared}{id:String}(hl:typeLookup (.type T) "__getitem__"=pure (some (.builtin id)))(hs:subscripted slice false o i=operate [o,i] (getItem o i))(hT:s.TypeIs o T)(h:wpAny (model prog w) A (getItem o i) Q E s) :
  wpAny (model prog w) A (subscriptTail value slice o i) Q E s:=by
 unfold subscriptTail;refine MB ?_;rw[getitemInPython_of_ne hT.not_modules];refine MB (wpAny_specialOf hT hl ?_);have fin:wpAny (model prog w) A (subscripted slice false o i) (fun r s₃=>wpAny (model prog w) A (letTemporaryGo value o r >>= fun _=>pure r) Q E s₃) E s:=by rw[hs];exact wpAny_operating (wpAny_mono h (fun r s₃ h₃=>MB (wpAny_letTemporaryGo (MU h₃))) fun _ _ x=>x)
 first
  | exact MU (MB fin)
  | exact MB (MU (MB fin))
  | exact MB fin
theorem ET (hu:X.A.units+64<cLine):IxR X (Cg X.K ixW):=by
 intro value slice pins s σ H x' y' v u Q I rx ry h hs;obtain⟨m,st,x,y,rh,hx,hy,w⟩:=h;cases y with
 | int i =>
  rw[R_int] at hy;subst hy;rcases we w with⟨z,c,rfl,h1,h2,w⟩|⟨xs,z,h1,h2,w⟩
  ·rw[R_str] at hx;subst hx;exact HM value slice pins s σ H _ _ v u Q I rx ry ⟨_,_,c,rfl,rfl,iT h1,h2,w.here rh (R_str.mpr rfl)⟩ hs
  obtain⟨a,ys,rfl,g,r⟩:=i7 rh hx h1;obtain⟨y,e,ry'⟩:=r.atI h2;rcases g with g|g
  ·exact Ed value slice pins s σ H _ _ v u Q I rx ry ⟨a,ys,_,y,rfl,rfl,g,e,w.here rh ry'⟩ hs
  ·exact Iv value slice pins s σ H _ _ v u Q I rx ry ⟨a,ys,_,y,rfl,rfl,g,e,w.here rh ry'⟩ hs
 | str z =>
  rw[R_str] at hy;subst hy;obtain⟨n,kvs,p,rfl,e,h2,w⟩:=wz w;obtain⟨a,ys,rfl,_,g,r1,r2⟩:=rh.dkrd e hx;obtain⟨p',e',rp⟩:=(jZ r1 r2).1 _ h2;have dg:D8 H a (.str z) (some p'):=by rw[<-e'];exact .inl ⟨_,.inr z,g,rfl,rfl⟩
  cases rx;obtain⟨z1,hd,vs,rel,dd⟩:=oa I.hok g;exact Jg PySem.F.slot_dict_getitem.lookup hs dd.typeIs (yB (M_ (by omega) hu) I dg ry fun w' s3 I3 rw'=>⟨p',H,I3,rw',w.here rh rp⟩)
 | _=>exact w.elim
theorem ib {E:Value->Shared->Prop}{s:Shared}{Q:Value->Shared->Prop}(ht:IsTup s.heap t items)(hs:s.heap.IsSliceOf sl vl vu .none)(pl:IsPart vl lo)(pu:IsPart vu hi)(hw:HT.sIx items.size 0 lo=0/\HT.sIx items.size items.size hi=items.size)(h:Q (.ref t) s):wpAny (model prog w) A (getItem (.ref t) (.ref sl)) Q E s:=by
 obtain⟨os,hos,hcs,hds⟩:=id hs;have hTs:s.TypeIs (.ref sl) "slice":=⟨os,hos,hcs⟩;unfold getItem
 try with_reducible refine N1 ?_
 first|refine MB (MU ?_)|skip
 refine MB (wpAny_sequenceKey ht.typeIs (by decide) ?_);refine MB (wpAny_callSpecial?_slot (name:=Str.ofString "__getitem__") ht.typeIs N_
  (wpAny_call_entry N_ ht.typeIs entry_tuple_getitem ?_ (args_tuple_getitem _ _)))
 show wpAny _ _ (Builtin.Tuple.tupleItemsOf (.ref t) >>= _) _ _ s;refine MB (tupleItemsOf_ ht ?_);refine MB (wpAny_typeOf hTs ?_);rw[MN (by decide)];refine MB (HT.sliceApplied_gen hs pl pu ?_);have hyes:((((HT.sIx items.size 0 lo:Nat):Int) == 0 && (1:Int) == 1 && (HT.sIx items.size items.size hi-HT.sIx items.size 0 lo) == items.size)=true):=by rw[hw.1,hw.2];simp
 show wpAny _ _ (if (((HT.sIx items.size 0 lo:Nat):Int) == 0 && (1:Int) == 1 && (HT.sIx items.size items.size hi-HT.sIx items.size 0 lo) == items.size)=true then _ else _) _ _ s;rw[MN hyes];unfold Builtin.Tuple.tupleIsExact;refine MB (MB (wpAny_typeOf ht.typeIs (MU ?_)));rw[MN (by simp)];exact MB (wpAny_rule (MU ⟨_,rfl,MU h⟩))
noncomputable def K2 (K:W.Frag):V->Option Int->Option Int->Hp->VK->Prop:=fun x' lo hi H Q=>∃m st x,RH K m H st/\R K m H x x'/\slW x lo hi st (post K m H Q)
theorem u5 {ys:List V}(h:HT.sIx ys.length 0 lo=0/\HT.sIx ys.length ys.length hi=ys.length):mY ys lo hi=ys:=by unfold mY;rw[h.1,h.2,QM,Nat.sub_zero,NX]
theorem wR (h:IsPart v p):∃q:Option (Int × Tok),v=partValue q/\q.map (·.1)=p:=by
 cases h with
 | none=>exact⟨none,rfl,rfl⟩
 | int i t=>exact⟨some (i,t),rfl,rfl⟩
theorem Eu {z:Str}{l u:Option (Int × Tok)}{lo:Option Int}{Q:Value->Shared->Prop}(e:(l.map (·.1),u.map (·.1))=(lo,hi))(h1:z.length<=100000)(h:∀tk t',Q (.str (Dx z lo hi) t') { s with toks:=tk }):(sliceMade z t l u none).post Q s:=by
 cases e;unfold sliceMade;have h:∀tk t',Q (.str (if ((slicePicked z l u none).length == z.length)=true then z else ⟨((slicePicked z l u none).filterMap (z.cps[·]?)).toArray⟩) t') { s with toks:=tk }:=h;cases q:((slicePicked z l u none).length == z.length) with
 | true =>rw[q] at h;exact h s.toks t
 | false =>rw[q] at h;refine⟨?_,h _ _⟩;show ((slicePicked z l u none).filterMap (z.cps[·]?)).toArray.size<=sizeLine;rw[M5];refine MY (N3 _ _) (MY ?_ (iT h1));refine sliceRange_length_le _ _ _ _ (fun _=>?_) fun z=>absurd (show (1:Int) > 0 by decide) z;cases l <;> cases u <;> constructor <;> simp only[Option.map,Option.getD,show (1:Int) > 0 by decide,if_true] <;> first|omega|(split <;> omega)
theorem Jy:SlR X (K2 X.K):=by
 intro pins s σ H x' v vl vu lo hi sl Q I rx hs pl pu h;obtain⟨m,st,x,rh,hx,w⟩:=h;unfold slW at w;split at w
 ·rename_i z;rw[R_str] at hx;subst hx;obtain⟨t,rfl⟩:=rx;obtain⟨h1,w⟩:=w;obtain⟨l,el,pl'⟩:=wR pl;obtain⟨u,eu,pu'⟩:=wR pu;subst el eu;refine ⟨"str",_,PyProof.Rows.slot_str_getitem.lookup,typeIs_str _ _ _,?_⟩;refine wpAny_getItem_str_slice (l:=l) (u:=u) (st:=none) hs rfl (Eu ?_ h1 fun tk t'=>⟨.str (Dx z lo hi),H,I.tok tk,⟨t',rfl⟩,w.here rh (R_str.mpr rfl)⟩);rw[pl',pu']
 ·rw[R_tup] at hx;obtain⟨a,ys,rfl,g,r⟩:=hx;by_cases hw:HT.sIx ys.length 0 lo=0/\HT.sIx ys.length ys.length hi=ys.length
  ·cases rx;obtain⟨its,r',ht,hz⟩:=I.tuple g;have hlen:its.toArray.size=ys.length:=by rw[M5];exact r'.length.symm
   refine ⟨"tuple",_,PyProof.Rows.slot_tuple_getitem.lookup,ht.typeIs,ib ht hs pl pu (by rw [hlen];exact hw) ?_⟩;refine⟨.ref a,H,I,rfl,w.here rh (R_tup.mpr ⟨a,ys,rfl,g,?_⟩)⟩;have:=r.cut lo hi;rw[u5 hw] at this;exact this
  ·exact Ic pins s σ H _ v vl vu lo hi sl Q I rx hs pl pu ⟨a,ys,rfl,g,hw,fun p hp=>w.newT rh (r.cut lo hi) hp⟩
 ·obtain⟨xs,h1,w⟩:=w;obtain⟨a,ys,rfl,g,r⟩:=dM rh hx h1;exact Dl pins s σ H _ v vl vu lo hi sl Q I rx hs pl pu ⟨a,ys,rfl,g,fun p hp=>w.newL rh (r.cut lo hi) hp⟩
theorem Rs.one' {x:PV}(h:Rs K m H [x] ys):∃y,ys=[y]/\R K m H x y:=by rw[aK] at h;obtain⟨y,r,rfl,h1,h2⟩:=h;rw[Rs_nil] at h2;subst h2;exact⟨y,rfl,h1⟩
theorem Rs.two' {x:PV}(h:Rs K m H [x,z] ys):∃y u,ys=[y,u]/\R K m H x y/\R K m H z u:=by rw[aK] at h;obtain⟨y,r,rfl,h1,h2⟩:=h;obtain⟨u,rfl,h3⟩:=h2.one';exact⟨y,u,rfl,h1,h3⟩
theorem oE:∀ {xs:List PV}{bs:List Bool}{ys:List V}{us:List Value},iy xs=some bs->Rs K m H xs ys->Vals ys us->LSm.BoolsAre us bs
 | [],bs,ys,us,e,h,r=>by rw[Rs_nil] at h;subst h;cases r;cases e;exact .nil
 | x::xs,bs,ys,us,e,h,r=>by
  rw[aK] at h;obtain⟨y,q,rfl,h1,h2⟩:=h;cases x with
  | bl b =>
   cases r with
   | cons r1 r2 =>
    rw[R_bl] at h1;subst h1;cases r1;unfold iy at e;cases z:iy xs with
    | none=>rw[z] at e;cases e
    | some bs' =>rw[z] at e;cases e;exact .cons b (oE z h2 r2)
  | _=>cases e
theorem yw {vs:List Value}{A:Around}{E:Value->Shared->Prop}{s:Shared}{Q:Value->Shared->Prop}(hh:A.handled=none)(hl:s.heap.IsList l vs.toArray)(hb:LSm.BoolsAre vs bs)(h:∀h' tk,(∀b x,s.heap.get? b=some x->h'.get? b=some x)->Q (.bool (bs.all id)) { s with heap:=h',toks:=tk }):wpAny (model P w) A (call (.builtin "all") [.ref l]) Q E s:=by
 have hlt:l<s.heap.objs.size:=by obtain⟨_,e,_⟩:=hl;exact MR e
 refine call_all_walk (wpAny_pyIter_list hl ?_);refine⟨s.heap.objs.size,[s.heap.objs.size,l],[s.heap.objs.size],vs.toArray.size,_,_,fun i=>(bs[i]?).getD true,rfl,Walks.list (A:=A.in1) hh _ l (M8 hlt) vs.toArray,
  ⟨⟨_,MZ _ rfl,rfl,rfl⟩,hl.push _⟩,fun i v s' Q' E' hP hQ=>?_,fun h' tk hk=>?_⟩
 ·obtain⟨b,e,rfl⟩:=hb.get i v (by simpa using hP);simp only[e,Option.getD_some] at hQ;exact wpAny_truthy_bool hQ
 ·have e:((List.range vs.toArray.size).all fun i=>(bs[i]?).getD true)=bs.all id:=by rw[M5,hb.length];exact LSm.range_all bs
  rw[e];exact h h' tk (LSm.kept_iter hk)
noncomputable def Kn:B->Value
 | .len=>.builtin "len"
 | .max2=>.builtin "max"
 | .divmod=>.builtin "divmod"
 | .tuple1=>.type "tuple"
 | .all1=>.builtin "all"
 | .sortD=>.builtin "sorted"
 | .repr2=>.builtin "repr"
theorem pj:∀ {us:List Value}{ns:List Str},StrsAre us ns->Vals (ns.map V.str) us
 | _,_,.nil=>.nil
 | _,_,.cons n t r=>.cons ⟨t,rfl⟩ (pj r)
theorem Cw:∀ {ns:List Str},Rs K m H (ns.map PV.str) (ns.map V.str)
 | []=>by rw[NM,NM,Rs_nil]
 | n::ns=>by rw[MF,MF,Rs_cons',R_str];exact⟨rfl,Cw⟩
theorem qI {A:Around}{E:Value->Shared->Prop}{s:Shared}{P:Nat->Value->Prop}{R:List Value->Shared->Prop}(K:W.KdlSrc prog w T r d n P OK)(hh:A.handled=none)(hok:OK s.heap)(hn:n<=sizeLine)(h:∀(h':Heap) (tk:Nat) (acc:Array Value),(∀b o,s.heap.get? b=some o->h'.get? b=some o)->s.heap.objs.size<=h'.objs.size->ItemsOf P acc n->R acc.toList { s with heap:=h',toks:=tk }):wpAny (model prog w) A (collect (.ref r)) R E s:=by
 obtain⟨l1,l2⟩:=K.there _ hok;unfold collect;refine MB (wpAny_runValue (codeAny_builtin entry_proto_collect' ?_));rw[Around.under_plainId PySem.F.plain_proto_collect _];show wpAny _ A.in1 (newList [] >>= fun l=>again (.builtin "list.__iadd__" ⟨[l,.ref r],[]⟩)) _ _ s;refine MB (wpAny_newObj_type (MU ⟨plainId_quiet PySem.F.plain_list_iadd _,codeAny_builtin entry_list_iadd' ?_⟩));rw[Around.under_plainId PySem.F.plain_list_iadd _];have new:(s.heap.push { cls:=.type "list",data:=.seq ([]:List Value).toArray }).get? s.heap.objs.size=some { cls:=.type "list",data:=.seq #[] }:=MZ _ rfl;show wpAny _ A.in1 (Builtin.List.listExtendWith (.ref s.heap.objs.size) (.ref r) (.ref s.heap.objs.size)) _ _ _;have main:=W.kdl_extend (A:=A) (s:={ s with heap:=s.heap.push { cls:=.type "list",data:=.seq ([]:List Value).toArray } })
  (R:=fun (q:Result) (s':Shared)=>∃(h':Heap) (tk:Nat) (zs:Array Value) (c:Nat),q=.ok (.ret (.ref s.heap.objs.size))/\s'={ s with heap:=h',toks:=tk }/\(∀b o,s.heap.get? b=some o->h'.get? b=some o)/\h'.get? s.heap.objs.size=some { cls:=.type "list",dict:=none,data:=.seq zs c,slots:=#[] }/\ItemsOf P zs n)
  K hh (K.keep _ _ hok fun b _ o e=>MD _ e) s.heap.objs.size (OS l1) (OS l2) (.ref s.heap.objs.size) 0 new
  (fun h' tk zs c hk hS hz=>⟨h',tk,zs,c,rfl,rfl,fun b o e=>hk b o (M8 (MR e)) (MD _ e),hS,hz⟩) hn
 refine wpAny_mono main (fun fin s' x=>?_) fun e s' x=>?_
 ·cases fin with
  | done f =>obtain⟨h',tk,zs,c,e,rfl,hk,hS,hz⟩:=x;cases e;show wpAny _ A (load s.heap.objs.size >>= _) _ _ _;exact MB (wpAny_load hS (MU (h h' tk zs hk (NQ (MR hS)) hz)))
  | again c₁ =>refine⟨x.1,codeAny_mono x.2 fun q s₂ y=>?_⟩;obtain⟨h',tk,zs,c,rfl,rfl,hk,hS,hz⟩:=y;show wpAny _ A (load s.heap.objs.size >>= _) _ _ _;exact MB (wpAny_load hS (MU (h h' tk zs hk (NQ (MR hS)) hz)))
 ·obtain⟨_,_,_,_,e',_⟩:=x;cases e'
theorem mG {P:Program}{w:World}:∀ {ss:List Str}{vs:List Value},vs.length=ss.length->(∀(j:Nat) v,vs[j]?=some v->∃x,ss[j]?=some x/\∃t,v=.str x t)->StrsAre vs ss
 | [],vs,hl,h=>by
  cases vs with
  | nil=>exact .nil
  | cons _ _=>simp at hl
 | s::ss,vs,hl,h=>by
  cases vs with
  | nil=>simp at hl
  | cons v vs =>obtain⟨x,e,t,rfl⟩:=h 0 v rfl;simp at e;subst e;exact .cons _ t (mG (P:=P) (w:=w) (by simpa using hl) fun j u hu=>by simpa using h (j+1) u (by simpa using hu))
theorem qA {σ:L2.St}{ss:List Str}{Q:VK}(hcalm:X.calm=true)(I:L2.Inv X pins σ H s)(g:Rd H a (.dK ys))(hk:ys.map (·.1)=ss.map Sum.inr)(hn:ss.length<64)(q:∀ss':List Str,ss'.Perm ss->sortedS ss'=true->∀l,H l=none->Q (.ref l) (upd H l (.lst (ss'.map V.str)))):wpAny (model X.prog X.w) X.A (call (.builtin "sorted") [.ref a]) (EP X pins σ Q) X.xe s:=by
 obtain⟨z,lo,vs,rel,dd⟩:=oa I.hok g;obtain⟨ep,hat⟩:=dd.dictAt;have hv:vs.length=ss.length:=by rw[<-rel.length];simpa using NC List.length hk
 have kk:vs.map (·.1)=ss.map Sum.inr:=by rw[<-rel.keys];exact hk
 refine Calls.call_function_entry kind_sorted plain_sorted entry_sorted (args_sorted1 _) ?_;unfold Builtin.«sorted»;refine MB (m:=checkCount "sorted" 1 1 _) (MU ?_);refine MB (qI (A:=X.A.in1) (W.kdl_dict (knd:=aE X.prog X.w) (kvs:=vs) (ep:=ep) lo) (I.ok.hd hcalm) hat (NQ (jc (by omega))) fun h1 tk acc k1 z1 hacc=>?_);have hl:acc.toList.length=ss.length:=by rw[Array.length_toList,hacc.1,hv]
 have hS:StrsAre acc.toList ss:=mG (P:=X.prog) (w:=X.w) hl fun j v e=>by
  obtain⟨k,x,hx,hkk⟩:=hacc.2 j v (by rw[<-Array.getElem?_toList];exact e);have e2:(vs.map (·.1))[j]?=some k:=by rw[MI,hx];rfl
  rw[kk,MI] at e2;obtain⟨x',h3,rfl⟩:=MP.mp e2;obtain⟨t,rfl⟩:=Value.isStrOf_shape (show Value.isStrOf x' v=true from hkk);exact⟨x',h3,t,rfl⟩
 refine MB (wpAny_newList ?_ (by rw[hl];exact NQ (jc (by omega))));have hoL:(h1.push (seqObj "list" acc.toList.toArray 0)).get? h1.objs.size=some (seqObj "list" acc.toList.toArray 0):=MZ _ rfl;refine MB (N1 (wpAny_call_entry slot_list_sort ⟨_,hoL,rfl⟩ entry_list_sort (list_sort_treeK strKind_oneLt hoL hS.keysOf (fun v₁ v₂ rest e=>keyKind_strs (by rw[<-e];exact hS)) (by rw[hl];exact hn) fun st' hp hs=>⟨_,rfl,?_⟩) (args_list_sort _)));obtain⟨ss',a1,a2,a3⟩:=sorted_out_str hS hp hs;refine MU ⟨_,rfl,?_⟩;obtain⟨e,he⟩:=sortedHeap_at (out:=(arrOf st').map (·.2)) hoL;refine⟨.ref h1.objs.size,_,I.laid (t':=tk) (fun b o eb=>?_) z1 (show ObjOk X.prog X.w _ _ _ (.lst (ss'.map V.str)) from ⟨?_,_,e,pj a1,he⟩),rfl,q ss' a2 a3 _ (I.hok.fresh z1)⟩
 ·have lb:b<h1.objs.size:=MK (MR eb) z1;rw[sortedHeap_old (M8 lb) (by rw[size_push'];exact Nat.lt_succ_of_lt lb)];exact MD _ (k1 b o eb)
 ·rw[ME,a2.length_eq];exact NQ (jc (by omega))
section
variable {prog:Program}{w:World}{A:Around}{E:Value->Shared->Prop}{s:Shared}{l:Addr}{xs:Array (Int × Tok)}
end
theorem jW {α:Type}{o:Option α}{r:List (Option α)}{ds:List α}(h:cQ (o::r)=some ds):∃d es,o=some d/\cQ r=some es/\ds=d::es:=by
 cases o with
 | none=>cases h
 | some x =>
  cases q:cQ r with
  | none=>rw[cQ,q] at h;cases h
  | some es=>rw[cQ,q] at h;cases h;exact⟨x,es,rfl,rfl,rfl⟩
theorem lJ {f:PV->Option PyData}{b:Bool}:∀ {ps:List PV}{vs:List V}{us:List Value}{ds:List PyData},(∀p v u d,R K m H p v->RelV v u->f p=some d->∃as,Reads h u d as/\(b=true->sysModules ∉ as)/\(b=false->d.hasDict=false)) ->
  Rs K m H ps vs->Vals vs us->cQ (ps.map f)=some ds->∃as,ReadsAll h us ds as/\(b=true->sysModules ∉ as)/\(b=false->PyData.hasDictAll ds=false)
 | [],vs,us,ds,_,r,rv,e=>by rw[Rs_nil] at r;subst r;cases rv;cases e;exact⟨_,.nil,fun _ z=>(nomatch z),fun _=>by simp[PyData.hasDictAll]⟩
 | p::ps,vs,us,ds,hf,r,rv,e=>by
  rw[aK] at r;obtain⟨y,q,rfl,r1,r2⟩:=r;obtain⟨d,es,e1,e2,rfl⟩:=jW e;cases rv with
  | cons v1 v2 =>
   obtain⟨as,k1,k2,k3⟩:=hf p y _ d r1 v1 e1;obtain⟨bs,j1,j2,j3⟩:=lJ hf r2 v2 e2;refine⟨_,.cons k1 j1,fun z hm=>?_,fun z=>by simp[PyData.hasDictAll,k3 z,j3 z]⟩;rcases M9.mp hm with h|h
   ·exact k2 z h
   ·exact j2 z h
theorem jB {α:Type}:∀ {l:List (Option α)}{ds:List α},cQ l=some ds->ds.length=l.length
 | [],ds,e=>by cases e;rfl
 | o::r,ds,e=>by obtain⟨d,es,_,e2,rfl⟩:=jW e;rw[NS,NS,jB e2]
theorem zy {us:List (Key × V)}{vs:List (Key × Value)}(h:KV us vs):us.map (·.1)=vs.map (·.1)/\Vals (us.map (·.2)) (vs.map (·.2))/\us.length=vs.length:=by
 unfold KV at h
 induction h with
 | nil=>exact⟨rfl,.nil,rfl⟩
 | cons f t ih=>exact⟨by rw[MF,MF,f.1,ih.1],.cons f.2 ih.2.1,by rw[NS,NS,ih.2.2]⟩
theorem sO (hp:Pairs (aE P w) es vs):ReadsAll h (es.map (·.key)) ((vs.map (·.1)).map kD) []/\es.map (·.val)=vs.map (·.2):=by
 induction hp with
 | nil=>exact⟨.nil,rfl⟩
 | cons a b _ ih =>
  refine⟨?_,by rw[MF,MF,ih.2,b]⟩;rcases aT a with⟨i,t,e1,e2⟩|⟨x,t,e1,e2⟩
  ·rw[MF,MF,MF,e1,e2];exact .cons (as:=[]) (.int i t) ih.1
  ·rw[MF,MF,MF,e1,e2];exact .cons (as:=[]) (.str x t) ih.1
theorem gN {f:PV->Option PyData}:∀ {ps:List PV}{vs:List V}{us:List Value}{ds:List PyData},(∀p v u d,R K m H p v->RelV v u->f p=some d->∃as,Reads h u d as/\sysModules ∉ as) ->
  Rs K m H ps vs->Vals vs us->cQ (ps.map f)=some ds->∃as,ReadsAll h us ds as/\sysModules ∉ as
 | [],vs,us,ds,_,r,rv,e=>by rw[Rs_nil] at r;subst r;cases rv;cases e;exact⟨_,.nil,fun z=>(nomatch z)⟩
 | p::ps,vs,us,ds,hf,r,rv,e=>by
  rw[aK] at r;obtain⟨y,q,rfl,r1,r2⟩:=r;obtain⟨d,es,e1,e2,rfl⟩:=jW e;cases rv with
  | cons v1 v2 =>obtain⟨as,k1,k2⟩:=hf p y _ d r1 v1 e1;obtain⟨bs,j1,j2⟩:=gN hf r2 v2 e2;exact⟨_,.cons k1 j1,fun hm=>(M9.mp hm).elim k2 j2⟩
theorem dJ {σ:L2.St}(I:L2.Inv X pins σ H s)(rh:RH X.K m H st):∀(n:Nat) (p:PV) (v:V) (u:Value) (d:PyData),R X.K m H p v->RelV v u->shX st n p=some d ->
  ∃as,Reads s.heap u d as/\sysModules ∉ as
 | n,.non,v,u,d,r,rv,e=>by
  have e:some PyData.none=some d:=by cases n <;> exact e
  cases e;rw[R_non] at r;subst r;cases rv;exact⟨_,.none,fun z=>(nomatch z)⟩
 | n,.bl c,v,u,d,r,rv,e=>by
  have e:some (PyData.bool c)=some d:=by cases n <;> exact e
  cases e;rw[R_bl] at r;subst r;cases rv;exact⟨_,.bool c,fun z=>(nomatch z)⟩
 | n,.int c,v,u,d,r,rv,e=>by
  have e:some (PyData.int c)=some d:=by cases n <;> exact e
  cases e;rw[R_int] at r;subst r;obtain⟨t,rfl⟩:=rv;exact⟨_,.int c t,fun z=>(nomatch z)⟩
 | n,.str c,v,u,d,r,rv,e=>by
  have e:some (PyData.str c)=some d:=by cases n <;> exact e
  cases e;rw[R_str] at r;subst r;obtain⟨t,rfl⟩:=rv;exact⟨_,.str c t,fun z=>(nomatch z)⟩
 | n,.rdl c,v,u,d,r,rv,e=>by
  have e:none=some d:=by cases n <;> exact e
  cases e
 | n,.fn c,v,u,d,r,rv,e=>by
  have e:none=some d:=by cases n <;> exact e
  cases e
 | n,.gf c,v,u,d,r,rv,e=>by
  have e:none=some d:=by cases n <;> exact e
  cases e
 | n,.clo a us xs,v,u,d,r,rv,e=>by
  have e:none=some d:=by cases n <;> exact e
  cases e
 | 0,.tup c,v,u,d,r,rv,e=>by cases e
 | 0,.ref c,v,u,d,r,rv,e=>by cases e
 | n+1,.tup xs,v,u,d,r,rv,e=>by have e:(cQ (xs.map (shX st n))).map PyData.tuple=some d:=e;obtain⟨ds,e1,rfl⟩:=MP.mp e;rw[R_tup] at r;obtain⟨a,ys,rfl,g,r⟩:=r;cases rv;obtain⟨its,rv,⟨o,ho,hc,k,hd⟩,_⟩:=I.tuple g;obtain⟨as,q1,q2⟩:=gN (dJ I rh n) r rv e1;exact⟨as,.tuple ho hc hd (by simpa using q1),q2⟩
 | n+1,.ref k,v,u,d,r,rv,e=>by
  have e:(match st[k]? with
   | some (.lst xs)=>(cQ (xs.map (shX st n))).map .list
   | some (.dk kvs)=>(cQ (kvs.map fun kv=>shX st n kv.2)).map fun ds=>.dict ((kvs.map fun kv=>kD kv.1).zip ds)
   | some (.od kvs)=>match cQ (kvs.map fun kv=>shX st n kv.1) with
    | some es=>(cQ (kvs.map fun kv=>shX st n kv.2)).map fun ds=>.dict (es.zip ds)
    | none=>none
   | some (.fz _)=>none
   | none=>none)=some d:=e
  rw[fC] at r;obtain⟨a,ea,rfl⟩:=r;cases rv;cases q:st[k]? with
  | none=>rw[q] at e;cases e
  | some c =>
   rw[q] at e;have hc:=rh.at_ k c a q ea;cases c with
   | lst xs =>
    have e:(cQ (xs.map (shX st n))).map PyData.list=some d:=e;obtain⟨ds,e1,rfl⟩:=MP.mp e;obtain⟨ys,g,r3⟩:=hc;obtain⟨its,rv,p,_⟩:=I.list (SqL.of g);obtain⟨o,ho,hc,j,hd⟩:=p.isList;obtain⟨as,q1,q2⟩:=gN (dJ I rh n) r3 rv e1;obtain⟨so,hs⟩:=rh.tb.2;refine⟨_,.list ho hc hd (by simpa using q1),fun hm=>?_⟩;rcases NB.mp hm with hm|hm
    ·rw[<-hm,hs] at g;cases g
    ·exact q2 hm
   | dk kvs =>
    have e:(cQ (kvs.map fun kv=>shX st n kv.2)).map (fun ds=>PyData.dict ((kvs.map fun kv=>kD kv.1).zip ds))=some d:=e;obtain⟨ds,e1,rfl⟩:=MP.mp e;obtain⟨us,g1,g2,g3⟩:=hc;obtain⟨_,ns,vs,kv,o,es,ep,ho,hx,hd,_,hp,_⟩:=I.hok a _ g1;obtain⟨v1,v2,v3⟩:=zy kv;obtain⟨p1,p2⟩:=sO hp;rw[show (kvs.map fun kv=>shX st n kv.2)=(kvs.map (·.2)).map (shX st n) by rw[NG];rfl] at e1;obtain⟨as,q1,q2⟩:=gN (dJ I rh n) g3 v2 e1;have hl:ds.length=kvs.length:=by have:=jB e1;simpa using this
    rw[<-p2] at q1;rw[v1.symm.trans g2] at p1;have hz1:((kvs.map fun kv=>kD kv.1).zip ds).map (·.1)=(kvs.map (·.1)).map kD:=by rw[List.map_fst_zip (by simp[hl]),NG];rfl
    have hz2:((kvs.map fun kv=>kD kv.1).zip ds).map (·.2)=ds:=List.map_snd_zip (by simp[hl]);refine⟨_,.dict (kvs:=(kvs.map fun kv=>kD kv.1).zip ds) (as:=[]) (bs:=as) ho hx.1 hd (by rw[hz1];exact p1) (by rw[hz2];exact q1),fun hm=>?_⟩;rcases NB.mp hm with hm|hm
    ·rw[<-hm] at ns;simp at ns
    ·exact q2 hm
   | fz kvs=>cases e
   | od kvs =>
    obtain⟨o,ks,vs,g1,⟨ns,hx,es,ep,hd,w1,w2⟩,g3,g4⟩:=hc;obtain⟨ho,_⟩:=I.hok a _ g1;have e:(match cQ (kvs.map fun kv=>shX st n kv.1) with
     | some es=>(cQ (kvs.map fun kv=>shX st n kv.2)).map fun ds=>PyData.dict (es.zip ds)
     | none=>none)=some d:=e
    cases q1:cQ (kvs.map fun kv=>shX st n kv.1) with
    | none=>rw[q1] at e;cases e
    | some ks' =>
     rw[q1] at e;have e:(cQ (kvs.map fun kv=>shX st n kv.2)).map (fun ds=>PyData.dict (ks'.zip ds))=some d:=e;obtain⟨ds,e1,rfl⟩:=MP.mp e;rw[show (kvs.map fun kv=>shX st n kv.2)=(kvs.map (·.2)).map (shX st n) by rw[NG];rfl] at e1;rw[show (kvs.map fun kv=>shX st n kv.1)=(kvs.map (·.1)).map (shX st n) by rw[NG];rfl] at q1;obtain⟨as,b1,b2⟩:=gN (dJ I rh n) g3 w1 q1;obtain⟨bs,c1,c2⟩:=gN (dJ I rh n) g4 w2 e1;have l1:ks'.length=kvs.length:=by simpa using jB q1
     have l2:ds.length=kvs.length:=by simpa using jB e1
     have hz1:(ks'.zip ds).map (·.1)=ks':=List.map_fst_zip (by omega);have hz2:(ks'.zip ds).map (·.2)=ds:=List.map_snd_zip (by omega);refine⟨_,.dict (kvs:=ks'.zip ds) (as:=as) (bs:=bs) ho hx.1 hd (by rw[hz1];exact b1) (by rw[hz2];exact c1),fun hm=>?_⟩;rcases NB.mp hm with hm|hm
     ·rw[<-hm] at ns;simp at ns
     ·exact(M9.mp hm).elim b2 c2
theorem IT (hc:X.calm=true)(hgd:X.A.guards=some [])(hun:X.A.units+64<cLine)(b:B):gi X (Kn b) (JP X.K (eT b)):=by
 intro pins s σ H xs' us Q I r h;obtain⟨m,st,xs,rh,hx,w⟩:=h;cases b with
 | len =>
  obtain⟨x0,rfl,w⟩:=bD w;obtain⟨y,rfl,hy⟩:=hx.one';rcases tZ w with⟨z,rfl,h1,w⟩|⟨ys,h1,w⟩
  ·rw[R_str] at hy;subst hy;exact qL pins s σ H _ us Q I r ⟨_,rfl,iT h1,w.here rh (R_int.mpr rfl)⟩
  obtain⟨a,zs,rfl,g,rz⟩:=i7 rh hy h1;refine pX pins s σ H _ us Q I r ⟨a,zs,rfl,g,?_⟩;have:=w.here rh (x:=V.int ys.length) (R_int.mpr rfl);rw[rz.len] at this;exact this
 | max2 =>obtain⟨x0,y0,rfl,w⟩:=js w;obtain⟨i,j,rfl,rfl,w⟩:=b_ w;obtain⟨y,u,rfl,hy,hu⟩:=hx.two';rw[R_int] at hy hu;subst hy hu;exact y7 hc pins s σ H _ us Q I r ⟨_,_,rfl,w.here rh (R_int.mpr rfl)⟩
 | divmod =>obtain⟨x0,y0,rfl,w⟩:=js w;obtain⟨i,j,rfl,rfl,w⟩:=b_ w;obtain⟨y,u,rfl,hy,hu⟩:=hx.two';rw[R_int] at hy hu;subst hy hu;refine qf pins s σ H _ us Q I r ⟨_,_,rfl,w.1,fun p hp=>w.2.newT rh ?_ hp⟩;rw[Rs_cons',Rs_cons',Rs_nil,R_int,R_int];exact⟨rfl,rfl,rfl⟩
 | tuple1 =>
  obtain⟨x0,rfl,w⟩:=bD w;obtain⟨ys,h1,w⟩:=w;obtain⟨y,rfl,hy⟩:=hx.one';obtain⟨a,zs,rfl,g,rz⟩:=i7 rh hy h1;refine nN pins s σ H _ us Q I r ⟨a,zs,rfl,?_⟩;rcases g with g|g
  ·exact .inl ⟨g,fun p hp=>w.newT rh rz hp⟩
  ·exact .inr ⟨g,w.here rh (R_tup.mpr ⟨a,zs,rfl,g,rz⟩)⟩
 | all1 =>obtain⟨x0,rfl,w⟩:=bD w;obtain⟨ys,bs,h1,h2,w⟩:=w;obtain⟨y,rfl,hy⟩:=hx.one';obtain⟨a,zs,rfl,g,rz⟩:=dM rh hy h1;obtain⟨u,rfl,ru⟩:=o6 r;cases ru;obtain⟨its,ri,pl,_⟩:=I.list g;exact yw (I.ok.hd hc) pl.isList (oE h2 rz ri) fun h' tk k=>⟨.bl _,H,I.kept k,rfl,w.here rh (R_bl.mpr rfl)⟩
 | sortD =>obtain⟨x0,rfl,n,rfl,kvs,h1,ss,h2,h3,w⟩:=bD w;obtain⟨y,rfl,hy⟩:=hx.one';obtain⟨a,ys,rfl,_,g,r1,r2⟩:=rh.dkrd h1 hy;obtain⟨u,rfl,ru⟩:=o6 r;cases ru;exact qA hc I g (r1.trans h2) h3 fun ss' p1 p2 l hl=>(w ss' p1 p2).newL rh Cw hl
 | repr2 =>
  obtain⟨x0,rfl,w⟩:=bD w;obtain⟨y,rfl,hy⟩:=hx.one';obtain⟨u,rfl,ru⟩:=o6 r;have big:(∃n,y=.ref n)->(∃d,shX st 9 x0=some d/\(d.showable=true/\d.depth<=60/\d.shown.length<=sizeLine)/\post X.K m H Q (.str d.shown) st)->wpAny (model X.prog X.w) X.A (call (.builtin "repr") [u]) (EP X pins σ Q) X.xe s:=by rintro⟨a,rfl⟩ ⟨d,h1,⟨h2,h4,h5⟩,w⟩;obtain⟨as,ra,q1⟩:=dJ I rh 9 x0 _ u d hy ru h1;cases ru;refine repr_of_reads' ra h2 (fun _=>q1) hgd (by omega) (fun _ _ e=>e) (fun h' t tk k=>⟨.str _,H,I.kept k,⟨t,rfl⟩,w.here rh (R_str.mpr rfl)⟩) h5
  cases x0 with
  | non=>rw [R_non] at hy;subst hy;cases ru;exact P.repr_of_none ⟨.str _,H,I.tok _,⟨_,rfl⟩,(show post X.K m H Q (.str "None") st from w).here rh (R_str.mpr rfl)⟩
  | bl b=>rw [R_bl] at hy;subst hy;cases ru;exact P.repr_of_bool ⟨.str (if b then "True" else "False"),H,I.tok _,⟨_,rfl⟩,(show post X.K m H Q (.str (if b then "True" else "False")) st from w).here rh (R_str.mpr rfl)⟩
  | int i=>rw[R_int] at hy;subst hy;obtain⟨t,rfl⟩:=ru;exact P.repr_of_int w.1 ⟨.str _,H,I.tok _,⟨_,rfl⟩,w.2.here rh (R_str.mpr rfl)⟩
  | str i=>rw[R_str] at hy;subst hy;obtain⟨t,rfl⟩:=ru;exact P.repr_of_str ⟨.str _,H,I.tok _,⟨_,rfl⟩,w.2.here rh (R_str.mpr rfl)⟩ w.1
  | tup xs=>exact big (by rw[R_tup] at hy;obtain⟨a,_,rfl,_⟩:=hy;exact⟨a,rfl⟩) w
  | ref n=>exact big (by rw[fC] at hy;obtain⟨a,_,rfl⟩:=hy;exact⟨a,rfl⟩) w
  | rdl xs=>obtain⟨d,h1,_⟩:=w;cases h1
  | fn n=>obtain⟨d,h1,_⟩:=w;cases h1
  | gf n=>obtain⟨d,h1,_⟩:=w;cases h1
  | clo a us xs=>obtain⟨d,h1,_⟩:=w;cases h1
noncomputable def wo:M->String
 | .append=>"list.append"
noncomputable def KH (K:W.Frag)(w:PV->List PV->AH->EK->Prop):V->List V->Hp->VK->Prop:=fun x' xs' H Q=>∃m st x xs,RH K m H st/\R K m H x x'/\Rs K m H xs xs'/\w x xs st (post K m H Q)
theorem GQ (c:M):MtR X (wo c) (KH X.K (vi c)):=by
 intro pins s σ H x' vs' v us Q I rx rv h;obtain⟨m,st,x,vs,rh,hx,hv,w⟩:=h;cases c with
 | append =>obtain⟨n0,rfl,w⟩:=w_ w;obtain⟨x0,rfl,w⟩:=bD w;obtain⟨xs,h1,h2,w⟩:=w;obtain⟨a,ys,rfl,e,g,r⟩:=rh.lst h1 hx;obtain⟨y,rfl,hy⟩:=hv.one';exact oU pins s σ H _ _ v us Q I rx rv ⟨a,ys,y,rfl,rfl,g,by rw[<-r.len];exact jc h2,w.setL rh e (nfL g) (r.app (.one hy)) (R_non.mpr rfl)⟩
noncomputable def LC (K:W.Frag):V->V->V->Hp->(Hp->Prop)->Prop:=fun o' i' v' H Q=>∃m st o i v,RH K m H st/\R K m H o o'/\R K m H i i'/\R K m H v v'/\pS o i v st fun st'=>∀H',Ext K m H m H'->RH K m H' st'->Q H'
theorem HE (hu:X.A.units+64<cLine):GU X (LC X.K):=by
 intro pins s σ H o' i' v' ov iv u Q I ro ri rv h;obtain⟨m,st,o,i,v,rh,ho,hi,hv,w⟩:=h;unfold pS at w;split at w
 ·obtain⟨xs,h1,q,h2,w⟩:=w;obtain⟨a,ys,rfl,e,g,r⟩:=rh.lst h1 ho;rw[R_int] at hi;subst hi;exact zA pins s σ H _ _ _ ov iv u Q I ro ri rv ⟨a,ys,_,q,rfl,rfl,g,by rw[<-r.len];exact h2,w _ (Ext.set (ys:=ys) rh e (nfL g)) (rh.setL e (nfL g) (r.set hv q))⟩
 ·obtain⟨kvs,h1,h2,w⟩:=w;obtain⟨a,ys,rfl,e,g,r1,r2⟩:=rh.dkat h1 ho;rw[R_str] at hi;subst hi;cases ro;obtain⟨q1,q2⟩:=IU (k:=.inr _) hv r1 r2;refine xP (M_ (by omega) hu) I (DPut.k (k:=.inr _) g ?_) ri rv fun s' I'=>⟨_,I',w _ (Ext.set (ys:=[]) rh e (nfD g)) (rh.setD e (nfD g) q1 q2)⟩;have:ys.length=kvs.length:=by have:=NC List.length r1;simpa using this
  rw[this];exact yO h2
 ·exact w.elim
structure Me (X:Cx)(s:Shared)(iv:Value)(d:PyData):Prop where
 nk:isExactStrKey iv=false
 rd:∀s':Shared,s'.heap=s.heap->∃as,Reads s'.heap iv d as
 lay:PyData.canLay0 d=true
 ne:∀x:Str,PyData.eqv (.str x) d=false
 qt:∀s':Shared,s'.heap=s.heap->∀a,iv=.ref a->∀Q:Bool->Shared->Prop,Q true s'->wpAny (model X.prog X.w) X.A.in1 (eqIsQuiet 8 iv) Q X.xe s'
 hs:∀Q:Int->Shared->Prop,(∀n tk,Q n { s with toks:=tk })->wpAny (model X.prog X.w) X.A.in1 (pyHash iv) Q X.xe s
noncomputable def LX (K:W.Frag):V->Hp->(Bool->Hp->Prop)->Prop:=fun x' H Q=>∃m st x,RH K m H st/\R K m H x x'/\dZ x st (postB K m H Q)
theorem o9:∀ {x':V}{H:Hp}{Q:Bool->Hp->Prop},LX X.K x' H Q->∃k,HQ X.K x' H k/\Q k H:=by
 intro x' H Q h;obtain⟨m,st,x,rh,hx,w⟩:=h;unfold dZ at w;split at w
 ·rw[R_bl] at hx;subst hx;exact⟨_,rfl,w m H (Ext.refl _ _ _) rh⟩
 ·rw[R_non] at hx;subst hx;exact⟨_,rfl,w m H (Ext.refl _ _ _) rh⟩
 ·rw[R_int] at hx;subst hx;exact⟨_,rfl,w m H (Ext.refl _ _ _) rh⟩
 ·exact w.elim
 ·obtain⟨xs,h1,w⟩:=w;obtain⟨a,ys,rfl,g,r⟩:=i7 rh hx h1;have e:(!xs.isEmpty)=!ys.isEmpty:=by have:=r.len;cases xs <;> cases ys <;> first|rfl|(simp at this)
  refine⟨_,?_,w m H (Ext.refl _ _ _) rh⟩;rw[e];rcases g with g|g
  ·exact .inl ⟨ys,g,rfl⟩
  ·exact .inr (.inl ⟨ys,g,rfl⟩)
theorem IR (op:Operator):PIp X op (Cg X.K (nE op)):=by
 intro pins s σ H x' y' v u Q I rx ry h;obtain⟨m,st,x,y,rh,hx,hy,w⟩:=h;unfold nE at w;split at w
 ·rw[R_int] at hx hy;subst hx hy;exact GN pins s σ H _ _ v u Q I rx ry ⟨_,_,rfl,rfl,w.here rh (R_int.mpr rfl)⟩
 ·rw[R_int] at hx hy;subst hx hy;exact H_ pins s σ H _ _ v u Q I rx ry ⟨_,_,rfl,rfl,w.here rh (R_int.mpr rfl)⟩
 ·obtain⟨xs,zs,h1,h2,h3,w⟩:=w;obtain⟨a,ys,rfl,e,g,r⟩:=rh.lst h1 hx;obtain⟨b,ys2,rfl,e2,g2,r2⟩:=rh.lst h2 hy;exact Ir pins s σ H _ _ v u Q I rx ry ⟨a,b,ys,ys2,rfl,rfl,g,g2,by rw[<-r.len,<-r2.len];exact iT h3,w.setL rh e (nfL g) (r.app r2) hx⟩
 ·exact w.elim
end
end FW
namespace FW
open L2 HX
mutual
noncomputable def PV.same:PV->PV->Bool
 | .non,y=>match y with | .non=>true|_=>false
 | .bl a,y=>match y with | .bl b=>a == b|_=>false
 | .int a,y=>match y with | .int b=>a == b|_=>false
 | .str a,y=>match y with | .str b=>a == b|_=>false
 | .tup xs,y=>match y with | .tup ys=>PV.sames xs ys|_=>false
 | .ref a,y=>match y with | .ref b=>a == b|_=>false
 | .rdl xs,y=>match y with | .rdl ys=>PV.sames xs ys|_=>false
 | .fn a,y=>match y with | .fn b=>a == b|_=>false
 | .gf a,y=>match y with | .gf b=>a == b|_=>false
 | .clo _ _ _,_=>false
noncomputable def PV.sames:List PV->List PV->Bool
 | [],y=>y.isEmpty
 | x::xs,y=>match y with|y::ys=>x.same y && PV.sames xs ys | []=>false
end
mutual
theorem PV.same_eq:∀ {x y:PV},x.same y=true->x=y
 | .non,y,h=>by cases y with|non=>rfl|_=>exact Bool.noConfusion (show false=true from h)
 | .bl a,y,h=>by cases y with|bl b=>rw[eq_of_beq (show (a == b)=true from h)] | _=>exact Bool.noConfusion (show false=true from h)
 | .int a,y,h=>by cases y with|int b=>rw[eq_of_beq (show (a == b)=true from h)] | _=>exact Bool.noConfusion (show false=true from h)
 | .str a,y,h=>by cases y with|str b=>rw[eq_of_beq (show (a == b)=true from h)] | _=>exact Bool.noConfusion (show false=true from h)
 | .ref a,y,h=>by cases y with|ref b=>rw[eq_of_beq (show (a == b)=true from h)] | _=>exact Bool.noConfusion (show false=true from h)
 | .tup xs,y,h=>by cases y with|tup ys=>rw[PV.sames_eq (show PV.sames xs ys=true from h)] | _=>exact Bool.noConfusion (show false=true from h)
 | .rdl xs,y,h=>by cases y with|rdl ys=>rw[PV.sames_eq (show PV.sames xs ys=true from h)] | _=>exact Bool.noConfusion (show false=true from h)
 | .fn a,y,h=>by cases y with|fn b=>rw[eq_of_beq (show (a == b)=true from h)] | _=>exact Bool.noConfusion (show false=true from h)
 | .gf a,y,h=>by cases y with|gf b=>rw[eq_of_beq (show (a == b)=true from h)] | _=>exact Bool.noConfusion (show false=true from h)
 | .clo _ _ _,y,h=>Bool.noConfusion (show false=true from h)
theorem PV.sames_eq:∀ {x y:List PV},PV.sames x y=true->x=y
 | [],y,h=>by cases y with|nil=>rfl|cons a b=>exact Bool.noConfusion (show false=true from h)
 | x::xs,y,h=>by
  cases y with
  | nil=>exact Bool.noConfusion (show false=true from h)
  | cons y ys =>have h:=(MG _ _).mp (show (x.same y && PV.sames xs ys)=true from h);rw[PV.same_eq h.1,PV.sames_eq h.2]
end
structure Cfg where
 N:List Str
 names:List (Str × NameKind)
 fns:List Str
 lim:Nat
 blts:List Str
 gl:List (Str × PV)
 pc:Bool:=false
 hm:Option (Nat × Option (Nat × Nat × Str)):=none
noncomputable def Cfg.vis (c:Cfg)(x:Str):Bool:=(c.names.lookup x == some .local || c.names.lookup x == some .cell || c.names.lookup x == some .free) && !(x == ("__debug__":Str)) && !(x == ("__classdict__":Str))
noncomputable def Cfg.loc (c:Cfg)(x:Str):Bool:=c.names.lookup x == some .local || c.names.lookup x == some .cell
noncomputable def Cfg.glb (c:Cfg)(x:Str):Bool:=c.names.lookup x == some .globalImplicit && !(x == ("__debug__":Str)) && !(x == ("__name__":Str))
noncomputable def Cfg.blt (c:Cfg)(x:Str):Bool:=c.glb x && c.blts.contains x
noncomputable def Cfg.fn (c:Cfg)(f:Nat)(x:Str):Bool:=c.fns[f]? == some x && decide (f<c.lim) && c.glb x
noncomputable def lB:B->Str
 | .len=>"len"
 | .max2=>"max"
 | .divmod=>"divmod"
 | .tuple1=>"tuple"
 | .all1=>"all"
 | .sortD=>"sorted"
 | .repr2=>"repr"
noncomputable def qo:M->Str
 | .append=>"append"
noncomputable def mC:Expr->Bool
 | .ListComp ..=>false
 | .SetComp ..=>false
 | .DictComp ..=>false
 | _=>true
noncomputable def uS:Expr->Bool
 | .Name ..=>true
 | .Call ..=>true
 | .Subscript ..=>true
 | _=>false
mutual
noncomputable def Tg.low (n:Nat):Tg->Bool
 | .name i=>decide (i<n)
 | .tup ts=>Tgs.low n ts
 | .sub _ _=>false
noncomputable def Tgs.low (n:Nat):Tgs->Bool
 | .nil=>true
 | .cons t ts=>Tg.low n t && Tgs.low n ts
end
noncomputable def iA:Expr->Bool
 | .Set ..=>false
 | _=>true
noncomputable def Cfg.inner (c:Cfg)(nt:List Str)(caps:List Nat)(sc:Scope):Cfg:={ c with N:=nt++caps.filterMap (c.N[·]?),names:=sc.names,pc:=false,hm:=none }
noncomputable def xS (k:Option NameKind):Bool:=k == some .cell || k == some .free
noncomputable def Cfg.block (c:Cfg)(nt:List Str)(caps:List Nat)(sc:Scope):Bool :=
 sc.kind == .function && sc.names.all (fun y=>!(y.2 == .cell)) && sc.names.all (fun y=>!(y.2 == .local) || sc.names.lookup y.1 == some .local) && sc.names.all (fun y=>!(y.2 == .free) || xS (c.names.lookup y.1))
  && caps.all (fun i=>decide (i<c.N.length)) && (caps.filterMap (c.N[·]?)).all (fun x=>sc.names.lookup x == some .free && xS (c.names.lookup x)) && decide (nt++caps.filterMap (c.N[·]?)).Nodup
noncomputable def vZ:It->Expr->Bool
 | .seq _,_ | .range1 _,_=>true
noncomputable def gA:Expr->Bool
 | .Name ..=>true
 | .List ..=>true
 | .Subscript ..=>true
 | .ListComp ..=>true
 | _=>false
noncomputable def aA (x:Expr)(f:Str->Pos->Bool):Bool:=match x with | .Name y p=>f y p|_=>false
theorem ai (h:aA x f=true):∃y p,x=.Name y p/\f y p=true:=by cases x with|Name y p=>exact⟨y,p,rfl,h⟩|_=>exact Bool.noConfusion h
noncomputable def F7 (x:Expr)(f:Int->Bool):Bool:=match x with | .Constant (.int j) _ _=>f j|_=>false
theorem yd (h:F7 x f=true):∃j k p,x=.Constant (.int j) k p/\f j=true:=by
 cases x with
 | Constant v k p=>cases v with|int j=>exact⟨j,k,p,rfl,h⟩|_=>exact Bool.noConfusion h
 | _=>exact Bool.noConfusion h
noncomputable def KN (x:Expr)(f:Bool->Bool):Bool:=match x with | .Constant (.bool j) _ _=>f j|_=>false
theorem Aj (h:KN x f=true):∃j k p,x=.Constant (.bool j) k p/\f j=true:=by
 cases x with
 | Constant v k p=>cases v with|bool j=>exact⟨j,k,p,rfl,h⟩|_=>exact Bool.noConfusion h
 | _=>exact Bool.noConfusion h
noncomputable def vT (x:Expr)(f:Str->Bool):Bool:=match x with | .Constant (.str j) _ _=>f j|_=>false
theorem jS (h:vT x f=true):∃j k p,x=.Constant (.str j) k p/\f j=true:=by
 cases x with
 | Constant v k p=>cases v with|str j=>exact⟨j,k,p,rfl,h⟩|_=>exact Bool.noConfusion h
 | _=>exact Bool.noConfusion h
noncomputable def GG (x:Expr):Bool:=match x with | .Constant .none _ _=>true|_=>false
theorem yr (h:GG x=true):∃k p,x=.Constant .none k p:=by
 cases x with
 | Constant v k p=>cases v with|none=>exact⟨k,p,rfl⟩|_=>exact Bool.noConfusion h
 | _=>exact Bool.noConfusion h
noncomputable def eO (x:Expr)(f:List Expr->Bool):Bool:=match x with | .Tuple xs _ _=>f xs|_=>false
theorem bw (h:eO x f=true):∃xs k p,x=.Tuple xs k p/\f xs=true:=by cases x with|Tuple xs k p=>exact⟨xs,k,p,rfl,h⟩|_=>exact Bool.noConfusion h
noncomputable def jQ (x:Expr)(f:List Expr->Bool):Bool:=match x with | .List xs _=>f xs|_=>false
theorem dP (h:jQ x f=true):∃xs p,x=.List xs p/\f xs=true:=by cases x with|List xs p=>exact⟨xs,p,rfl,h⟩|_=>exact Bool.noConfusion h
noncomputable def on1 {α:Type}(xs:List α)(f:α->Bool):Bool:=match xs with | [a]=>f a|_=>false
theorem bL {α:Type}{xs:List α}{f:α->Bool}(h:on1 xs f=true):∃a,xs=[a]/\f a=true:=by
 cases xs with
 | nil=>exact Bool.noConfusion h
 | cons a t=>cases t with|nil=>exact⟨a,rfl,h⟩|cons _ _=>exact Bool.noConfusion h
noncomputable def on2 {α:Type}(xs:List α)(f:α->α->Bool):Bool:=match xs with | [a,b]=>f a b|_=>false
theorem fP {α:Type}{xs:List α}{f:α->α->Bool}(h:on2 xs f=true):∃a b,xs=[a,b]/\f a b=true:=by
 cases xs with
 | nil=>exact Bool.noConfusion h
 | cons a t=>cases t with
  | nil=>exact Bool.noConfusion h
  | cons b t=>cases t with|nil=>exact⟨a,b,rfl,h⟩|cons _ _=>exact Bool.noConfusion h
noncomputable def on3 {α:Type}(xs:List α)(f:α->α->α->Bool):Bool:=match xs with | [a,b,c]=>f a b c|_=>false
theorem Ef {α:Type}{xs:List α}{f:α->α->α->Bool}(h:on3 xs f=true):∃a b c,xs=[a,b,c]/\f a b c=true:=by
 cases xs with
 | nil=>exact Bool.noConfusion h
 | cons a t=>cases t with
  | nil=>exact Bool.noConfusion h
  | cons b t=>cases t with
   | nil=>exact Bool.noConfusion h
   | cons c t=>cases t with|nil=>exact⟨a,b,c,rfl,h⟩|cons _ _=>exact Bool.noConfusion h
noncomputable def onCons {α:Type}(xs:List α)(f:α->List α->Bool):Bool:=match xs with|a::t=>f a t | []=>false
theorem aq {α:Type}{xs:List α}{f:α->List α->Bool}(h:onCons xs f=true):∃a t,xs=a::t/\f a t=true:=by
 cases xs with
 | nil=>exact Bool.noConfusion h
 | cons a t=>exact⟨a,t,rfl,h⟩
noncomputable def du {α:Type}(x:Option α)(f:α->Bool):Bool:=match x with|some a=>f a|none=>false
theorem bg {α:Type}{x:Option α}{f:α->Bool}(h:du x f=true):∃a,x=some a/\f a=true:=by
 cases x with
 | none=>exact Bool.noConfusion h
 | some a=>exact⟨a,rfl,h⟩
noncomputable def ve (x:Expr)(f:List (Option Expr)->List Expr->Bool):Bool:=match x with | .Dict ks vs _=>f ks vs|_=>false
theorem mq (h:ve x f=true):∃ks vs p,x=.Dict ks vs p/\f ks vs=true:=by cases x with|Dict ks vs p=>exact⟨ks,vs,p,rfl,h⟩|_=>exact Bool.noConfusion h
noncomputable def Au (x:Expr)(f:Expr->Operator->Expr->Bool):Bool:=match x with | .BinOp l o r _=>f l o r|_=>false
theorem oO (h:Au x f=true):∃l o r p,x=.BinOp l o r p/\f l o r=true:=by cases x with|BinOp l o r p=>exact⟨l,o,r,p,rfl,h⟩|_=>exact Bool.noConfusion h
noncomputable def zu (x:Expr)(f:Expr->Bool):Bool:=match x with | .UnaryOp .Not y _=>f y|_=>false
theorem oN (h:zu x f=true):∃y p,x=.UnaryOp .Not y p/\f y=true:=by
 cases x with
 | UnaryOp o y p=>cases o with|Not=>exact⟨y,p,rfl,h⟩|_=>exact Bool.noConfusion h
 | _=>exact Bool.noConfusion h
noncomputable def me (x:Expr)(f:Expr->CmpOp->Expr->Bool):Bool:=match x with | .Compare l os rs _=>on1 os fun o=>on1 rs fun r=>f l o r|_=>false
theorem dN (h:me x f=true):∃l o r p,x=.Compare l [o] [r] p/\f l o r=true:=by
 cases x with
 | Compare l os rs p =>obtain⟨o,rfl,h⟩:=bL h;obtain⟨r,rfl,h⟩:=bL h;exact⟨l,o,r,p,rfl,h⟩
 | _=>exact Bool.noConfusion h
noncomputable def Aw (x:Expr)(f:PySem.BoolOp->List Expr->Bool):Bool:=match x with | .BoolOp o xs _=>f o xs|_=>false
theorem gH (h:Aw x f=true):∃o xs p,x=.BoolOp o xs p/\f o xs=true:=by cases x with|BoolOp o xs p=>exact⟨o,xs,p,rfl,h⟩|_=>exact Bool.noConfusion h
noncomputable def Ad (x:Expr)(f:Expr->Expr->Expr->Bool):Bool:=match x with | .IfExp y l r _=>f y l r|_=>false
theorem oq (h:Ad x f=true):∃y l r p,x=.IfExp y l r p/\f y l r=true:=by cases x with|IfExp y l r p=>exact⟨y,l,r,p,rfl,h⟩|_=>exact Bool.noConfusion h
noncomputable def oF (x:Expr)(f:Expr->Expr->Bool):Bool:=match x with | .Subscript l r _=>f l r|_=>false
theorem dO (h:oF x f=true):∃l r p,x=.Subscript l r p/\f l r=true:=by cases x with|Subscript l r p=>exact⟨l,r,p,rfl,h⟩|_=>exact Bool.noConfusion h
noncomputable def wc (x:Expr)(f:Option Expr->Option Expr->Bool):Bool:=match x with | .Slice u v none _=>f u v|_=>false
theorem t_ (h:wc x f=true):∃u v p,x=.Slice u v none p/\f u v=true:=by
 cases x with
 | Slice u v w p=>cases w with|none=>exact⟨u,v,p,rfl,h⟩|some _=>exact Bool.noConfusion h
 | _=>exact Bool.noConfusion h
noncomputable def onCall (x:Expr)(f:Expr->List Expr->Pos->Bool):Bool:=match x with | .Call g xs [] p=>f g xs p|_=>false
theorem aP (h:onCall x f=true):∃g xs p,x=.Call g xs [] p/\f g xs p=true:=by
 cases x with
 | Call g xs ks p=>cases ks with|nil=>exact⟨g,xs,p,rfl,h⟩|cons _ _=>exact Bool.noConfusion h
 | _=>exact Bool.noConfusion h
noncomputable def iG (x:Expr)(f:Expr->Str->Pos->Bool):Bool:=match x with | .Attribute y n p=>f y n p|_=>false
theorem cP (h:iG x f=true):∃y n p,x=.Attribute y n p/\f y n p=true:=by cases x with|Attribute y n p=>exact⟨y,n,p,rfl,h⟩|_=>exact Bool.noConfusion h
noncomputable def D0 (x:Expr)(f:Expr->List Comprehension->Scope->Pos->Bool):Bool:=match x with | .ListComp e gs sc p=>f e gs sc p|_=>false
theorem jo (h:D0 x f=true):∃e gs sc p,x=.ListComp e gs sc p/\f e gs sc p=true:=by cases x with|ListComp e gs sc p=>exact⟨e,gs,sc,p,rfl,h⟩|_=>exact Bool.noConfusion h
noncomputable def I_ (x:Expr)(f:Expr->Expr->List Comprehension->Scope->Pos->Bool):Bool:=match x with | .DictComp k v gs sc p=>f k v gs sc p|_=>false
theorem Cr (h:I_ x f=true):∃k v gs sc p,x=.DictComp k v gs sc p/\f k v gs sc p=true:=by cases x with|DictComp k v gs sc p=>exact⟨k,v,gs,sc,p,rfl,h⟩|_=>exact Bool.noConfusion h
noncomputable def yb (wk:DW)(x:Expr)(f:Expr->Bool):Bool:=match wk with
 | .keys=>iA x && f x
 | .values=>onCall x fun g xs cp=>iG g fun y n ap=>n == ("values":Str) && ap.endLine == cp.line && xs.isEmpty && gA y && f y
theorem yc (h:yb .keys x f=true):iA x=true/\f x=true:=by unfold yb at h;rw[MG] at h;exact h
theorem sE (h:yb .values x f=true):∃y ap cp,x=.Call (.Attribute y "values" ap) [] [] cp/\(ap.endLine == cp.line)=true/\gA y=true/\f y=true:=by
 unfold yb at h;replace h:=aP h;obtain⟨g,xs,cp,rfl,h⟩:=h;replace h:=cP h;obtain⟨y,n,ap,rfl,h⟩:=h;simp only[Bool.and_eq_true,beq_iff_eq] at h;obtain⟨⟨⟨⟨h1,h2⟩,h3⟩,h4⟩,h5⟩:=h;subst h1;cases xs with
 | nil=>exact⟨y,ap,cp,rfl,by rw[h2];simp,h4,h5⟩
 | cons _ _=>cases h3
noncomputable def JS:DW->Expr->Bool
 | .keys,_=>true
 | .values,_=>true
theorem He {α β:Type}{xs:List α}{ys:List β}(h:(xs.isEmpty && ys.isEmpty)=true):xs=[]/\ys=[]:=by
 cases xs with
 | nil=>cases ys with|nil=>exact⟨rfl,rfl⟩|cons _ _=>exact Bool.noConfusion h
 | cons _ _=>exact Bool.noConfusion h
theorem yC {α:Type}{x:Option α}(h:x.isNone=true):x=none:=by cases x with|none=>rfl|some _=>exact Bool.noConfusion h
noncomputable def pP (x:Arguments)(f:Str->Str->Bool):Bool:=x.posonlyargs.isEmpty && x.vararg.isNone && x.kwonlyargs.isEmpty && x.kw_defaults.isEmpty && x.kwarg.isNone && x.defaults.isEmpty && on2 x.args fun a b=>f a.arg b.arg
noncomputable def E.isVar (e:E)(i:Nat):Bool:=match e with | .var j=>j == i|_=>false
noncomputable def E.onCall (e:E)(f:Nat->Es->Bool):Bool:=match e with | .call g es=>f g es|_=>false
noncomputable def Es.onCons (e:Es)(f:E->Es->Bool):Bool:=match e with | .cons a r=>f a r | .nil=>false
noncomputable def Es.isNil (e:Es):Bool:=match e with | .nil=>true | .cons _ _=>false
noncomputable def vB (g:Nat)(e:E):Bool:=e.onCall fun h es=>h == g && es.onCons fun a r=>a.isVar 2 && r.onCons fun b r=>b.isVar 0 && r.onCons fun d r=>d.isVar 1 && r.isNil
noncomputable def Fv (x:Expr)(f:Arguments->Expr->Scope->Bool):Bool:=match x with | .Lambda a b sc _=>f a b sc|_=>false
theorem xH (h:Fv x f=true):∃a b sc p,x=.Lambda a b sc p/\f a b sc=true:=by cases x with|Lambda a b sc p=>exact⟨a,b,sc,p,rfl,h⟩|_=>exact Bool.noConfusion h
noncomputable def Cfg.lam (c:Cfg)(k:Nat)(ys:List Str)(caps:List Nat)(sc:Scope):Cfg:={ c with N:=ys++caps.filterMap (c.N[·]?),names:=sc.names,lim:=k,pc:=false,hm:=none }
noncomputable def Cfg.lamOk (c:Cfg)(k:Nat)(ys:List Str)(caps:List Nat)(sc:Scope):Bool :=
 sc.kind == .function && !sc.isCoroutine && !sc.isGenerator && sc.names.all (fun y=>!(y.2 == .cell)) && ys.all (fun y=>sc.names.lookup y == some .local) && sc.names.all (fun y=>!(y.2 == .local) || sc.names.lookup y.1 == some .local) && sc.names.all (fun y=>!(y.2 == .free) || xS (c.names.lookup y.1))
  && decide (k+1<c.lim) && caps.all (fun i=>decide (i<c.N.length)) && (caps.filterMap (c.N[·]?)).all (fun x=>sc.names.lookup x == some .free && xS (c.names.lookup x)) && decide (ys++caps.filterMap (c.N[·]?)).Nodup
mutual
noncomputable def aS (c:Cfg):E->Expr->Bool
 | .var i,x=>aA x fun y _=>c.N[i]? == some y && c.vis y
 | .int i,x=>F7 x fun j=>i == j
 | .bl i,x=>KN x fun j=>i == j
 | .non,x=>GG x
 | .str i,x=>vT x fun j=>i == j
 | .gv y v,x=>aA x fun z _=>z == y && c.glb y && du (c.gl.lookup y) fun w=>w.same v
 | .tup es,x=>eO x fun xs=>cG c es xs
 | .lst es,x=>jQ x fun xs=>cG c es xs
 | .dct0,x=>ve x fun ks vs=>ks.isEmpty && vs.isEmpty
 | .bin op a b,x=>Au x fun l o r=>o == op && aS c a l && aS c b r
 | .not a,x=>zu x fun y=>aS c a y
 | .cmp op a b,x=>me x fun l o r=>o == op && !behindInMarks o r && aS c a l && aS c b r
 | .bop k es,x=>Aw x fun o xs=>(o == if k then .And else .Or) && cG c es xs && !xs.isEmpty
 | .ite t a b,x=>Ad x fun y l r=>vz c t y && aS c a l && aS c b r
 | .ix a b,x=>oF x fun l r=>jF r && aS c a l && aS c b r
 | .sl a lo hi,x=>oF x fun l r=>wc r fun u v=>aS c a l && HV c lo u && HV c hi v
 | .call f es,x=>onCall x fun g xs _=>aA g fun y _=>c.fn f y && xs.all ar && cG c es xs
 | .blt b es,x=>onCall x fun g xs _=>aA g fun y _=>y == lB b && c.blt y && xs.all ar && !xs.isEmpty && cG c es xs
 | .met m o es,x=>onCall x fun g xs cp=>iG g fun y n ap=>n == qo m && ap.endLine == cp.line && xs.all ar && decide (xs.length<=2) && gA y && aS c o y && cG c es xs
 | .comp elt tg it ifs nt caps,x=>D0 x fun ex gs sc _=>on1 gs fun g=>g.is_async == 0 && vZ it g.target && iA g.iter && tg.low nt.length && c.block nt caps sc && xj c it g.iter && jj (c.inner nt caps sc) tg g.target && pD (c.inner nt caps sc) ifs g.ifs && aS (c.inner nt caps sc) elt ex
 | .tmp a,x=>aS c a x
 | .dct2 k v,x=>ve x fun ks vs=>on1 ks fun ok=>du ok fun kx=>on1 vs fun vx=>aS c k kx && aS c v vx
 | .eqd ne a b,x=>me x fun l o r=>(o == if ne then .NotEq else .Eq) && !behindInMarks o r && aS c a l && aS c b r
 | .bad,_=>true
 | .un .isE a,x=>me x fun l o r=>jQ r fun xs=>o == .Eq && xs.isEmpty && aS c a l
 | .clr a,x=>onCall x fun g xs cp=>iG g fun y n ap=>n == ("clear":Str) && ap.endLine == cp.line && xs.isEmpty && gA y && aS c a y
 | .pcg i g n es,x=>onCall x fun h xs _=>aA h fun y _=>onCons xs fun l r=>c.N[i]? == some y && c.vis y && c.fns[g]? == some n && decide (g<c.lim) && ar l && r.all ar && cG c es (l::r)
 | .pcl i es,x=>c.pc && onCall x fun h xs _=>aA h fun y _=>onCons xs fun l r=>c.N[i]? == some y && c.vis y && ar l && r.all ar && cG c es (l::r)
 | .plm f g a b be gn cap,x=>du c.hm fun k=>du k.2 fun t=>onCall x fun h xs _=>aA h fun y _=>onCons xs fun x1 r=>on3 r fun x2 x3 x4=>Fv x3 fun as bd sc=>pP as fun p q=>aA x4 fun z _ =>
   t.1 == f && t.2.1 == g && y == t.2.2 && c.glb y && ar x1 && ar x2 && z == gn && c.glb z && du (c.gl.lookup z) (fun w=>w.same (.gf gn)) && vB g be && c.lamOk k.1 [p,q] [cap] sc && aS c a x1 && aS c b x2 && aS (c.lam k.1 [p,q] [cap] sc) be bd
termination_by structural e=>e
noncomputable def cG (c:Cfg):Es->List Expr->Bool
 | .nil,xs=>xs.isEmpty
 | .cons e es,xs=>onCons xs fun y ys=>ar y && aS c e y && cG c es ys
termination_by structural e=>e
noncomputable def HV (c:Cfg):O->Option Expr->Bool
 | .no,x=>x.isNone
 | .yes e,x=>du x fun y=>aS c e y
termination_by structural e=>e
noncomputable def vz (c:Cfg):E->Expr->Bool
 | .not a,x=>zu x fun y=>vz c a y
 | .bop k es,x=>Aw x fun o xs=>(o == if k then .And else .Or) && !xs.isEmpty && pD c es xs
 | .cmp op a b,x=>me x fun l o r=>o == op && !behindInMarks o r && aS c a l && aS c b r
 | .var i,x=>aA x fun y _=>c.N[i]? == some y && c.vis y
 | .call f es,x=>onCall x fun g xs _=>aA g fun y _=>c.fn f y && xs.all ar && cG c es xs
 | .blt b es,x=>onCall x fun g xs _=>aA g fun y _=>y == lB b && c.blt y && xs.all ar && !xs.isEmpty && cG c es xs
 | .tmp a,x=>uS x && aS c a x
 | .ix a b,x=>oF x fun l r=>jF r && aS c a l && aS c b r
 | .pcg i g n es,x=>onCall x fun h xs _=>aA h fun y _=>onCons xs fun l r=>c.N[i]? == some y && c.vis y && c.fns[g]? == some n && decide (g<c.lim) && ar l && r.all ar && cG c es (l::r)
 | .eqd ne a b,x=>me x fun l o r=>(o == if ne then .NotEq else .Eq) && !behindInMarks o r && aS c a l && aS c b r
 | .un .isE a,x=>me x fun l o r=>jQ r fun xs=>o == .Eq && xs.isEmpty && aS c a l
 | .dct2 _ _,_ | .pcl _ _,_ | .plm _ _ _ _ _ _ _,_ | .bl _,_ | .int _,_ | .non,_ | .str _,_ | .gv _ _,_ | .tup _,_ | .lst _,_ | .dct0,_ | .bin _ _ _,_ | .ite _ _ _,_ | .sl _ _ _,_ | .met _ _ _,_ | .comp _ _ _ _ _ _,_ | .bad,_ | .clr _,_=>true
termination_by structural e=>e
noncomputable def pD (c:Cfg):Es->List Expr->Bool
 | .nil,xs=>xs.isEmpty
 | .cons e es,xs=>onCons xs fun y ys=>vz c e y && pD c es ys
termination_by structural e=>e
noncomputable def xj (c:Cfg):It->Expr->Bool
 | .seq e,x=>iA x && aS c e x
 | .range1 a,x=>onCall x fun g xs _=>aA g fun y _=>on1 xs fun l=>y == ("range":Str) && c.blt y && ar l && aS c a l
termination_by structural e=>e
noncomputable def jj (c:Cfg):Tg->Expr->Bool
 | .name i,x=>aA x fun y _=>c.N[i]? == some y && c.loc y
 | .tup ts,x=>eO x fun xs=>qm c ts xs
 | .sub o i,x=>oF x fun l r=>jF r && aS c o l && aS c i r
termination_by structural e=>e
noncomputable def qm (c:Cfg):Tgs->List Expr->Bool
 | .nil,xs=>xs.isEmpty
 | .cons t ts,xs=>onCons xs fun y ys=>ar y && jj c t y && qm c ts ys
termination_by structural e=>e
end
end FW
namespace FW
open L2 HX
noncomputable def bj (K:W.Frag)(sp:FSp):Sp:=fun vs H Q _=>∃m st as,Rs K m H as vs/\RH K m H st/\sp as st (post K m H Q)
def Ap (P:Program)(w:World)(K:W.Frag)(mg:Str->Option Value)(base:Heap)(k:Nat)(outer:List Env)(s:Shared)(H:Hp)(a:Addr)(n:Nat)(cs:List V)(L:FSp):Prop :=
 ∀(A':Around) (outer':List Env) (s':Shared) (H':Hp) (us:List Value) (vs:List V) (Q':VK),vs.length=n->Room k A'->Env0 P w K mg base A' outer' s' H'->Un (frs outer) [] H H' s.heap s'.heap->Vals vs us->bj K L (cs++vs) H' Q' E0 ->
  W.FnAt a s'.heap/\codeAny (model P w) A' (.call (.ref a) ⟨us,[]⟩) (CR CX0 outer' P w H' s' Q' E0) s'
def Jn (L:FSp):Prop:=∀as st Q Q',(∀v st,Q v st->Q' v st)->L as st Q->L as st Q'
def LI (a:Nat)(L:FSp):FSp:=fun as st Q=>∃(xs:List PV) (g:PV->Bool),as=[.tup xs,.fn a]/\xs.length<=100000/\(∀y∈xs,∀Q':EK,Q' (.bl (g y)) st->L [y] st Q')/\Q (.int (bsr g xs)) st
structure JQ (P:Program)(w:World)(K:W.Frag)(mg:Str->Option Value)(base:Heap)(k:Nat):Prop where
 ex:∃f fd,mg "how_many"=some (.ref f)/\W.keepIn K (.ref f)=true/\Binds K fd ["stair","holds"] [] /\
  ∀(a:Addr) (L:FSp),Jn L->∀(A:Around) (outer:List Env) (s:Shared) (H:Hp) (args:Args) (us:List Value) (vs:List V) (Q:VK),Room (k+1) A->Env0 P w K mg base A outer s H->BindsTo s fd args ((["stair","holds"]:List Str).zip us)->Vals vs us ->
   Ap P w K mg base k outer s H a 1 [] L->bj K (LI a L) vs H Q E0->codeAny (model P w) A (.call (.ref f) args) (CR CX0 outer P w H s Q E0) s
structure AC (P:Program)(w:World)(K:W.Frag)(mg:Str->Option Value)(base:Heap)(k f g:Nat)(y:Str)(Γ:Nat->FSp):Prop where
 ex:∃fa fd ps,mg y=some (.ref fa)/\W.keepIn K (.ref fa)=true/\ps.length=4/\Binds K fd ps [] /\
  ∀(a:Addr) (cs:List V) (A:Around) (outer:List Env) (s:Shared) (H:Hp) (args:Args) (us:List Value) (vs:List V) (Q:VK),Room (k+1) A->Env0 P w K mg base A outer s H->BindsTo s fd args (ps.zip us)->Vals vs us ->
   Ap P w K mg base k outer s H a 2 cs (Γ g)->bj K (fun as st Q=>(∃x y ds z,as=[x,y,.clo a cs ds,z])/\Γ f as st Q) vs H Q E0->codeAny (model P w) A (.call (.ref fa) args) (CR CX0 outer P w H s Q E0) s
structure HmX (X:Cx)(Γ:Nat->FSp)(k:Nat × Option (Nat × Nat × Str)):Prop where
 ok:k.2=none->JQ X.prog X.w X.K X.mg X.base (k.1+1)
 pb:∀t,k.2=some t->AC X.prog X.w X.K X.mg X.base (k.1+1) t.1 t.2.1 t.2.2 Γ
 cd:∃x c0 T,x∈aW/\W.tabIn X.K x=some (c0,T)/\X.env.code=.ref c0/\X.env.qual=x++".<locals>."/\W.CodeHd X.base c0 T
 bm:∃bm ob,X.mg "__builtins__"=some (.ref bm)/\bm≠builtinsNs/\X.base.get? bm=some ob/\ob.cls=.type "module"/\ob.dict=some builtinsNs/\ob.data=.plain
structure COk (X:Cx)(c:Cfg)(Γ:Nat->FSp):Prop where
 calm:X.calm=true
 pass:PassesOwn (model X.prog X.w) X.A X.env X.xe
 N:X.N=c.N
 nd:c.N.Nodup
 vis:∀x,c.names.lookup x=some .local\/c.names.lookup x=some .cell\/c.names.lookup x=some .free->Vis X.env.scope x
 loc:∀x,c.names.lookup x=some .local\/c.names.lookup x=some .cell->Loc X.env.scope x/\(X.fn x=true\/X.env.scope.names.lookup x=some .local)
 lcl:∀x,c.names.lookup x=some .local->X.env.scope.names.lookup x=some .local
 glb:∀x,c.names.lookup x=some .globalImplicit->Gl X x
 bk:X.env.blockKind=.function
 cel:∀x,c.names.lookup x=some .cell\/c.names.lookup x=some .free->X.env.kindOf x=some .cell\/X.env.kindOf x=some .free
 room:Room c.lim X.A
 fn:∀f x,f<c.lim->c.fns[f]?=some x->∃ps,Has X.prog X.w X.K X.mg X.base (f+1) x ps (bj X.K (Γ f))
 blt:∀x∈c.blts,X.mg x=none
 gl:∀x v,c.gl.lookup x=some v->∃u y,X.mg x=some u/\RelV y u/\∀m H,R X.K m H v y
 mono:aJ Γ
 lam:c.pc=true->∀ {pins:List (Addr × Obj)}{σ:L2.St}{H:Hp}{s:Shared}{b:Addr}{us:List Value}{vs:List V}{Q:VK},L2.Inv X pins σ H s->Vals vs us->bj X.K (Γ 1000) (.ref b::vs) H Q E0 ->
  W.FnAt b s.heap/\wpAny (model X.prog X.w) X.A (call (.ref b) us) (EP X pins σ Q) X.xe s
 hmo:∀k,c.hm=some k->HmX X Γ k
section
variable {X:Cx}{c:Cfg}{Γ:Nat->FSp}
theorem COk.visx (C:COk X c Γ)(h:c.vis x=true):Vis X.env.scope x/\(x == ("__debug__":Str))=false/\(x == ("__classdict__":Str))=false:=by unfold Cfg.vis at h;simp only[Bool.and_eq_true,Bool.or_eq_true,beq_iff_eq,Bool.not_eq_true'] at h;exact⟨C.vis x (by rcases h.1.1 with (h|h)|h <;> simp[h]),h.1.2,h.2⟩
theorem COk.glbx (C:COk X c Γ)(h:c.glb x=true):Gl X x/\(x == ("__debug__":Str))=false/\x≠"__name__":=by unfold Cfg.glb at h;simp only[Bool.and_eq_true,beq_iff_eq,Bool.not_eq_true'] at h;exact⟨C.glb x h.1.1,h.1.2,fun z=>by rw[z] at h;exact absurd h.2 (by decide)⟩
theorem COk.bltx (C:COk X c Γ)(h:c.blt x=true):Gl X x/\(x == ("__debug__":Str))=false/\x≠"__name__"/\X.mg x=none:=by unfold Cfg.blt at h;rw[MG] at h;obtain⟨h1,h2,h3⟩:=C.glbx h.1;exact⟨h1,h2,h3,C.blt x (List.contains_iff_mem.mp h.2)⟩
theorem COk.fnx (C:COk X c Γ)(h:c.fn f x=true):Gl X x/\(x == ("__debug__":Str))=false/\Room (f+1) X.A/\∃ps,Has X.prog X.w X.K X.mg X.base (f+1) x ps (bj X.K (Γ f)):=by unfold Cfg.fn at h;simp only[Bool.and_eq_true,beq_iff_eq,decide_eq_true_eq] at h;obtain⟨h1,h2,h3⟩:=C.glbx h.2;exact⟨h1,h2,C.room.mono h.1.2,C.fn f x h.1.2 h.1.1⟩
theorem JR:∀b:B,bootBuiltins (lB b)=some (Kn b):=by intro b;cases b <;> decide +kernel
theorem kq:bootBuiltins ("isinstance":Str)=some (.builtin "isinstance"):=by decide +kernel
theorem vj (h:uS x=true)(env:Env):∀whole,isTrue x env whole=(do let v <-whole;standAt x.pos;holding [v] (truthy v)):=by cases x <;> first|(intro _;rfl)|cases h
theorem mD (h:Rs K m H as vs):Rs K m H as (vs++[]):=by rw[OE];exact h
theorem Ak (C:COk X c Γ){i g:Nat}{ls:List Expr}(h1:c.N[i]?=some y)(h2:c.vis y=true)(h3:c.fns[g]?=some n)(h4:g<c.lim)(h5:ar l=true)(h6:ls.all ar=true)(ha:PA X (l::ls) (TAx X.K (a9 Γ es))) :
  PE X (.Call (.Name y p) (l::ls) [] pos) (TEx X.K (wpE Γ (.pcg i g n es))):=by
 rintro pins s σ H Q I ⟨m,ρ,st,rf,rh,ea,w⟩;obtain⟨x,ex,rx⟩:=rf.at_ i _ ea;rw[R_gf] at rx;obtain⟨f,rfl,hns⟩:=rx;obtain⟨ps,HF⟩:=C.fn g n h4 h3;obtain⟨f',fd,Fn,fm,fk,fb⟩:=HF.ex;have e:=(OT I.ok.mod.kin I.ok.mod.glob hns).symm.trans fm;cases e;obtain⟨v1,v2,v3⟩:=C.visx h2;have hvar:=dW (X:=X) (i:=i) (x:=y) (pos:=p) (by rw[C.N];exact h1) v1 v2 v3 pins s σ H (fun v H'=>v=V.ref f/\H'=H) I ⟨_,ex,rfl,rfl⟩;refine wpAny_Call_Name_kw (thn hvar ?_);rintro u s1 ⟨v,H1,I1,rv,rfl,rfl⟩;obtain rfl:u=.ref f:=rv;refine PY (h₀:=X.base) I.ok.mod.kin fk (thn (ha pos pins s1 σ H1 (fun vs H2=>bj X.K (Γ g) vs H2 Q E0) I1 ⟨m,ρ,st,rf,rh,au C.mono es (fun vs st1 k m1 H2 xs1 e1 r1 r2=>⟨m1,st1,vs,r2,r1,C.mono _ _ _ _ _ (fun _ _ q=>q.ext e1) k⟩) w⟩) fun us s2 ⟨vs,H2,I2,r,q⟩=>⟨I2.kIn,?_⟩) (aO h5) (d_ h6);exact uh (dvs:=[]) (ds:=[]) Fn (C.room.mono (by omega)) fb .nil (fun _ _ _ _ _ _ _ z=>z.elim) I2 r (by rw[OE];exact q)
theorem sJ (C:COk X c Γ){xs:List Expr}(hf:c.fn f y=true)(hn:xs.all ar=true)(hc:cG c es xs=true)(ha:PA X xs (TAx X.K (a9 Γ es))) :
  PE X (.Call (.Name y p) xs [] pos) (TEx X.K fun ρ st Q=>a9 Γ es ρ st fun vs st1=>Γ f vs st1 Q):=by
 obtain⟨h1,h2,hr,ps,F⟩:=C.fnx hf;have key:∀ {σ:L2.St}{H:Hp}{Q:VK},TEx X.K (fun ρ st Q=>a9 Γ es ρ st fun vs st1=>Γ f vs st1 Q) σ H Q->kK (bj X.K (Γ f)) [] E0 (TAx X.K (a9 Γ es)) σ H Q:=by rintro σ H Q ⟨m,ρ,st,rf,rh,w⟩;exact⟨m,ρ,st,rf,rh,au C.mono es (fun vs st1 k m1 H1 xs1 e1 r1 r2=>⟨m1,st1,vs,mD r2,r1,C.mono _ _ _ _ _ (fun _ _ q=>q.ext e1) k⟩) w⟩
 intro pins s σ H Q I h;cases xs with
 | nil =>
  refine C_ F hr h1 h2 pins s σ H Q I ?_;obtain⟨m,ρ,st,rf,rh,w⟩:=h;cases es with
  | nil=>exact⟨m,st,[],Rs_nil.mpr rfl,rh,w⟩
  | cons e es=>exact Bool.noConfusion (show false=true from hc)
 | cons x xs =>rw[OL,MG] at hn;exact DQ F hr ha h1 h2 hn.1 hn.2 pins s σ H Q I (key h)
theorem tY (C:COk X c Γ){y:Str}{xs:List Expr}(hy:y=lB b)(hb:c.blt y=true)(hn:xs.all ar=true)(hne:xs.isEmpty=false)(ha:PA X xs (TAx X.K (a9 Γ es))) :
  PE X (.Call (.Name y p) xs [] pos) (TEx X.K fun ρ st Q=>a9 Γ es ρ st fun vs st1=>eT b vs st1 Q):=by
 obtain⟨h1,h2,h3,h4⟩:=C.bltx hb;have hv:=JR b;rw[<-hy] at hv;have key:∀ {σ:L2.St}{H:Hp}{Q:VK},TEx X.K (fun ρ st Q=>a9 Γ es ρ st fun vs st1=>eT b vs st1 Q) σ H Q->tCB (JP X.K (eT b)) (TAx X.K (a9 Γ es)) σ H Q:=by rintro σ H Q ⟨m,ρ,st,rf,rh,w⟩;exact⟨m,ρ,st,rf,rh,au C.mono es (fun vs st1 k m1 H1 xs1 e1 r1 r2=>⟨m1,st1,vs,r1,r2,g_ (fun _ _ q=>q.ext e1) k⟩) w⟩
 have hc:=IT C.calm C.room.gd C.room.units b;cases xs with
 | nil=>cases hne
 | cons x xs =>
  rw[OL,MG] at hn;intro pins s σ H Q I h;cases b <;> first
   | exact jY hc h1 h4 hv ha h3 h2 hn.1 hn.2 pins s σ H Q I (key h)
   | exact ug hc h1 h4 hv ha h3 h2 hn.1 hn.2 pins s σ H Q I (key h)
theorem xX (m:M):PlainAttrs "list"/\Slot "list" (qo m) (wo m)/\typeOf (.builtin (wo m))=pure (.type "method_descriptor"):=by
 cases m
 ·exact⟨PySem.F.plainAttrs_list,PySem.F.slot_list_append,PySem.F.type_list_append⟩
theorem fj (h:gA y=true):attributeBase y n env w=w:=by cases y <;> first|rfl|cases h
theorem Bl (C:COk X c Γ){n:Str}{ap cp:Pos}{xs:List Expr}(hn:n=qo m)(hl:(ap.endLine == cp.line)=true)(hs:xs.all ar=true)(h2:xs.length<=2)(hy:gA y=true)(ho:PE X y (TEx X.K (wpE Γ o)))(ha:PA X xs (TAx X.K (a9 Γ es)))(hc:cG c es xs=true) :
  PE X (.Call (.Attribute y n ap) xs [] cp) (TEx X.K (wpE Γ (.met m o es))):=by
 obtain⟨pa,slot,ty⟩:=xX m;rw[<-hn] at slot;have hm:MtR X (wo m) (KH X.K (vi m)):=GQ m;intro pins s σ H Q I h;obtain⟨mm,ρ,st,rf,rh,w⟩:=h
 skip
 have tyv:∀ {m1:List Addr} {H1:Hp} {st1:AH} {v:PV} {x:V},RH X.K m1 H1 st1->R X.K m1 H1 v x->(∃xs,bp st1 v=some xs)->tyV X.K "list" x H1:=by rintro m1 H1 st1 v x r1 r2 ⟨xs,e⟩;obtain⟨a,ys,rfl,g,_⟩:=dM r1 r2 e;exact .inl ⟨rfl,ys,g⟩
 match xs,hs,h2,ha,hc with
 | [],hs,h2,ha,hc =>
  refine u6 pa slot ty hm ho (fj hy) hl pins s σ H Q I ?_;refine⟨mm,ρ,st,rf,rh,aa C.mono o (fun v st1 k m1 H1 x1 e1 r1 r2=>⟨tyv r1 r2 k.1,?_⟩) w⟩;cases es with
  | nil =>
   have k2:=k.2
   skip
   exact⟨m1,st1,v,[],r1,r2,Rs_nil.mpr rfl,gK (fun _ _ q=>q.ext e1) k2⟩
  | cons e es=>exact Bool.noConfusion (show false=true from hc)
 | [a],hs,h2,ha,hc =>simp only[List.all_cons,List.all_nil,Bool.and_true] at hs;have st1:starEach [a] X.env=[(false,eval a X.env)]:=aO hs;refine F0 pa slot ty hm ho ha (fj hy) (by rw[st1];rfl) hl st1 rfl pins s σ H Q I ?_;refine⟨mm,ρ,st,rf,rh,aa C.mono o (fun v st1 k m1 H1 x1 e1 r1 r2=>⟨tyv r1 r2 k.1,?_⟩) w⟩;exact⟨m1,ρ,st1,rf.mono e1,r1,au C.mono es (fun vs st2 k m2 H2 xs2 e2 r3 r4=>⟨m2,st2,v,vs,r3,r2.mono e2,r4,gK (fun _ _ q=>q.ext (e1.trans e2)) k⟩) k.2⟩
 | [a,b],hs,h2,ha,hc =>simp only[List.all_cons,List.all_nil,Bool.and_true,Bool.and_eq_true] at hs;have stb:starEach [b] X.env=[(false,eval b X.env)]:=aO hs.2;have st1:starEach [a,b] X.env=(false,eval a X.env)::starEach [b] X.env:=aO hs.1;refine F0 pa slot ty hm ho ha (fj hy) (by rw[st1,stb];rfl) hl st1 (by rw[stb];rfl) pins s σ H Q I ?_;refine⟨mm,ρ,st,rf,rh,aa C.mono o (fun v st1 k m1 H1 x1 e1 r1 r2=>⟨tyv r1 r2 k.1,?_⟩) w⟩;exact⟨m1,ρ,st1,rf.mono e1,r1,au C.mono es (fun vs st2 k m2 H2 xs2 e2 r3 r4=>⟨m2,st2,v,vs,r3,r2.mono e2,r4,gK (fun _ _ q=>q.ext (e1.trans e2)) k⟩) k.2⟩
 | _::_::_::_,hs,h2,ha,hc=>simp at h2
mutual
theorem PV.bel_le {i j:Nat}(h:i<=j):∀ {v:PV},v.bel i=true->v.bel j=true
 | .non,_=>by rw[PV.bel]
 | .bl _,_=>by rw[PV.bel]
 | .int _,_=>by rw[PV.bel]
 | .str _,_=>by rw[PV.bel]
 | .ref n,z=>by rw[PV.bel] at z |-;have:=N6 z;exact NF (by omega)
 | .tup xs,z=>by rw[PV.bel] at z |-;exact PV.bels_le h z
 | .rdl xs,z=>by rw[PV.bel] at z |-;exact PV.bels_le h z
 | .fn _,z=>by rw[PV.bel] at z;cases z
 | .gf _,z=>by rw[PV.bel] at z;cases z
 | .clo _ _ _,z=>by rw[PV.bel] at z;cases z
theorem PV.bels_le {i j:Nat}(h:i<=j):∀ {vs:List PV},PV.bels i vs=true->PV.bels j vs=true
 | [],_=>by rw[PV.bels]
 | v::vs,z=>by rw[PV.bels,MG] at z |-;exact⟨PV.bel_le h z.1,PV.bels_le h z.2⟩
end
theorem zU (C:COk X c Γ){i:Nat}(h:(c.N[i]? == some y && c.vis y)=true):PE X (.Name y p) (TEx X.K (wpE Γ (.var i))):=by simp only[Bool.and_eq_true,beq_iff_eq] at h;obtain⟨h1,h2,h3⟩:=C.visx h.2;rintro pins s σ H Q I ⟨m,ρ,st,rf,rh,w⟩;obtain⟨v,e,w⟩:=i9 w;obtain⟨y,e2,r⟩:=rf.at_ i v e;exact dW (by rw[C.N];exact h.1) h1 h2 h3 pins s σ H Q I ⟨y,e2,w.here rh r⟩
theorem lr (rh:RH K m H st)(e:Ext K m H m' H')(rh':RH K m' H' st')(r:R K m' H' v x)(q:Tmp st Q v st') :
  ∃st1,Q v st1/\Ext K m H m H'/\RH K m H' st1/\R K m H' v x:=by
 obtain⟨st1,g,rfl,hl,hs,hb,q⟩:=q;have hm:m'.take m.length=m:=by obtain⟨t,ht⟩:=e.pre;rw[<-ht,List.take_left]
 have hlen:m.length=st.length:=rh.len;refine⟨st1,q,⟨OU _,fun _ z=>.inl z,e.fr,e.tup,e.rdf,e.tbs,e.tb,e.frz⟩,⟨by rw[hl,hlen],rh.nd,fun n c a h1 h2=>?_,e.tb rh.tb⟩,?_⟩
 ·have hn:n<st1.length:=(MC.mp h1).1;have c1:CellR K m' H' c a:=rh'.at_ n c a (by rw[MS hn];exact h1) (hJ e.pre h2);have hc:c.bec m.length=true:=by
   rcases hs n (by omega) with z|⟨c',z,zb⟩
   ·rw[h1] at z;exact(rh.at_ n c a z.symm h2).bel
   ·rw[h1] at z;cases z;have zb':∀ {c:Cell},c.bel 0=true->c.bec m.length=true:=by
     have b0:∀(xs:List PV),PV.bels 0 xs=true->PV.becs m.length xs=true:=fun xs h=>PV.bels_becs (NV _) h;intro c h;cases c with
     | lst xs=>exact b0 _ h
     | dk kvs=>exact b0 _ h
     | fz kvs=>cases h
     | od kvs=>cases h
    exact zb' zb
  have:=c1.cut hc;rw[hm] at this;exact this
 ·have:=r.cut (k:=m.length) (by rw[hlen];exact PV.bel_bec (MJ _) hb);rw[hm] at this;exact this
noncomputable def postF (K:W.Frag)(m:List Addr)(H:Hp)(Q:L2.St->Hp->Prop):Fr->AH->Prop:=fun ρ' st'=>∀m' H' σ',Ext K m H m' H'->RH K m' H' st'->RF K m' H' ρ' σ'->Q σ' H'
theorem postF.ext (x:Ext K m H m1 H1)(q:postF K m H Q ρ st):postF K m1 H1 Q ρ st:=fun m' H' σ' e r s=>q m' H' σ' (x.trans e) r s
theorem postF.here (q:postF K m H Q ρ st)(h:RH K m H st)(r:RF K m H ρ σ):Q σ H:=q m H σ (Ext.refl _ _ _) h r
noncomputable def TGx (K:W.Frag)(w:PV->Fr->AH->(Fr->AH->Prop)->Prop):TG:=fun v' σ H Q=>∃m ρ st v,RF K m H ρ σ/\RH K m H st/\R K m H v v'/\w v ρ st (postF K m H Q)
noncomputable def Mb (K:W.Frag)(w:List PV->Fr->AH->(Fr->AH->Prop)->Prop):TGs:=fun v' σ H Q=>∃m ρ st v,RF K m H ρ σ/\RH K m H st/\Rs K m H v v'/\w v ρ st (postF K m H Q)
theorem COk.locx (C:COk X c Γ)(h:c.loc x=true):Loc X.env.scope x/\(X.fn x=true\/X.env.scope.names.lookup x=some .local):=by unfold Cfg.loc at h;simp only[Bool.or_eq_true,beq_iff_eq] at h;exact C.loc x h
theorem COk.ndX (C:COk X c Γ):X.N.Nodup:=by rw[C.N];exact C.nd
theorem iw {es:List Expr}(h:ar e=true):assignEach (e::es) env=(false,assign e env)::assignEach es env:=by cases e <;> first|rfl|cases h
theorem lR:∀ {ts:Tgs}{xs:List Expr}{env:Env},qm c ts xs=true->(assignEach xs env).length=ts.size/\(assignEach xs env).findIdx? (·.1)=none
 | .nil,xs,env,h=>by
  have h:xs.isEmpty=true:=h;cases xs with
  | nil=>exact⟨rfl,rfl⟩
  | cons _ _=>cases h
 | .cons t ts,xs,env,h=>by
  replace h:=aq h;obtain⟨y,ys,rfl,h⟩:=h
  ·simp only[Bool.and_eq_true] at h;obtain⟨⟨h1,h2⟩,h3⟩:=h;obtain⟨g1,g2⟩:=lR (env:=env) h3;rw[iw h1];exact⟨by simp[g1,Tgs.size],by simp[List.findIdx?_cons,g2]⟩
structure rN (K:W.Frag)(J:L2.It)(xs:List PV)(chk:AH->Prop)(m0:List Addr)(H0:Hp):Prop where
 stop:∀m H st,Ext K m0 H0 m H->RH K m H st->chk st->J.stop xs.length H
 item:∀(i:Nat) v m H st,Ext K m0 H0 m H->RH K m H st->chk st->xs[i]?=some v->J.go i H/\∀x H',J.yld i H x H'->Ext K m H m H'/\RH K m H' st/\R K m H' v x
noncomputable def TIx (K:W.Frag)(w:Fr->AH->(List PV->(AH->Prop)->AH->Prop)->Prop):TI:=fun σ H Rr=>∃m ρ st,RF K m H ρ σ/\RH K m H st /\
 w ρ st fun xs chk st1=>∀m1 H1 J,Ext K m H m1 H1->RH K m1 H1 st1->rN K J xs chk m1 H1->Rr J H1
theorem i_ (h:iA x=true):∀v,foldedSetIterable x env v=pure v:=by cases x <;> first|(intro _;rfl)|cases h
theorem Hj {tl:TE}(hl:PE X l tl):PI X tg l (fun σ H Rr=>tl σ H fun x H1=>∃a,x=.ref a/\((∃xs,SqL X.K H1 a xs)/\Rr (Itl X.K a) H1\/(∃xs,SqT X.K H1 a xs)/\Rr (Itt X.K a) H1)):=by
 intro pins s σ H Rr I h;refine thn (hl pins s σ H _ I h) fun v s1 ⟨x,H1,I1,r1,q1⟩=>?_;obtain⟨a,e,q1⟩:=q1;subst e;cases r1;rcases q1 with⟨⟨xs,hq⟩,q⟩|⟨⟨xs,hq⟩,q⟩
 ·obtain⟨its,rv,p,hz⟩:=I1.list hq;refine wpAny_pyIter_list p.isList ?_;refine⟨s1.heap.objs.size,[s1.heap.objs.size],_,_,H1,rfl,I1.kept (t':=s1.toks) fun b o e=>MD _ e,xN a _,⟨_,MZ _ rfl,rfl,rfl⟩,fun b hb=>?_,q⟩;have e:b=s1.heap.objs.size:=by simpa using hb
  subst e;exact I1.fpOk (MJ _) (I1.hok.fresh (MJ _))
 ·obtain⟨its,rv,p,hz⟩:=I1.tuple hq;refine wpAny_pyIter_tuple (show s1.heap.IsTuple a its.toArray from p) ?_;refine⟨s1.heap.objs.size,[s1.heap.objs.size],_,_,H1,rfl,I1.kept (t':=s1.toks) fun b o e=>MD _ e,ud a _,⟨_,MZ _ rfl,rfl,rfl⟩,fun b hb=>?_,q⟩;have e:b=s1.heap.objs.size:=by simpa using hb
  subst e;exact I1.fpOk (MJ _) (I1.hok.fresh (MJ _))
theorem xJ {n:Nat}(rh:RH K m0 H0 st0)(e:st0[n]?=some (.lst xs))(ea:m0[n]?=some a):rN K (Itl K a) xs (fun st'=>st'[n]?=st0[n]?) m0 H0:=by
 have get:∀m H st,Ext K m0 H0 m H->RH K m H st->st[n]?=st0[n]?->∃ys,H a=some (.lst ys)/\Rs K m H xs ys:=fun m H st x r q=>by rw[e] at q;exact r.at_ n _ a q (hJ x.pre ea)
 refine⟨fun m H st x r q=>?_,fun i v m H st x r q ev=>?_⟩
 ·obtain⟨ys,h1,h2⟩:=get m H st x r q;exact⟨ys,SqL.of h1,by rw[h2.len];exact MJ _⟩
 ·obtain⟨ys,h1,h2⟩:=get m H st x r q;obtain⟨y,e1,r1⟩:=h2.get ev;refine⟨⟨ys,y,SqL.of h1,e1⟩,fun z H' ⟨e2,e3⟩=>?_⟩;subst e2;have:=e3 ys (SqL.of h1);rw[e1] at this;cases this;exact⟨Ext.refl _ _ _,r,r1⟩
theorem B' (h:RdF K H0 a ys)(r0:Rs K m0 H0 xs ys):rN K (Itl K a) xs (fun _=>True) m0 H0:=by refine⟨fun m H st x r q=>⟨ys,(x.rdf _ _ h).sq,by rw[r0.len];exact MJ _⟩,fun i v m H st x r q ev=>?_⟩;obtain⟨y,e1,r1⟩:=(r0.mono x).get ev;refine⟨⟨ys,y,(x.rdf _ _ h).sq,e1⟩,fun z H' ⟨e2,e3⟩=>?_⟩;subst e2;have:=e3 ys (x.rdf _ _ h).sq;rw[e1] at this;cases this;exact⟨Ext.refl _ _ _,r,r1⟩
theorem AM (h:SqT K H0 a ys)(r0:Rs K m0 H0 xs ys):rN K (Itt K a) xs (fun _=>True) m0 H0:=by refine⟨fun m H st x r q=>⟨ys,x.tup _ _ h,by rw[r0.len];exact MJ _⟩,fun i v m H st x r q ev=>?_⟩;obtain⟨y,e1,r1⟩:=(r0.mono x).get ev;refine⟨⟨ys,y,x.tup _ _ h,e1⟩,fun z H' ⟨e2,e3⟩=>?_⟩;subst e2;have:=e3 ys (x.tup _ _ h);rw[e1] at this;cases this;exact⟨Ext.refl _ _ _,r,r1⟩
theorem vp:rN K (Itr lo n) (cO lo n) (fun _=>True) m0 H0:=by
 refine⟨fun m H st x r q=>by show n<=_;simp[cO],fun i v m H st x r q ev=>?_⟩;unfold cO at ev;rw[MI] at ev;have hi:i<n:=by
  by_cases hi:i<n
  ·exact hi
  ·rw[NJ (by simp;omega)] at ev;cases ev
 rw[List.getElem?_range hi] at ev;cases ev;refine⟨hi,fun z H' ⟨e2,e3⟩=>?_⟩;subst e2 e3;exact⟨Ext.refl _ _ _,r,R_int.mpr rfl⟩
end
end FW
namespace FW
open L2 HX
section
variable {X:Cx}{c:Cfg}{Γ:Nat->FSp}
noncomputable def Mc (prog:Program)(w:World)(a:Addr)(ns:List Int):HO:=.ext fun h=>Lf (LU prog w) (!(byT w)) h a ns
theorem yR:MtR X "dict.clear" (fun x xs H Q=>∃a kvs,x=.ref a/\xs=[]/\H a=some (.dK kvs)/\Q .non (upd H a (.dK []))):=by rintro pins s σ H x xs v us Q I rx rv ⟨a,kvs,rfl,rfl,g,q⟩;cases rx;cases rv;exact DX I g fun s' I'=>⟨.non,_,I',rfl,q⟩
theorem GM (C:COk X c Γ){n:Str}{ap cp:Pos}(hn:n="clear")(hl:(ap.endLine == cp.line)=true)(hy:gA y=true)(ho:PE X y (TEx X.K (wpE Γ a))):PE X (.Call (.Attribute y n ap) [] [] cp) (TEx X.K (wpE Γ (.clr a))):=by subst hn;intro pins s σ H Q I h;obtain⟨mm,ρ,st,rf,rh,w⟩:=h;refine u6 PySem.F.plainAttrs_dict PySem.F.slot_dict_clear PySem.F.type_dict_clear yR ho (fj hy) hl pins s σ H Q I ?_;refine⟨mm,ρ,st,rf,rh,aa C.mono a (fun v st1 k m1 H1 x1 e1 r1 r2=>?_) w⟩;obtain⟨n,rfl,kvs,h1,k⟩:=k;obtain⟨b,ys,rfl,eb,g,r3,r4⟩:=r1.dkat h1 r2;refine⟨.inr (.inr (.inl ⟨rfl,.inl ⟨ys,g⟩⟩)),b,ys,rfl,rfl,g,k m1 _ .non (e1.trans (Ext.set (ys:=[]) r1 eb (nfD g))) (r1.setD eb (nfD g) (by rfl) (by rw[NM,NM,Rs_nil])) (R_non.mpr rfl)⟩
end
end FW
namespace FW
open L2 HX
section
variable {X:Cx}{pins:List (Addr × Obj)}{σ:L2.St}{H:Hp}{s:Shared}{h':Heap}
end
end FW
namespace FW
open L2
section
variable {prog:Program}{w:World}{A:Around}{E:Value->Shared->Prop}{s:Shared}
def ItJ (h:Heap)(it d:Addr)(i n ep:Nat)(f0 f1 ok ov:Value):Prop:=h.get? it=some { cls:=.type "dict_itemiterator",dict:=none,data:=.fields #[f0,f1,.ref d,.int i 0,.int n 0,.int ep 0,ok,ov],slots:=#[] }
structure LA (h:Heap)(it:Addr)(f0 f1:Value):Prop where
 ex:∃T b o,f0=rawInt (T:Nat)/\f1=.bool b/\h.get? T=some o/\T≠it
end
inductive Laid (H0:Hp):List (Addr × (Key × V))->Hp->Prop where
 | nil:Laid H0 [] H0
 | snoc {L:List (Addr × (Key × V))}{H:Hp}{T:Addr}{p:Key × V}:Laid H0 L H->H T=none->Laid H0 (L++[(T,p)]) (upd H T (.tup [kV p.1,p.2]))
structure Md (h:Heap)(it d:Addr)(i n ep:Nat):Prop where
 ex:∃f0 f1 ok ov,ItJ h it d i n ep f0 f1 ok ov/\((f0=.none/\f1=.bool false)\/LA h it f0 f1)
section
variable {X:Cx}{pins:List (Addr × Obj)}{σ:L2.St}{H0:Hp}{A:Around}
end
end FW
namespace FW
open L2
section
variable {prog:Program}{w:World}{A:Around}{E:Value->Shared->Prop}{s:Shared}
end
section
variable {X:Cx}{pins:List (Addr × Obj)}{σ:L2.St}{H:Hp}{A:Around}{s:Shared}{E:Value->Shared->Prop}
end
end FW
namespace FW
open L2
section
variable {prog:Program}{w:World}{A:Around}{E:Value->Shared->Prop}{s:Shared}
end
section
variable {prog:Program}{w:World}{A:Around}{E:Value->Shared->Prop}{s:Shared}{L:List (Addr × Str)}{f:Addr->List Nat}
end
end FW
namespace FW
open L2 HX
section
variable {prog:Program}{w:World}{A:Around}{E:Value->Shared->Prop}{s:Shared}{it t:Addr}{i:Nat}{items:Array Value}
end
section
variable {X:Cx}
end
end FW
namespace FW
open L2 HX
structure Zs where
 it:Addr
 c:Bool × Addr
 xs:Array Value
noncomputable abbrev Zs.a (q:Zs):Addr:=q.c.2
def LV (h:Heap)(c:Bool × Addr)(xs:Array Value):Prop:=if c.1=true then h.IsList c.2 xs else h.IsTuple c.2 xs
section
variable {prog:Program}{w:World}{A:Around}{E:Value->Shared->Prop}{s:Shared}{q:Zs}{i:Nat}
end
structure ZA (z TI TO:Addr)(ss:List Zs):Prop where
 nd:(z::TI::TO::ss.map Zs.it).Nodup
 ap:∀q∈ss,q.a ∉ z::TI::TO::ss.map Zs.it
section
variable {prog:Program}{w:World}{A:Around}{E:Value->Shared->Prop}{z TI TO:Addr}{i:Nat}
end
def SqB (K:W.Frag)(H:Hp)(c:Bool × Addr)(xs:List V):Prop:=if c.1=true then SqL K H c.2 xs else SqT K H c.2 xs
section
variable {prog:Program}{w:World}{A:Around}{E:Value->Shared->Prop}
end
section
variable {prog:Program}{w:World}{A:Around}{E:Value->Shared->Prop}{s:Shared}
end
section
variable {X:Cx}{pins:List (Addr × Obj)}{σ:L2.St}{H:Hp}{s:Shared}
theorem SqB.seq (I:L2.Inv X pins σ H s)(h:SqB X.K H c xs):∃ys,LV s.heap c ys:=by
 obtain⟨b,a⟩:=c;cases b with
 | true=>obtain⟨its,_,p,_⟩:=I.list (show SqL X.K H a xs from h);exact⟨_,p.isList⟩
 | false=>obtain⟨its,_,p,_⟩:=I.tuple (show SqT X.K H a xs from h);exact⟨_,p⟩
end
section
variable {X:Cx}
end
end FW
namespace FW
open L2 HX
section
variable {X:Cx}{tg:Expr}
end
section
variable {X:Cx}
end
end FW
namespace FW
open L2 HX
noncomputable def gq (env:Env):List (Str × NameKind)->List (Str × Addr)->List (Str × Addr)
 | [],cs=>cs
 | (x,k)::r,cs=>gq env r (if k == .free then (x,(env.cells.lookup x).getD 0)::cs else cs)
theorem mf {scope:Scope}{env:Env}(h:∀y∈scope.names,y.2=.free->∃c,env.cells.lookup y.1=some c):closureFor scope env=pure (gq env scope.names []):=by
 have key:∀(names:List (Str × NameKind)) (cs:List (Str × Addr)),(∀y∈names,y.2=.free->∃c,env.cells.lookup y.1=some c) ->
   (forIn names cs fun (x:Str × NameKind) (r:List (Str × Addr))=>(match x with
    | (name,kind)=>if (kind == NameKind.free)=true then (do let a <-cellOf env name;pure (ForInStep.yield ((name,a)::r)):Sem _) else pure (ForInStep.yield r)))=(pure (gq env names cs):Sem _):=by
  intro names
  induction names with
  | nil=>intro cs _;rfl
  | cons y r ih =>
   intro cs hy;obtain⟨x,k⟩:=y;rw[QI];by_cases hk:k=.free
   ·subst hk;obtain⟨c,e⟩:=hy _ MQ rfl;have ec:cellOf env x=pure c:=by unfold cellOf;rw[e]
    simp only[beq_self_eq_true,if_true,ec];show (forIn r ((x,c)::cs) _:Sem _)=_;rw[ih _ fun y h=>hy y (MM _ h)];simp[gq,e]
   ·have hb:(k == NameKind.free)=false:=by simpa using hk
    simp only[hb,Bool.false_eq_true,if_false];show (forIn r cs _:Sem _)=_;rw[ih _ fun y h=>hy y (MM _ h)];simp[gq,hb]
 unfold closureFor;have:=key scope.names [] h;exact NC (fun z=>z >>= fun r=>pure r) this
theorem fw {env:Env}:∀ {names:List (Str × NameKind)}{cs:List (Str × Addr)}{x:Str}{c:Addr},(∀y∈names,y.2=.free->∃c,env.cells.lookup y.1=some c)->(∀x c,cs.lookup x=some c->env.cells.lookup x=some c) ->
  (gq env names cs).lookup x=some c->env.cells.lookup x=some c
 | [],cs,x,c,_,h,e=>h x c e
 | (y,k)::r,cs,x,c,hn,h,e=>by
  unfold gq at e;refine fw (fun z hz=>hn z (MM _ hz)) ?_ e;intro z d ez;by_cases hk:k=.free
  ·subst hk;obtain⟨c',ec⟩:=hn _ MQ rfl;simp only[beq_self_eq_true,if_true,List.lookup_cons] at ez;by_cases q:z=y
   ·subst q;simp[ec] at ez;rw[ec,ez]
   ·have:(z == y)=false:=by simpa using q
    rw[this] at ez;exact h z d ez
  ·have hb:(k == NameKind.free)=false:=by simpa using hk
   rw[hb] at ez;exact h z d ez
theorem oh:∀ {names:List (Str × NameKind)}{cs:List (Str × Addr)}{x:Str},(∃c,cs.lookup x=some c)->∃c,(gq env names cs).lookup x=some c
 | [],cs,x,h=>h
 | (y,k)::r,cs,x,h=>by
  unfold gq;refine oh ?_;by_cases hk:k=.free
  ·subst hk;simp only[beq_self_eq_true,if_true,List.lookup_cons];by_cases q:x=y
   ·subst q;simp
   ·have:(x == y)=false:=by simpa using q
    rw[this];exact h
  ·have hb:(k == NameKind.free)=false:=by simpa using hk
   rw[hb];exact h
theorem jw:∀ {names:List (Str × NameKind)}{cs:List (Str × Addr)}{x:Str},(x,NameKind.free)∈names->∃c,(gq env names cs).lookup x=some c
 | [],cs,x,h=>nomatch h
 | (y,k)::r,cs,x,h=>by
  unfold gq;rcases NB.mp h with e|h
  ·cases e;exact oh (by simp)
  ·exact jw h
def PTs (X:Cx)(xs:List Expr)(t:TT):Prop :=
 ∀(pins:List (Addr × Obj)) (s:Shared) (σ:L2.St) (H:Hp) (Q:Bool->Hp->Prop),L2.Inv X pins σ H s->t σ H Q ->
  wpAny (model X.prog X.w) X.A (forIn xs true fun c r=>if r=true then do let ok <-isTrue c X.env (eval c X.env);pure (ForInStep.yield ok) else pure (ForInStep.yield r)) (TP X pins σ Q) X.xe s
theorem ku:∀xs:List Expr,(forIn xs false fun c r=>if r=true then do let ok <-isTrue c env (eval c env);pure (ForInStep.yield ok) else pure (ForInStep.yield r):Sem Bool)=pure false
 | []=>rfl
 | x::xs=>by rw[QI];simp only[Bool.false_eq_true,if_false];exact ku xs
theorem wC:PTs X [] (fun σ H Q=>Q true H):=fun pins s σ H Q I h=>MU ⟨H,I,h⟩
theorem sZ (h1:PT X x t)(h2:PTs X xs u):PTs X (x::xs) (JL t u):=by
 intro pins s σ H Q I h;rw[QI];simp only[if_true];refine MB (MB (thn (h1 pins s σ H _ I h) fun b s1 ⟨H1,I1,q1⟩=>?_));refine MU ?_;cases b with
 | true =>rw[MN rfl] at q1;exact h2 pins s1 σ H1 Q I1 q1
 | false =>rw[ML MA] at q1;show wpAny _ _ (forIn xs false _) _ _ _;rw[ku];exact MU ⟨H1,I1,q1⟩
theorem ql {R:Result->Shared->Prop}{s:Shared}{acc:Value}(I:Nat->Shared->Prop)(turn:∀n s,I n s->wpAny (model prog w) A (pyNext it) (fun r s₁=>match r with
   | none=>R (.ok .next) s₁
   | some v=>wpAny (model prog w) A (letOwnedTupleGo target it v) (fun _ s0=>wpAny (model prog w) A (assign target env v) (fun _ s₂ =>
     wpAny (model prog w) A (forIn ifs true fun c r=>if r=true then do let ok <-isTrue c env (eval c env);pure (ForInStep.yield ok) else pure (ForInStep.yield r)) (fun ok s₃ =>
      if ok=true then wpAny (model prog w) A (eval elt env) (fun x s₄ =>
       wpAny (model prog w) A (call (.builtin "list.append") [acc,x]) (fun _ s₅=>∃m,m<n/\I m s₅) (fun _ _=>False) s₄) (fun _ _=>False) s₃
      else ∃m,m<n/\I m s₃) (fun _ _=>False) s₂) (fun _ _=>False) s0) (fun _ _=>False) s₁) (fun _ _=>False) s)(n:Nat)(h:I n s):codeAny (model prog w) A (.compLoop (.ListComp elt [⟨target,iter,ifs,0⟩] scope pos) 0 it acc env) R s:=by
 refine codeAny_loop rfl I (fun n s hI=>?_) n h;show wpAny _ A ((compTurn (.ListComp elt [⟨target,iter,ifs,0⟩] scope pos) 0 it acc env).onRaise (fun x=>do noteFrame x env;theTreesLotGoes x)) _ _ s;refine wpAny_noted ?_;rw[compTurn_list];refine MB (wpAny_standAt (MB (wpAny_mono (turn n s hI) (fun r s₁ h₁=>?_) fun _ _ h'=>h'.elim)));cases r with
 | none=>exact MU h₁
 | some v =>
  refine MB (wpAny_mono h₁ (fun _ s0 h₁=>?_) fun _ _ h'=>h'.elim);refine MB (wpAny_mono h₁ (fun _ s₂ h₂=>MB (wpAny_mono h₂ (fun ok s₃ h₃=>?_) fun _ _ h'=>h'.elim)) fun _ _ h'=>h'.elim);cases ok with
  | false=>exact MU ⟨rfl,h₃⟩
  | true =>exact MB (MB (wpAny_mono h₃ (fun x s₄ h₄=>MB (wpAny_mono h₄ (fun _ s₅ h₅=>MU (MU ⟨rfl,h₅⟩)) fun _ _ h'=>h'.elim)) fun _ _ h'=>h'.elim))
noncomputable def cxC (X:Cx)(N:List Str)(s2:Shared)(H2:Hp)(fp:List Addr)(scope:Scope)(C:Addr):Cx :=
 { X with N:=N,s₀:=s2,H₀:=H2,env:=compEnvC scope (gq X.env scope.names []) C X.env,outer:=X.stack,stack:=X.stack,ex:=fp,fn:=fun _=>false,pn:=[],xe:=fun _ _=>False }
structure CScope (X:Cx)(scope:Scope):Prop where
 kind:scope.kind=.function
 nocell:∀y∈scope.names,y.2≠.cell
 nms:∀y∈scope.names,y.2=.local->scope.names.lookup y.1=some .local
 free:∀y∈scope.names,y.2=.free->X.env.kindOf y.1=some .cell\/X.env.kindOf y.1=some .free
theorem kQ (h:(relabel scope env).names.lookup x=some k)(hk:k=.cell\/k=.free)(nc:∀y∈scope.names,y.2≠.cell):(x,NameKind.free)∈scope.names:=by
 have hm:=NK h;unfold relabel at hm;obtain⟨⟨n,k0⟩,hy,e⟩:=MV.mp hm;simp only at e;split at e
 ·rename_i hc;cases e;simp only[Bool.and_eq_true,beq_iff_eq] at hc;have:k0=.free:=hc.1.1;subst this;exact hy
 ·cases e;rcases hk with rfl|rfl
  ·exact absurd rfl (nc _ hy)
  ·exact hy
theorem jt {env:Env}:∀ {names:List (Str × NameKind)}{x:Str},names.lookup x=some .globalImplicit ->
  (names.map fun (n,k)=>if (k == NameKind.free && env.scope.kind == .function && env.kindOf n == some .cell) then (n,NameKind.cell) else (n,k)).lookup x=some .globalImplicit
 | [],_,h=>by simp at h
 | (n,k)::r,x,h=>by
  have ih:=@jt env r x;show List.lookup x ((if (k == NameKind.free && env.scope.kind == .function && env.kindOf n == some .cell)=true then (n,NameKind.cell) else (n,k))::_)=_;cases hx:x == n with
  | true =>simp only[List.lookup_cons,hx] at h;cases h;simp[List.lookup_cons,hx]
  | false =>
   simp only[List.lookup_cons,hx] at h;by_cases hc:(k == NameKind.free && env.scope.kind == .function && env.kindOf n == some .cell)=true
   ·rw[MN hc];simp only[List.lookup_cons,hx];exact ih h
   ·rw[ML hc];simp only[List.lookup_cons,hx];exact ih h
theorem dD {env:Env}:∀ {names:List (Str × NameKind)}{x:Str},names.lookup x=some .free ->
  (names.map fun (n,k)=>if (k == NameKind.free && env.scope.kind == .function && env.kindOf n == some .cell) then (n,NameKind.cell) else (n,k)).lookup x=some .cell \/
  (names.map fun (n,k)=>if (k == NameKind.free && env.scope.kind == .function && env.kindOf n == some .cell) then (n,NameKind.cell) else (n,k)).lookup x=some .free
 | [],_,h=>by simp at h
 | (n,k)::r,x,h=>by
  have ih:=@dD env r x;show List.lookup x ((if (k == NameKind.free && env.scope.kind == .function && env.kindOf n == some .cell)=true then (n,NameKind.cell) else (n,k))::_)=_\/List.lookup x ((if (k == NameKind.free && env.scope.kind == .function && env.kindOf n == some .cell)=true then (n,NameKind.cell) else (n,k))::_)=_;cases hx:x == n with
  | true =>
   simp only[List.lookup_cons,hx] at h;cases h;by_cases hc:(NameKind.free == NameKind.free && env.scope.kind == .function && env.kindOf n == some .cell)=true
   ·rw[MN hc];simp[List.lookup_cons,hx]
   ·rw[ML hc];simp[List.lookup_cons,hx]
  | false =>
   simp only[List.lookup_cons,hx] at h;by_cases hc:(k == NameKind.free && env.scope.kind == .function && env.kindOf n == some .cell)=true
   ·rw[MN hc];simp only[List.lookup_cons,hx];exact ih h
   ·rw[ML hc];simp only[List.lookup_cons,hx];exact ih h
section
variable {X:Cx}{pins:List (Addr × Obj)}{σ:L2.St}{H2:Hp}{s2:Shared}{fp:List Addr}{scope:Scope}{C:Addr}{N:List Str}
theorem CScope.cells (S:CScope X scope)(I:L2.Inv X pins σ H2 s2):∀y∈scope.names,y.2=.free->∃c,X.env.cells.lookup y.1=some c:=fun y hy hf=>I.ok.has y.1 (S.free y hy hf)
theorem HD (S:CScope X scope)(I:L2.Inv X pins σ H2 s2)(f2:∀b∈fp,ng X pins H2 b)(fl:∀b∈fp,b<s2.heap.objs.size)(hC:s2.heap.objs.size<=C):(cxC X N s2 H2 fp scope C).Ok where
 mod:=I.ok.mod
 kind:=S.kind
 glob:=I.ok.glob
 blt:=I.ok.blt
 above:=hC
 inj:=fun x y c h1 h2=>I.ok.inj x y c (fw (S.cells I) (fun _ _ z=>by simp at z) h1) (fw (S.cells I) (fun _ _ z=>by simp at z) h2)
 has:=fun x hx=>by
  refine jw (x:=x) ?_;rcases hx with h|h
  ·exact kQ h (.inl rfl) S.nocell
  ·exact kQ h (.inr rfl) S.nocell
 cab:=fun x c h=>by cases h
 hd:=I.ok.hd
 frames:=I.ok.frames
 stk:=.inl rfl
 exf:=fun b hb=>⟨M8 (MK (fl b hb) hC),fun x c h=>(f2 b hb).2.2.2.2.1 x c (fw (S.cells I) (fun _ _ z=>by simp at z) h)⟩
 bs:=I.bs
 bsz:=MY I.ok.bsz I.sz
 noex:=fun b o e hb=>by
  rcases (f2 b hb).2.2.2.1 with z|z
  ·exact I.ok.noex b o e z
  ·have:=MR e;exact absurd (MK (MK this I.ok.bsz) z) (OD _)
 exfs:=fun b hb hf=>by
  rcases NB.mp (I.stkSub b hf) with z|z
  ·exact(f2 b hb).2.1 z
  ·exact(f2 b hb).2.2.1 z
 funs:=I.stack
 frf:=I.stkFree
theorem Cy {tk:Nat}{nt:List Str}{cn:List Str}{caps:List Nat}(S:CScope X scope)(I:L2.Inv X pins σ H2 s2)(f2:∀b∈fp,ng X pins H2 b)(fl:∀b∈fp,b<s2.heap.objs.size)(hC:s2.heap.objs.size<=C)(un:Un (frs X.stack) fp H2 H3 s2.heap h1)(hok:HOk X.prog X.w H3 h1)(ns:h1.Ns C (fun _=>none))(hn:H3 C=none)(keep:∀b o,s2.heap.get? b=some o->h1.get? b=some o)(free:∀b o,s2.heap.get? b=some o->H2 b=none->H3 b=none)(hcn:cn=caps.filterMap (X.N[·]?))(hcl:∀i∈caps,i<X.N.length)(hcf:∀x∈cn,scope.names.lookup x=some .free)(hce:∀x∈cn,X.env.kindOf x=some .cell\/X.env.kindOf x=some .free) :
  L2.Inv (cxC X (nt++cn) s2 H2 fp scope C) [] (nt.map (fun _=>none)++caps.map fun i=>(σ[i]?).join) H3 { s2 with heap:=h1,toks:=tk }:=by
 have cel:∀x c,(gq X.env scope.names []).lookup x=some c->X.env.cells.lookup x=some c:=fun x c h=>fw (S.cells I) (fun _ _ z=>by simp at z) h;have lenc:cn.length=caps.length:=by
  rw[hcn];clear hcf hce hcn
  induction caps with
  | nil=>rfl
  | cons i r ih =>have:X.N[i]?=some (X.N[i]'(hcl i MQ)):=M4 (hcl i MQ);rw[ND,this];simp only[List.length_cons];rw[ih fun j hj=>hcl j (MM _ hj)]
 have getc:∀(j i:Nat),caps[j]?=some i->∃x,cn[j]?=some x/\X.N[i]?=some x:=by
  rw[hcn];clear hcf hce hcn lenc
  induction caps with
  | nil=>intro j i h;simp at h
  | cons k r ih =>
   intro j i h;have hk:X.N[k]?=some (X.N[k]'(hcl k MQ)):=M4 (hcl k MQ);rw[ND,hk];cases j with
   | zero=>simp at h;subst h;exact⟨_,rfl,hk⟩
   | succ j=>exact ih (fun j hj=>hcl j (MM _ hj)) j i (by simpa using h)
 refine⟨HD S I f2 fl hC,rfl,I.bare,un,⟨_,ns,fun i x v e1 e2 e3=>?_⟩,fun x c e=>?_,hn,fun x c e=>?_,fun p hp=>absurd (show p∈([]:List (Addr × Obj)) from hp) (by simp),hok,?_⟩
 ·by_cases hi:i<nt.length
  ·rw[MS (by simpa using hi),MI] at e2;cases q:nt[i]? with
   | none=>rw[q] at e2;cases e2
   | some z=>rw[q] at e2;cases e2
  ·rw[MX (by simpa using hi),ME,MI] at e2;have e1':(nt++cn)[i]?=some x:=e1;rw[MX (by omega)] at e1';cases q:caps[i-nt.length]? with
   | none=>rw[q] at e2;cases e2
   | some j =>
    rw[q] at e2;have e2':(σ[j]?).join=some v:=NL e2;obtain⟨y,g1,g2⟩:=getc _ _ q;rw[e1'] at g1;cases g1;have e4:σ[j]?=some (some v):=by
     cases z:σ[j]? with
     | none=>rw[z] at e2';cases e2'
     | some w=>rw[z] at e2';rw[show w=some v from e2']
    obtain⟨m,hm,hl⟩:=I.loc;have kx:=hce x (MT e1');obtain⟨u,ru,lk⟩:=hl j x v g2 e4 (.inr (by rcases kx with k|k;exact .inl k;exact .inr k));refine⟨u,ru,.inr ⟨dD (hcf x (MT e1')),?_⟩⟩;rcases lk with⟨k,_⟩|⟨_,c,ec,hc⟩
    ·rcases kx with k' | k' <;> rw[k] at k' <;> cases k'
    ·obtain⟨c',ec'⟩:=jw (env:=X.env) (names:=scope.names) (cs:=[]) (x:=x) (NK (hcf x (MT e1')));have:=cel x c' ec';rw[ec] at this;cases this;obtain⟨o,ho,hd⟩:=hc;exact⟨c,ec',o,keep _ _ ho,hd⟩
 ·obtain⟨v,o,ho,hd⟩:=I.cell x c (cel x c e);exact⟨v,o,keep _ _ ho,hd⟩
 ·obtain⟨v,o,ho,hd⟩:=I.cell x c (cel x c e);exact free c o ho (I.freeC x c (cel x c e))
 ·show (nt.map (fun _=>(none:Option V))++caps.map fun i=>(σ[i]?).join).length=(nt++cn).length;simp[lenc]
end
end FW
namespace FW
open L2 HX
section
variable {Γ:Nat->FSp}
mutual
theorem ox (G:aJ Γ):∀(t:Tg) {v:PV}{ρ:Fr}{st:AH}{Q:Fr->AH->Prop},t.low n=true->bt Γ t v ρ st Q->bt Γ t v ρ st fun ρ' st'=>Q ρ' st'/\∀i,n<=i->ρ'[i]?=ρ[i]?
 | .name i,v,ρ,st,Q,h,q=>by
  skip
  rw[Tg.low] at h;have:=N6 h;exact⟨q,fun j hj=>MH (by omega)⟩
 | .tup ts,v,ρ,st,Q,h,q=>by
  skip
  rw[Tg.low] at h;obtain⟨xs,e,hl,q⟩:=q;exact⟨xs,e,hl,mF G ts h q⟩
 | .sub _ _,v,ρ,st,Q,h,q=>by rw[Tg.low] at h;cases h
theorem mF (G:aJ Γ):∀(t:Tgs) {v:List PV}{ρ:Fr}{st:AH}{Q:Fr->AH->Prop},t.low n=true->gy Γ t v ρ st Q->gy Γ t v ρ st fun ρ' st'=>Q ρ' st'/\∀i,n<=i->ρ'[i]?=ρ[i]?
 | .nil,v,ρ,st,Q,h,q=>by exact⟨q.1,q.2,fun _ _=>rfl⟩
 | .cons t ts,v,ρ,st,Q,h,q=>by
  skip
  rw[Tgs.low,MG] at h;obtain⟨x,r,e,q⟩:=q;refine⟨x,r,e,aG G t (fun ρ1 st1 k=>?_) (ox G t h.1 q)⟩;refine fN G ts (fun ρ2 st2 k2=>⟨k2.1,fun i hi=>(k2.2 i hi).trans (k.2 i hi)⟩) (mF G ts h.2 k.1)
end
end
mutual
theorem R.mono0 (ht:∀a ys,SqT K H a ys->SqT K H' a ys)(hr:∀a ys,RdF K H a ys->RdF K H' a ys):∀ {p:PV}{v:V},R K m H p v->R K m H' p v
 | .non,v,h=>by rw[R_non] at h |-;exact h
 | .bl b,v,h=>by rw[R_bl] at h |-;exact h
 | .int b,v,h=>by rw[R_int] at h |-;exact h
 | .str b,v,h=>by rw[R_str] at h |-;exact h
 | .ref n,v,h=>by rw[fC] at h |-;exact h
 | .tup xs,v,h=>by rw[R_tup] at h |-;obtain⟨a,ys,e,q,r⟩:=h;exact⟨a,ys,e,ht _ _ q,Rs.mono0 ht hr r⟩
 | .rdl xs,v,h=>by rw[gg] at h |-;obtain⟨a,ys,e,q,r⟩:=h;exact⟨a,ys,e,hr _ _ q,Rs.mono0 ht hr r⟩
 | .fn a,v,h=>by rw[yh] at h |-;exact h
 | .gf a,v,h=>by rw[R_gf] at h |-;exact h
 | .clo a us xs,v,h=>by rw[R_clo] at h |-;exact⟨h.1,Rs.mono0 ht hr h.2⟩
theorem Rs.mono0 (ht:∀a ys,SqT K H a ys->SqT K H' a ys)(hr:∀a ys,RdF K H a ys->RdF K H' a ys):∀ {ps:List PV}{vs:List V},Rs K m H ps vs->Rs K m H' ps vs
 | [],vs,h=>by rw[Rs_nil] at h |-;exact h
 | p::ps,vs,h=>by
  rw[aK] at h |-
  obtain⟨y,r,e,h1,h2⟩:=h;exact⟨y,r,e,R.mono0 ht hr h1,Rs.mono0 ht hr h2⟩
end
theorem eC {H:Hp}{D:Addr}(hD:H D=some (.lst ys)):∀a us,SqT K H a us->SqT K (upd H D (.lst zs)) a us:=fun a us q=>by
 rcases q with (q|⟨w,q⟩)|q
 ·exact .inl (.inl (by rw[af (fun z=>by subst z;rw[hD] at q;cases q)];exact q))
 ·exact .inl (.inr ⟨w,by rw[af (fun z=>by subst z;rw[hD] at q;cases q)];exact q⟩)
 ·exact .inr q
theorem eF {H:Hp}{D:Addr}(hD:H D=some (.lst ys)):∀a us,RdF K H a us->RdF K (upd H D (.lst zs)) a us:=fun a us q=>by
 rcases q with⟨w,q⟩|q
 ·exact .inl ⟨w,by rw[af (fun z=>by subst z;rw[hD] at q;cases q)];exact q⟩
 ·exact .inr q
theorem TB.away {D:Addr}(t:TB K H)(hD:H D=some (.lst ys)):TB K (upd H D (.lst zs)) :=
 t.keep (fun a ps q=>by rw[af (fun z=>by subst z;rw[hD] at q;cases q)];exact q) fun a o q=>by rw[af (fun z=>by subst z;rw[hD] at q;cases q)];exact q
theorem Ext.away {D:Addr}(x:Ext K m H m' H')(h0:H D=none)(hD:H' D=some (.lst ys)):Ext K m H m' (upd H' D (.lst zs)) :=
 ⟨x.pre,x.new,fun a o ha e n=>by rw[af (av e h0)];exact x.fr a o ha e n,fun a us q=>eC hD a us (x.tup a us q),fun a us q=>eF hD a us (x.rdf a us q),fun a ps ha e=>let ⟨p1,e1⟩:=x.tbs a ps ha e;⟨p1,by rw[af (av e h0)];exact e1⟩,fun t=>(x.tb t).away hD,fun a o u e=>by rw[af (av e h0)];exact x.frz a o u e⟩
theorem RH.away {D:Addr}(h:RH K m H st)(hm:D ∉ m)(hD:H D=some (.lst ys)):RH K m (upd H D (.lst zs)) st:=by
 refine⟨h.len,h.nd,fun n c a h1 h2=>?_,h.tb.away hD⟩;have ha:a≠D:=fun z=>hm (z ▸ MT h2);have hc:=h.at_ n c a h1 h2;cases c with
 | lst xs=>obtain⟨us,g1,g2⟩:=hc;exact⟨us,by rw[af ha];exact g1,g2.mono0 (eC hD) (eF hD)⟩
 | dk kvs=>obtain⟨us,g1,g2,g3⟩:=hc;exact⟨us,by rw[af ha];exact g1,g2,g3.mono0 (eC hD) (eF hD)⟩
 | fz kvs=>obtain⟨o,us,g1,g2,g3⟩:=hc;exact⟨o,us,by rw[af ha];exact g1,g2,g3.mono0 (eC hD) (eF hD)⟩
 | od kvs=>obtain⟨o,us,ws,g1,g2,g3,g4⟩:=hc;exact⟨o,us,ws,by rw[af ha];exact g1,g2,g3.mono0 (eC hD) (eF hD),g4.mono0 (eC hD) (eF hD)⟩
theorem RF.away {D:Addr}(h:RF K m H ρ σ)(hD:H D=some (.lst ys)):RF K m (upd H D (.lst zs)) ρ σ :=
 ⟨h.len,fun i v e=>let ⟨y,e1,r⟩:=h.at_ i v e;⟨y,e1,r.mono0 (eC hD) (eF hD)⟩⟩
theorem RF.less {ρ:Fr}{n:Nat}(h:RF K m H ρ' σ)(hl:ρ.length=ρ'.length)(hn:∀i v,ρ[i]?=some (some v)->n<=i)(hp:∀i,n<=i->ρ'[i]?=ρ[i]?):RF K m H ρ σ :=
 ⟨hl.trans h.len,fun i v e=>h.at_ i v (by rw[hp i (hn i v e)];exact e)⟩
theorem om {nt:List Str}{f:Nat->Option PV}{caps:List Nat}:∀(i:Nat) (v:PV),(nt.map (fun _=>(none:Option PV))++caps.map f)[i]?=some (some v)->nt.length<=i:=fun i v e=>by
 by_cases hi:i<nt.length
 ·rw[MS (by simpa using hi),MI] at e;cases q:nt[i]? with
  | none=>rw[q] at e;cases e
  | some z=>rw[q] at e;cases e
 ·omega
theorem DS {nt:List Str}{caps:List Nat}(h:RF K m H ρ σ) :
  RF K m H (nt.map (fun _=>none)++caps.map fun i=>(ρ[i]?).join) (nt.map (fun _=>none)++caps.map fun i=>(σ[i]?).join):=by
 refine⟨by simp,fun i v e=>?_⟩;have hi:=om i v e;rw[MX (by simpa using hi),ME,MI] at e;rw[MX (by simpa using hi),ME,MI];cases q:caps[i-nt.length]? with
 | none=>rw[q] at e;cases e
 | some j =>
  rw[q] at e;have e':(ρ[j]?).join=some v:=NL e;have e4:ρ[j]?=some (some v):=by
   cases z:ρ[j]? with
   | none=>rw[z] at e';cases e'
   | some w=>rw[z] at e';rw[show w=some v from e']
  obtain⟨y,e5,r⟩:=h.at_ j v e4;exact⟨y,by show some ((σ[j]?).join)=_;rw[e5];rfl,r⟩
section
variable {X:Cx}{Γ:Nat->FSp}{pins:List (Addr × Obj)}{σ:L2.St}{H:Hp}{s:Shared}
noncomputable def dG (K:W.Frag)(m1:List Addr)(H1:Hp)(Fin:Addr->Hp->Prop):LK:=fun vs st2=>∀m2 H2 D ys,Ext K m1 H1 m2 H2->RH K m2 H2 st2->D ∉ m2->H1 D=none->H2 D=some (.lst ys)->Rs K m2 H2 vs ys->Fin D H2
noncomputable def eN (Γ:Nat->FSp)(elt:E)(tg:Tg)(ifs:Es)(ρ:Fr):PV->AH->(Option PV->AH->Prop)->Prop:=fun x st2 k=>bt Γ tg x ρ st2 fun ρ' st3=>gu Γ ifs ρ' st3 fun c st4=>if c=true then wpE Γ elt ρ' st4 fun v st5=>k (some v) st5 else k none st4
theorem pA (G:aJ Γ)(hcalm:X.calm=true){tg:Tg}{nt:List Str}{caps:List Nat}{cn:List Str}{Fin:Addr->Hp->Prop}(S:CScope X scope)(hcn:cn=caps.filterMap (X.N[·]?))(hcl:∀i∈caps,i<X.N.length)(hcf:∀x∈cn,scope.names.lookup x=some .free)(hce:∀x∈cn,X.env.kindOf x=some .cell\/X.env.kindOf x=some .free)(hset:iA iterx=true)(hlow:tg.low nt.length=true)(hI:PI X tgx iterx wi)(hG:∀s2 H2 fp C,PG (cxC X (nt++cn) s2 H2 fp scope C) tgx (TGx X.K (bt Γ tg)))(hT:∀s2 H2 fp C,PTs (cxC X (nt++cn) s2 H2 fp scope C) ifsx (TTx X.K (gu Γ ifs)))(hE:∀s2 H2 fp C,PE (cxC X (nt++cn) s2 H2 fp scope C) eltx (TEx X.K (wpE Γ elt)))(I:L2.Inv X pins σ H s)(h:wi σ H fun J H1=>∃m ρ st1 xs chk,RF X.K m H1 ρ σ/\RH X.K m H1 st1/\rN X.K J xs chk m H1/\xs.length<100000/\ef chk (eN Γ elt tg ifs (nt.map (fun _=>none)++caps.map fun i=>(ρ[i]?).join)) xs [] st1 (dG X.K m H1 Fin))(fin:∀C D H' s' m',L2.Inv X pins σ H' s'->s'.heap.Ns C m'->ng X pins H' C->Fin D H'->compPost (model X.prog X.w) X.A X.xe use Qf (.ref D) C (.ok .next) s') :
  wpAny (model X.prog X.w) X.A (comprehension (.ListComp eltx [⟨tgx,iterx,ifsx,0⟩] scope pos) scope X.env p0 (newList []) false (eval iterx X.env) use) Qf X.xe s:=by
 refine wpAny_comprehension_free (use:=use) rfl (i_ hset) (mf (S.cells I)) S.kind S.nms ?_;refine thn (hI pins s σ H _ I h) fun v s1 h1=>thn h1 fun itv s2 h2=>?_;obtain⟨it,fp,tn,J,H2,e,I2,T,st2,f2,m,ρ,st1,xs,chk,rf,rh,W,hxs,w⟩:=h2;subst e;have fl:∀b∈fp,b<s2.heap.objs.size:=fun b hb=>by obtain⟨o,e,_⟩:=T.obj 0 _ st2 b hb;exact MR e
 refine wpAny_newObj_type (wpAny_newFunctionEnv S.nocell (by intro y hy;simp at hy) (fun h₁ hns₁ hsb₁=>?_) S.kind);dsimp only at hns₁ hsb₁ |-
 generalize hD:s2.heap.objs.size=D at *;generalize hH3:s2.heap.push { cls:=.type "list",dict:=none,data:=.seq ([]:List Value).toArray }=P3 at hns₁ hsb₁ |-
 generalize hCC:P3.objs.size=C at *;have hC1:C=D+1:=by rw[<-hCC,<-hH3,Heap.size_push,hD]
 have ltDC:D<C:=by rw[hC1];exact Nat.lt_succ_self D
 have neC:∀b,b<D->b≠C:=fun b hb=>M8 (O5 hb ltDC);have hDn:H2 D=none:=by rw[<-hD];exact I2.hok.fresh (MJ _)
 have hCn:H2 C=none:=I2.hok.fresh (by rw[hD];exact NQ ltDC);have old3:∀b o,s2.heap.get? b=some o->P3.get? b=some o:=fun b o e=>hH3 ▸ MD _ e;have old:∀b o,s2.heap.get? b=some o->h₁.get? b=some o:=fun b o e=>hsb₁.extBut b o (neC b (hD ▸ MR e)) (MD _ (old3 b o e));have newD:h₁.get? D=some { cls:=.type "list",data:=.seq #[] }:=hsb₁.extBut _ _ (M8 ltDC) (MD _ (by rw [<-hH3,<-hD];exact MZ _ rfl));have un:Un (frs X.stack) fp H2 (upd H2 D (.lst [])) s2.heap h₁:=Un.laid old (by rw[hD];exact MJ _) hDn;have hok:HOk X.prog X.w (upd H2 D (.lst [])) h₁:=I2.hok.laid old (by rw[hD];exact MJ _) ⟨NV _,[],0,.nil,newD⟩;have I4:=Cy (nt:=nt) (tk:=s2.toks+([]:List (Str × Value)).length) S I2 f2 (by rw[hD];exact fl) (C:=C) (by rw[hD];exact NQ ltDC) un hok (by simpa using hns₁) (by rw[af (OS ltDC)];exact hCn) old
  (fun b o e n=>by rw[af (M8 (hD ▸ MR e))];exact n) hcn hcl hcf hce
 generalize hρ0:(nt.map (fun _=>none)++caps.map fun i=>(ρ[i]?).join:Fr)=ρ0 at w;have hρn:∀i v,ρ0[i]?=some (some v)->nt.length<=i:=by rw[<-hρ0];exact om
 have rf0:RF X.K m H2 ρ0 (nt.map (fun _=>none)++caps.map fun i=>(σ[i]?).join):=by rw[<-hρ0];exact DS rf
 generalize (nt.map (fun _=>none)++caps.map fun i=>(σ[i]?).join:L2.St)=σ0 at I4 rf0;have loop:codeAny (model X.prog X.w) X.A (.compLoop (.ListComp eltx [⟨tgx,iterx,ifsx,0⟩] scope pos) 0 (.ref it) (.ref D) (compEnvC scope (gq X.env scope.names []) C X.env)) (compPost (model X.prog X.w) X.A X.xe use Qf (.ref D) C)
   { s2 with heap:=h₁,toks:=s2.toks+([]:List (Str × Value)).length }:=by
  refine ql (fun n s'=>∃(i:Nat),∃σ' H' m' st' acc ys,n+i=xs.length/\L2.Inv (cxC X (nt++cn) s2 H2 fp scope C) [] σ' H' s'/\tn i s'.heap/\(∀b∈fp,H' b=none)/\Ext X.K m H2 m' H'/\RH X.K m' H' st'/\RF X.K m' H' ρ0 σ'/\D ∉ m'/\H' D=some (.lst ys)/\Rs X.K m' H' acc ys/\ys.length<=i /\
   ef chk (eN Γ elt tg ifs ρ0) (xs.drop i) acc st' (dG X.K m H2 Fin)) ?_ xs.length
   ⟨0,σ0,_,m,st1,[],[],rfl,I4,T.keep 0 _ _ st2 (fun b _ o e=>old b o e),fun b hb=>by rw[af (M8 (fl b hb))];exact(f2 b hb).1,Ext.newT rh hDn,rh.newT hDn,rf0.mono (Ext.newT rh hDn),rh.fresh hDn,aw,Rs_nil.mpr rfl,MJ _,by simpa using w⟩
  rintro n s' ⟨i,σ',H',m',st',acc,ys,hn,I',tni,fpn,x',rh',rf',Dm,hDl,rys,hly,k⟩;have stat:∀ {H'':Hp},(∀b∈fp,H'' b=none)->∀b∈fp,ng (cxC X (nt++cn) s2 H2 fp scope C) [] H'' b:=fun hz b hb=>⟨hz b hb,(I'.ok.exf b hb).1,I'.ok.exfs b hb,.inl hb,(I'.ok.exf b hb).2,fun p hp=>absurd (show p∈([]:List (Addr × Obj)) from hp) (by simp)⟩;cases q:xs.drop i with
  | nil =>
   rw[q] at k;have hi:i=xs.length:=by have:=NC List.length q;simp at this;omega
   subst hi;refine thn (T.done (cxC X (nt++cn) s2 H2 fp scope C) rfl rfl rfl hcalm _ [] s' σ' H' (fun _ _=>False) I' (stat fpn) tni (W.stop m' H' st' x' rh' k.1)) fun r s1 ⟨hr,I1⟩=>?_;subst hr;have IX:L2.Inv X pins σ H' s1:=I2.call' I1.os I1.base I1.hok I1.bare fun b hb=>⟨(f2 b hb).2.2.2.1,(f2 b hb).2.1,(f2 b hb).2.2.2.2.1,(f2 b hb).2.2.2.2.2⟩;obtain⟨mm,hns,_⟩:=I1.loc;exact fin C D H' s1 mm IX hns (I2.fpOk (by rw[hD];exact NQ ltDC) I1.free) (k.2 m' H' D ys x' rh' Dm hDn hDl rys)
  | cons v rest =>
   rw[q] at k;have hi:i<xs.length:=by have:=NC List.length q;simp at this;omega
   have ev:xs[i]?=some v:=by have:=NC List.head? q;rw[OY] at this;exact this
   have er:rest=xs.drop (i+1):=by have:=NC List.tail q;rw[O6] at this;exact this.symm
   subst er;obtain⟨kc,k⟩:=k;obtain⟨go,yl⟩:=W.item i v m' H' st' x' rh' kc ev;refine thn (T.item (cxC X (nt++cn) s2 H2 fp scope C) rfl rfl rfl hcalm i [] s' σ' H' (fun _ _=>False) I' (stat fpn) tni go) fun r s4 ⟨u,hr,h4⟩=>?_;subst hr;refine thn h4 fun _ s5 ⟨x,H5,I5,r5,y5,tn5,fr5⟩=>?_;obtain⟨x5,rh5,rv5⟩:=yl x H5 y5;have I5':=I5.pinned (stat fr5) (T.obj _ _ tn5);have again:∀ {σ7:L2.St}{H7:Hp}{s7:Shared}{m7:List Addr}{st7:AH}{acc7:List PV}{ys7:List V},L2.Inv (cxC X (nt++cn) s2 H2 fp scope C) ([]++mL fp s5.heap) σ7 H7 s7->Ext X.K m H2 m7 H7->RH X.K m7 H7 st7->RF X.K m7 H7 ρ0 σ7->D ∉ m7->H7 D=some (.lst ys7) ->
     Rs X.K m7 H7 acc7 ys7->ys7.length<=i+1->ef chk (eN Γ elt tg ifs ρ0) (xs.drop (i+1)) acc7 st7 (dG X.K m H2 Fin) ->
     ∃n',n'<n/\∃(i:Nat),∃σ' H' m' st' acc ys,n'+i=xs.length/\L2.Inv (cxC X (nt++cn) s2 H2 fp scope C) [] σ' H' s7/\tn i s7.heap/\(∀b∈fp,H' b=none)/\Ext X.K m H2 m' H'/\RH X.K m' H' st'/\RF X.K m' H' ρ0 σ'/\D ∉ m'/\H' D=some (.lst ys)/\Rs X.K m' H' acc ys/\ys.length<=i /\
      ef chk (eN Γ elt tg ifs ρ0) (xs.drop i) acc st' (dG X.K m H2 Fin):=fun {σ7 H7 s7 m7 st7 acc7 ys7} I7 g1 g2 g3 g4 g5 g6 g7 g8=>by
    refine⟨n-1,by omega,i+1,σ7,H7,m7,st7,acc7,ys7,by omega,I7.unpinned,T.keep _ _ _ tn5 fun b hb o e=>(I7.pin (b,o) (M7 _ (M7 _ (fY hb e)))).1,fun b hb=>?_,g1,g2,g3,g4,g5,g6,g7,g8⟩;obtain⟨o,e,d⟩:=T.obj _ _ tn5 b hb;exact(I7.pin (b,o) (M7 _ (M7 _ (fY hb e)))).2.1
   have k2:=ox (n:=nt.length) G tg hlow k;refine thn (hG s2 H2 fp C _ s5 σ' H5 x u (fun σ6 H6=>∃m6 ρ1 st6,Ext X.K m' H5 m6 H6/\RH X.K m6 H6 st6/\RF X.K m6 H6 ρ1 σ6/\(∀j,nt.length<=j->ρ1[j]?=ρ0[j]?) /\
    gu Γ ifs ρ1 st6 fun c st4=>if c=true then wpE Γ elt ρ1 st4 fun vv st5=>ef chk (eN Γ elt tg ifs ρ0) (xs.drop (i+1)) (acc++[vv]) st5 (dG X.K m H2 Fin) else ef chk (eN Γ elt tg ifs ρ0) (xs.drop (i+1)) acc st4 (dG X.K m H2 Fin)) I5' r5
    ⟨m',ρ0,st',v,rf'.mono x5,rh5,rv5,aG G tg (fun ρ1 st6 z m6 H6 σ6 x6 rh6 rf6=>⟨m6,ρ1,st6,x6,rh6,rf6,z.2,bZ G ifs (fun c st4 zz=>by
     cases c with
     | true=>rw[MN rfl] at zz |-;exact zz
     | false=>rw[ML MA] at zz |-;simpa using zz) z.1⟩) k2⟩) fun _ s6 ⟨σ6,H6,I6,m6,ρ1,st6,x6,rh6,rf6,pr,w6⟩=>?_
   have hlen:ρ0.length=ρ1.length:=by rw[rf6.len,I6.len,rf'.len,I'.len]
   refine thn (hT s2 H2 fp C _ s6 σ6 H6 (fun b H7=>∃m7 st7,Ext X.K m6 H6 m7 H7/\RH X.K m7 H7 st7/\if b=true then wpE Γ elt ρ1 st7 fun vv st5=>ef chk (eN Γ elt tg ifs ρ0) (xs.drop (i+1)) (acc++[vv]) st5 (dG X.K m H2 Fin) else ef chk (eN Γ elt tg ifs ρ0) (xs.drop (i+1)) acc st7 (dG X.K m H2 Fin)) I6
    ⟨m6,ρ1,st6,rf6,rh6,bZ G ifs (fun b st7 z m7 H7 x7 rh7=>⟨m7,st7,x7,rh7,z⟩) w6⟩) fun b s7 ⟨H7,I7,m7,st7,x7,rh7,w7⟩=>?_
   have xx7:Ext X.K m' H' m7 H7:=(x5.trans x6).trans x7;cases b with
   | false =>
    rw[ML MA] at w7 |-
    refine again I7 (x'.trans xx7) rh7 ((rf6.mono x7).less hlen hρn pr) (fun z=>?_) (xx7.fr D _ Dm hDl fun _ z=>nomatch z) (rys.mono xx7) (by omega) w7;rcases xx7.new D z with z|z
    ·exact Dm z
    ·rw[hDl] at z;cases z
   | true =>
    rw[MN rfl] at w7 |-
    refine thn (hE s2 H2 fp C _ s7 σ6 H7 (fun y H8=>∃m8 st8 vv,Ext X.K m7 H7 m8 H8/\RH X.K m8 H8 st8/\R X.K m8 H8 vv y/\ef chk (eN Γ elt tg ifs ρ0) (xs.drop (i+1)) (acc++[vv]) st8 (dG X.K m H2 Fin)) I7
     ⟨m7,ρ1,st7,rf6.mono x7,rh7,aa G elt (fun vv st8 z m8 H8 y x8 rh8 r8=>⟨m8,st8,vv,x8,rh8,r8,z⟩) w7⟩) fun uy s8 ⟨y,H8,I8,ry,m8,st8,vv,x8,rh8,r8,w8⟩=>?_
    have xx8:Ext X.K m' H' m8 H8:=xx7.trans x8;have hD8:H8 D=some (.lst ys):=xx8.fr D _ Dm hDl fun _ z=>nomatch z;have Dm8:D ∉ m8:=fun z=>by
     rcases xx8.new D z with z|z
     ·exact Dm z
     ·rw[hDl] at z;cases z
    refine thn (oU (X:=cxC X (nt++cn) s2 H2 fp scope C) _ s8 σ6 H8 (.ref D) [y] (.ref D) [uy] (fun _ H9=>H9=upd H8 D (.lst (ys++[y]))) I8 rfl (.cons ry .nil) ⟨D,ys,y,rfl,rfl,hD8,jc (by omega),rfl⟩) fun _ s9 ⟨_,H9,I9,_,e9⟩=>?_;subst e9;exact again I9 ((x'.trans xx8).away hDn hD8) (rh8.away Dm8 hD8) ((((rf6.mono x7).mono x8).less hlen hρn pr).away hD8) Dm8 aw (((rys.mono xx8).app (.one r8)).mono0 (eC hD8) (eF hD8)) (by simp;omega) w8
 exact codeAny_compStart_list loop (T.self X.A 0 _ _ _ (T.keep 0 _ _ st2 fun b _ o e=>old b o e) loop)
end
end FW
namespace FW
open L2 HX
mutual
theorem R.pre {m:List Addr}(hp:m <+: m'):∀ {p:PV}{v:V},R K m H p v->R K m' H p v
 | .non,v,h=>by rw[R_non] at h |-;exact h
 | .bl b,v,h=>by rw[R_bl] at h |-;exact h
 | .int b,v,h=>by rw[R_int] at h |-;exact h
 | .str b,v,h=>by rw[R_str] at h |-;exact h
 | .fn b,v,h=>by rw[yh] at h |-;exact h
 | .gf b,v,h=>by rw[R_gf] at h |-;exact h
 | .clo a us xs,v,h=>by rw[R_clo] at h |-;exact⟨h.1,Rs.pre hp h.2⟩
 | .ref n,v,h=>by rw[fC] at h |-;obtain⟨a,e,q⟩:=h;exact⟨a,hJ hp e,q⟩
 | .tup xs,v,h=>by rw[R_tup] at h |-;obtain⟨a,ys,e,q,r⟩:=h;exact⟨a,ys,e,q,Rs.pre hp r⟩
 | .rdl xs,v,h=>by rw[gg] at h |-;obtain⟨a,ys,e,q,r⟩:=h;exact⟨a,ys,e,q,Rs.pre hp r⟩
theorem Rs.pre {m:List Addr}(hp:m <+: m'):∀ {ps:List PV}{vs:List V},Rs K m H ps vs->Rs K m' H ps vs
 | [],vs,h=>by rw[Rs_nil] at h |-;exact h
 | p::ps,vs,h=>by
  rw[aK] at h |-
  obtain⟨y,r,e,h1,h2⟩:=h;exact⟨y,r,e,R.pre hp h1,Rs.pre hp h2⟩
end
theorem rS (h:pP x f=true):∃a b:Arg,x=⟨[],[a,b],none,[],[],none,[]⟩/\f a.arg b.arg=true:=by obtain⟨p,as,va,ko,kd,kw,ds⟩:=x;unfold pP at h;simp only[Bool.and_eq_true,List.isEmpty_iff,Option.isNone_iff_eq_none] at h;obtain⟨⟨⟨⟨⟨⟨rfl,rfl⟩,rfl⟩,rfl⟩,rfl⟩,rfl⟩,h⟩:=h;obtain⟨a,b,rfl,h⟩:=fP h;exact⟨a,b,rfl,h⟩
theorem yT {a b:Arg}(hne:(b.arg == a.arg)=false)(qual:Str)(cl:List (Str × Addr))(pm:Value)(c':Addr)(ctv:Value)(us:List Value)(hl:us.length=[a.arg,b.arg].length) :
  bindArgs (W.kla_fn "<lambda>" qual ⟨[],[a,b],none,[],[],none,[]⟩ body scope cl pm (.ref c') ctv) ⟨us,[]⟩=pure ([a.arg,b.arg].zip us):=by
 match us,hl with
 | [u,v],_ =>unfold bindArgs;simp[seqItems?,List.lookup,hne];rfl
section
variable {Γ:Nat->FSp}{X:Cx}{c:Cfg}
theorem Dd (C:COk X c Γ)(h:c.lamOk k ys caps sc=true){A:Around}{s:Shared}{E:XK}(hr:Room k (A.deeper (W.envX qual sc s.heap.objs.size f cd cl))) :
  COk (cxL CX0 X.prog X.w X.K X.mg X.base (ys++caps.filterMap (c.N[·]?)) qual sc f cd cl A outer s H E).nox (c.lam k ys caps sc) Γ:=by
 unfold Cfg.lamOk at h;simp only[Bool.and_eq_true,beq_iff_eq,decide_eq_true_eq,List.all_eq_true,Bool.not_eq_true'] at h;obtain⟨⟨⟨⟨⟨⟨⟨⟨⟨⟨h1,h2⟩,h3⟩,h4⟩,h5⟩,h6⟩,h7⟩,h8⟩,h9⟩,h10⟩,h11⟩:=h;have nocell:∀x,sc.names.lookup x≠some .cell:=fun x e=>by have:=h4 _ (NK e);simp at this
 refine⟨rfl,PassesOwn.never,rfl,h11,fun x h=>h,fun x h=>⟨h,.inr ?_⟩,fun x h=>h,fun x h=>h,?_,fun x h=>h,hr,fun f x hf e=>C.fn f x (O5 (show f<k from hf) (by omega)) e,C.blt,C.gl,C.mono,fun h=>Bool.noConfusion (show false=true from h),fun k h=>by cases h⟩
 ·rcases h with h|h
  ·exact h
  ·exact absurd h (nocell x)
 ·show Env.blockKind (W.envX qual sc s.heap.objs.size f cd cl)=_;unfold Env.blockKind;show (if sc.kind.isAnnotationScope=true then _ else sc.kind)=_;rw[h1];rfl
theorem nK {pos pos':Pos}{c cv:Value}(l:List Value)(h:TriplesOk l)(e:codeAmong pos (l++[rawInt pos'.line,rawInt pos'.col,c])=some cv):codeAmong pos l=some cv\/cv=c:=by
 fun_induction TriplesOk l with
 | case1 =>
  simp only[List.nil_append,codeAmong,rawInt] at e;split at e
  ·cases e;exact .inr rfl
  ·cases e
 | case2 a t b u x rest ih =>
  simp only[List.cons_append,codeAmong] at e |-
  split at e
  ·rename_i hc;rw[MN hc];exact .inl e
  ·rename_i hc;rw[ML hc];exact ih h e
 | case3 l h1 h2=>exact h.elim
theorem Ext.lam {H:Hp}{c0:Addr}{x:Str}(hx:x∈aW)(ht:W.tabIn K x=some (c0,T))(hT:H T=some (.tbl ps))(hn:H c'=none)(ho:mO oc (x++".<locals>."++"<lambda>")):Ext K m H m (lg H T ps pos c' oc):=by
 have cT:c'≠T:=fun z=>by rw[z,hT] at hn;cases hn
 have same:∀b,b≠T->b≠c'->lg H T ps pos c' oc b=H b:=fun b h1 h2=>(af h2).trans (af h1);have nT:∀ {b:Addr}{o:HO},H b=some o->(∀qs,o≠.tbl qs)->b≠T:=fun {b o} e n z=>by rw[z,hT] at e;cases e;exact n _ rfl
 have nc:∀ {b:Addr}{o:HO},H b=some o->b≠c':=fun {b o} e z=>by rw[z,hn] at e;cases e
 have atT:lg H T ps pos c' oc T=some (.tbl (DH ps pos c')):=(af cT.symm).trans (MN rfl);have atc:lg H T ps pos c' oc c'=some (.frz oc (.own 0)):=MN rfl;refine⟨OU _,fun _ z=>.inl z,fun a o _ e n=>?_,fun a ys q=>?_,fun a ys q=>?_,fun a qs _ e=>?_,fun t=>⟨fun y hy d T' hd=>?_,let ⟨o,e⟩:=t.2;⟨o,by rw[same _ (nT e fun _ z=>nomatch z) (nc e)];exact e⟩⟩,fun a o u e=>by rw[same a (nT e fun _ z=>nomatch z) (nc e)];exact e⟩
 ·rw[same a (nT e n) (nc e)];exact e
 ·rcases q with (q|⟨w,q⟩)|q
  ·exact .inl (.inl (by rw[same a (nT q fun _ z=>nomatch z) (nc q)];exact q))
  ·exact .inl (.inr ⟨w,by rw[same a (nT q fun _ z=>nomatch z) (nc q)];exact q⟩)
  ·exact .inr q
 ·rcases q with⟨w,q⟩|q
  ·exact .inl ⟨w,by rw[same a (nT q fun _ z=>nomatch z) (nc q)];exact q⟩
  ·exact .inr q
 ·by_cases ha:a=T
  ·subst ha;exact⟨_,atT⟩
  ·exact⟨qs,by rw[same a ha (nc e)];exact e⟩
 ·obtain⟨u,qs,e1,e2,e3⟩:=t.1 y hy d T' hd;have keepF:∀ {b:Addr}{o:Obj},H b=some (.frz o (.own 0))->lg H T ps pos c' oc b=some (.frz o (.own 0)):=fun {b o} e=>by rw[same b (nT e fun _ z=>nomatch z) (nc e)];exact e
  by_cases hz:T'=T
  ·subst hz;obtain rfl:x=y:=u x hx c0 ht;rw[hT] at e1;cases e1;refine⟨u,_,atT,?_,fun p cv q=>?_⟩
   ·rw[Array.toList_append];exact TriplesOk_snoc _ _ _ _ e2
   ·rw[Array.toList_append] at q;rcases nK _ e2 q with q|q
    ·obtain⟨c2,o2,g1,g2,g3⟩:=e3 p cv q;exact⟨c2,o2,g1,keepF g2,g3⟩
    ·exact⟨c',oc,q,atc,ho⟩
  ·refine⟨u,qs,by rw[same T' hz (nc e1)];exact e1,e2,fun p cv q=>?_⟩;obtain⟨c2,o2,g1,g2,g3⟩:=e3 p cv q;exact⟨c2,o2,g1,keepF g2,g3⟩
theorem jn (h:xS k=true):k=some .cell\/k=some .free:=by unfold xS at h;simpa using h
theorem zR {N:List Str}:∀ {caps:List Nat},(∀i∈caps,i<N.length)->(caps.filterMap (N[·]?)).length=caps.length
 | [],_=>rfl
 | i::r,h=>by have hi:=h i MQ;rw[ND,M4 hi];simp only[List.length_cons,zR fun j hj=>h j (List.mem_cons_of_mem _ hj)]
theorem Bb {N:List Str}:∀ {caps:List Nat}{j:Nat}{x:Str},(∀i∈caps,i<N.length)->(caps.filterMap (N[·]?))[j]?=some x->∃i,caps[j]?=some i/\N[i]?=some x
 | [],j,x,_,e=>by simp at e
 | i::r,j,x,h,e=>by
  have hi:=h i MQ;rw[ND,M4 hi] at e;cases j with
  | zero=>simp only[List.getElem?_cons_zero] at e;cases e;exact⟨i,rfl,M4 hi⟩
  | succ j=>simp only[List.getElem?_cons_succ] at e |-;exact Bb (fun j hj=>h j (MM _ hj)) e
theorem Ac (C:COk X c Γ)(hx:HmX X Γ k')(hl:c.lamOk k ys caps sc=true)(hdef:defaultsOf as X.env=([],[]))(hbind:∀qual cl pm c' ctv (us:List Value),us.length=ys.length->bindArgs (W.kla_fn "<lambda>" qual as b sc cl pm (.ref c') ctv) ⟨us,[]⟩=pure (ys.zip us))(hb:∀ {X':Cx},COk X' (c.lam k ys caps sc) Γ->PE X' b (TEx X'.K (wpE Γ be))){σ:L2.St}{Qv:Value->Shared->Prop}(I1:Inv X pins σ H1 s1)(r1:RH X.K m1 H1 st1)(h:∀f' H2 s2,Inv X pins σ H2 s2->Ext X.K m1 H1 m1 H2->RH X.K m1 H2 st1 ->
   (∀(A':Around) (outer':List Env) (s':Shared) (H':Hp) (us:List Value) (vs:List V) (Q':VK),vs.length=ys.length->Room (k+1) A'->Env0 X.prog X.w X.K X.mg X.base A' outer' s' H'->Un (frs X.stack) [] H2 H' s2.heap s'.heap->Vals vs us ->
    TEx X.K (wpE Γ be) (vs.map some++caps.map fun i=>(σ[i]?).join) H' Q'->W.FnAt f' s'.heap/\codeAny (model X.prog X.w) A' (.call (.ref f') ⟨us,[]⟩) (CR CX0 outer' X.prog X.w H' s' Q' E0) s')->Qv (.ref f') s2) :
  wpAny (model X.prog X.w) X.A (eval (.Lambda as b sc pl) X.env) Qv X.xe s1:=by
 obtain⟨x,c0,T,hxl,htab,hcode,hqual,hhd⟩:=hx.cd;obtain⟨bm,ob,b1,b2,b3,b4,b5,b6⟩:=hx.bm;have hlo:=hl;unfold Cfg.lamOk at hlo;simp only[Bool.and_eq_true,beq_iff_eq,decide_eq_true_eq,List.all_eq_true,Bool.not_eq_true',Bool.or_eq_true] at hlo;obtain⟨⟨⟨⟨⟨⟨⟨⟨⟨⟨h1,h2⟩,h3⟩,h4⟩,h5⟩,h6⟩,h7⟩,h8⟩,h9⟩,h10⟩,h11⟩:=hlo;have hfree:∀y∈sc.names,y.2=.free->∃c,X.env.cells.lookup y.1=some c:=fun y hy hf=>I1.ok.has _ (C.cel _ (jn ((h7 y hy).resolve_left fun z=>by rw[hf] at z;cases z)));have hcl:closureFor sc X.env=pure (gq X.env sc.names []):=mf hfree;have clg:∀ {y c},(gq X.env sc.names []).lookup y=some c->X.env.cells.lookup y=some c:=fun {y c} q=>fw hfree (fun _ _ z=>by simp at z) q;have S:mv ys sc (gq X.env sc.names []):=⟨h1,h2,h3,fun y hy z=>(by have:=h4 y hy;rw[z] at this;simp at this),h5,(NP.mp h11).1,fun y hy=>jw (NK hy),fun y z c e1 e2=>I1.ok.inj y z c (clg e1) (clg e2)⟩;obtain⟨uq,ps,hT,htr,hcodes⟩:=r1.tb.1 x hxl c0 T htab;have nb:∀ {z:Addr}{o:Obj},X.base.get? z=some o->z≠T:=fun {z o} ez q=>by have:=(I1.bs z o ez).2;rw[q,hT] at this;cases this
 have nmg:bm≠mainGlobals:=fun z=>by obtain⟨o,es,ep,q,d,_⟩:=I1.mod.glob;rw[z,q] at b3;cases b3;rw[d] at b6;cases b6
 have hbm:s1.heap.BuiltinsAt X.mg T:=⟨bm,ob,b1,b2,nmg,nb b3,I1.bk _ _ b3,b4,b5,b6⟩;refine Co I1 hcode (hhd.keeps I1.bk) hT htr (fun cv q=>?_) hbm hcl hdef (fun f' H2 s2 pm c' ctv oc I2 hobj hoc hob hf hge hH=>?_)
 ·obtain⟨c',oc,q1,q2,q3⟩:=hcodes pl cv q;exact⟨c',oc,q1,q2,by rw[hqual];exact q3⟩
 have hob':mO oc (x++".<locals>."++"<lambda>"):=by rw [<-hqual];exact hob
 have e2:Ext X.K m1 H1 m1 H2:=by
  rcases hH with z|⟨hn,_,_,z⟩
  ·rw[z];exact Ext.refl _ _ _
  ·rw[z];exact Ext.lam hxl htab hT hn hob'
 have r3:RH X.K m1 H2 st1:=r1.keep e2 fun z hz=>by
  rcases hH with q|⟨hn,_,_,q⟩
  ·rw[q]
  ·rw[q];exact(af (show z≠c' from fun q=>r1.fresh hn (by rw[<-q];exact hz))).trans (af (show z≠T from fun q=>r1.mem_tbl (by rw[<-q];exact hz) hT))
 refine h f' H2 s2 I2 e2 r3 fun A' outer' s' H' us vs Q' hvl hr' e0' un rv' ht=>?_;have hfr:f' ∉ frs X.stack:=fun z=>by
  have lt:f'<s1.heap.objs.size:=by
   rcases NB.mp (I1.stkSub f' z) with q|q
   ·rw[q];exact I1.lt
   ·obtain⟨_,o,ho,_⟩:=I1.ok.funs.mem q;exact MK (MR ho) I1.sz
  exact absurd hge (Nat.not_le.mpr lt)
 have hobj':=un.keep f' _ hobj hf hfr (by simp);have hoc':H' c'=some (.frz oc (.own 0)):=un.frzs _ _ _ hoc;have hrec:s'.heap.CodeRec (.ref c') (X.env.qual++"<lambda>"):=by obtain⟨vs,t,d1,d2⟩:=hob;exact⟨c',oc,vs,t,rfl,(e0'.hok _ _ hoc').1,d1,d2⟩
 have cellK:∀ {d:Addr}{z:Option Value},H2 d=none->s2.heap.IsCell d z->s'.heap.IsCell d z:=fun {d z} hn ⟨o,ho,hd⟩=>by obtain⟨sl,q⟩:=un.any ho hn (by simp);exact⟨_,q,hd⟩
 refine⟨⟨_,_,_,_,hobj'⟩,?_⟩;refine De (k:=k) (N:=ys++caps.filterMap (c.N[·]?)) (σ:=vs.map some++caps.map fun i=>(σ[i]?).join) ⟨pm,c',ctv,hobj',hrec⟩ S hr' e0' rv' (fun pm c' ctv=>hbind _ _ pm c' ctv us (by rw[<-rv'.length,hvl])) (fun y d q=>?_) (fun i y z q1 q2=>?_) ?_ (fun cd hroom=>⟨_,hb (Dd C hl hroom),ht⟩)
 ·have q':=clg q;obtain⟨z,hz⟩:=I2.cell y d q';obtain⟨o,ho,_⟩:=id hz;exact⟨⟨z,cellK (I2.freeC y d q') hz⟩,un.free d o ho (I2.freeC y d q') (by simp)⟩
 ·by_cases hi:i<vs.length
  ·rw[MS (by omega)] at q1;rw[MS (by simpa using hi),MI] at q2;refine .inl ⟨i,q1,?_⟩;cases q:vs[i]? with
   | none=>rw[q] at q2;cases q2
   | some a=>rw[q] at q2;cases q2;rfl
  ·rw[MX (by omega),<-hvl] at q1;rw[MX (by simpa using hi),ME] at q2;obtain⟨j,e3,e4⟩:=Bb h9 q1;rw[MI,e3] at q2;have q2':(σ[j]?).join=some z:=by simpa using q2
   have q3:σ[j]?=some (some z):=by
    cases q:σ[j]? with
    | none=>rw[q] at q2';cases q2'
    | some o=>rw[q] at q2';exact NC some q2'
   have hy:=h10 y (MT q1);obtain⟨mm,hn,hlook⟩:=I2.loc;have vis:Vis X.env.scope y:=by
    rcases jn hy.2 with q|q
    ·exact C.vis y (.inr (.inl q))
    ·exact C.vis y (.inr (.inr q))
   obtain⟨uu,rr,lk⟩:=hlook j y z (by rw[C.N];exact e4) q3 vis;refine .inr ⟨hy.1,?_⟩;rcases lk with⟨kd,_⟩|⟨_,d,e5,e6⟩
   ·rcases C.cel y (jn hy.2) with q|q <;> rw[kd] at q <;> cases q
   ·obtain⟨d2,e7⟩:=S.free y hy.1;have e8:=clg e7;rw[e5] at e8;cases e8;exact⟨d,uu,e7,cellK (I2.freeC y d e5) e6,rr⟩
 ·simp[zR h9,hvl]
theorem IW {K:W.Frag}{m:List Addr}{H:Hp}{as:List PV}{vs:List V}{caps:List Nat}{ρ:Fr}{σ:L2.St}(ra:Rs K m H as vs)(h:∀i∈caps,∃cc,ρ[i]?=some (some cc)/\∃xv,σ[i]?=some (some xv)/\R K m H cc xv) :
  RF K m H (as.map some++caps.map fun i=>(ρ[i]?).join) (vs.map some++caps.map fun i=>(σ[i]?).join):=by
 have hl:=ra.len;refine⟨by simp[hl],fun i z q=>?_⟩;by_cases hi:i<as.length
 ·rw[MS (by simpa using hi),MI] at q;cases e:as[i]? with
  | none=>rw[e] at q;cases q
  | some a =>rw[e] at q;cases q;obtain⟨y,e1,r1⟩:=ra.get e;exact⟨y,by rw[MS (by simpa[<-hl] using hi),MI,e1];rfl,r1⟩
 ·rw[MX (by simpa using hi),MI,ME] at q;rw[MX (by rw[ME];omega),MI,ME,<-hl];cases e3:caps[i-as.length]? with
  | none=>rw[e3] at q;cases q
  | some j =>
   rw[e3] at q;obtain⟨cc,e4,xv,e6,e7⟩:=h j (MT e3);have q':(ρ[j]?).join=some z:=by simpa using q
   rw[e4] at q';obtain rfl:cc=z:=by simpa using q'
   exact⟨xv,by rw[Option.map_some,e6];rfl,e7⟩
theorem Hy (C:COk X c Γ)(hpc:c.pc=true){i:Nat}{ls:List Expr}(h1:c.N[i]?=some y)(h2:c.vis y=true)(h5:ar l=true)(h6:ls.all ar=true)(ha:PA X (l::ls) (TAx X.K (a9 Γ es))) :
  PE X (.Call (.Name y p) (l::ls) [] pos) (TEx X.K (wpE Γ (.pcl i es))):=by
 rintro pins s σ H Q I ⟨m,ρ,st,rf,rh,a,cs,ds,ea,w⟩;obtain⟨x,ex,rx⟩:=rf.at_ i _ ea;obtain⟨rfl,rd⟩:=R_clo.mp rx;obtain⟨v1,v2,v3⟩:=C.visx h2;have hvar:=dW (X:=X) (i:=i) (x:=y) (pos:=p) (by rw[C.N];exact h1) v1 v2 v3 pins s σ H (fun v H'=>v=V.ref a/\H'=H) I ⟨_,ex,rfl,rfl⟩;refine wpAny_Call_Name_kw (thn hvar ?_);rintro u s1 ⟨v,H1,I1,rv,rfl,rfl⟩;obtain rfl:u=.ref a:=rv;have hp:(backTo pos (starEach (l::ls) X.env)).any (·.1)=false:=d_ (by rw[OL,h5,h6];rfl);refine W.callWith_of (P:=W.FnAt a) (by rw[hp];rfl) W.keeps_F ?_;rw[aO h5];refine Calls.evalArgs_plain ?_;have A:=ha pos pins s1 σ H1 (fun vs H2=>bj X.K (Γ 1000) (.ref a::vs) H2 Q E0) I1 ⟨m,ρ,st,rf,rh,au C.mono es (fun vs st1 k m1 H2 xs1 e1 r1 r2=>⟨m1,st1,.clo a cs ds::vs,by rw[Rs_cons'];exact⟨R_clo.mpr ⟨rfl,rd.mono e1⟩,r2⟩,r1,C.mono _ _ _ _ _ (fun _ _ q=>q.ext e1) k⟩) w⟩;rw[aO h5] at A;exact thn A fun us s2 ⟨vs,H2,I2,r,q⟩=>C.lam hpc I2 r q
theorem ym (h:vB g e=true):e=.call g (.cons (.var 2) (.cons (.var 0) (.cons (.var 1) .nil))):=by
 have var:∀ {a:E}{i:Nat},a.isVar i=true->a=.var i:=fun {a i} h=>by
  cases a with
  | var j=>exact NC E.var (beq_iff_eq.mp h)
  | _=>exact Bool.noConfusion h
 have cons:∀ {a:Es}{f:E->Es->Bool},a.onCons f=true->∃b r,a=.cons b r/\f b r=true:=fun {a f} h=>by
  cases a with
  | nil=>exact Bool.noConfusion h
  | cons b r=>exact⟨b,r,rfl,h⟩
 cases e with
 | call h' es =>
  replace h:(h' == g && es.onCons fun a r=>a.isVar 2 && r.onCons fun b r=>b.isVar 0 && r.onCons fun d r=>d.isVar 1 && r.isNil)=true:=h;rw[MG,NZ] at h;obtain⟨h0,h⟩:=h;subst h0;replace h:=cons h;obtain⟨a,r,rfl,h⟩:=h;rw[MG] at h;obtain⟨h1,h⟩:=h;replace h:=cons h;obtain⟨b,r,rfl,h⟩:=h;rw[MG] at h;obtain⟨h2,h⟩:=h;replace h:=cons h;obtain⟨d,r,rfl,h⟩:=h;rw[MG] at h;obtain⟨h3,h⟩:=h;cases r with
  | nil=>rw[var h1,var h2,var h3]
  | cons _ _=>exact Bool.noConfusion h
 | _=>exact Bool.noConfusion h
theorem HP (C:COk X c Γ)(hk:c.hm=some k')(hk2:k'.2=some t){y z:Str}{p1 p2:Arg}{f g cap:Nat}{gn:Str}(hf:t.1=f)(hg1:t.2.1=g)(hy:y=t.2.2)(hg:c.glb y=true)(hs1:ar x1=true)(hs2:ar x2=true)(hz:z=gn)(hgz:c.glb z=true)(hw:du (c.gl.lookup z) (fun w=>w.same (.gf gn))=true)(hbe:vB g be=true)(hl:c.lamOk k'.1 [p1.arg,p2.arg] [cap] sc=true)(he1:PE X x1 (TEx X.K (wpE Γ e1)))(he2:PE X x2 (TEx X.K (wpE Γ e2)))(hb:∀ {X':Cx},COk X' (c.lam k'.1 [p1.arg,p2.arg] [cap] sc) Γ->PE X' b (TEx X'.K (wpE Γ be))) :
  PE X (.Call (.Name y p) [x1,x2,.Lambda ⟨[],[p1,p2],none,[],[],none,[]⟩ b sc pl,.Name z pz] [] pos) (TEx X.K (wpE Γ (.plm f g e1 e2 be gn cap))):=by
 rintro pins s σ H Q I ⟨m,ρ,st,rf,rh,w⟩;subst hy hf hg1 hz;have hx:=C.hmo k' hk;obtain⟨fa,fd,ps,hmg,hkp,hps,hbd,run⟩:=(hx.pb t hk2).ex;obtain⟨g1,g2,g3⟩:=C.glbx hg;obtain⟨z1,z2,z3⟩:=C.glbx hgz;obtain⟨wv,hw1,hw2⟩:=bg hw;have hw3:=PV.same_eq hw2;subst hw3;obtain⟨uz,yz,hmz,rz,hR⟩:=C.gl z _ hw1;have h8:k'.1+1<c.lim:=by unfold Cfg.lamOk at hl;simp only[Bool.and_eq_true,decide_eq_true_eq] at hl;exact hl.1.1.1.2
 have hne:(p2.arg == p1.arg)=false:=by unfold Cfg.lamOk at hl;simp only[Bool.and_eq_true,decide_eq_true_eq] at hl;have:=(NO.mp hl.2).1;exact beq_eq_false_iff_ne.mpr fun z=>this (by rw[<-z];simp)
 refine wpAny_Call_Name_kw (dH I g1 hmg ?_ g2);have sL:ar (.Lambda ⟨[],[p1,p2],none,[],[],none,[]⟩ b sc pl)=true:=rfl;have sN:ar (.Name z pz)=true:=rfl;refine PY (h₀:=X.base) I.ok.mod.kin hkp ?_ (aO hs1) (by rw[aO hs2,aO sL,aO sN];rfl);rw[aO hs1,aO hs2,aO sL,aO sN];show wpAny _ _ (spliced ((false,eval x1 X.env)::backTo pos ((false,eval x2 X.env)::(false,eval (.Lambda ⟨[],[p1,p2],none,[],[],none,[]⟩ b sc pl) X.env)::(false,eval (.Name z pz) X.env)::starEach [] X.env))) _ _ s;refine Calls.spliced_cons (thn (he1 pins s σ H (fun a1 H1=>∃m1 v st1,Ext X.K m H m1 H1/\RH X.K m1 H1 st1/\R X.K m1 H1 v a1/\wpE Γ e2 ρ st1 fun y st2=>∃c,ρ[cap]?=some (some c)/\∀l us,Γ t.1 [v,y,.clo l us [c],.gf z] st2 (post X.K m H Q)) I ⟨m,ρ,st,rf,rh,aa C.mono e1 (fun v st1 kk m1 H1 a1 e1 r1 r2=>⟨m1,v,st1,e1,r1,r2,kk⟩) w⟩) ?_);rintro u1 s1 ⟨a1,H1,I1,ru1,m1,v1,st1,x1',r1,q1,w⟩;refine Calls.spliced_cons (thn (he2 pins s1 σ H1 (fun a2 H2=>∃m2 v2 st2,Ext X.K m1 H1 m2 H2/\RH X.K m2 H2 st2/\R X.K m2 H2 v2 a2/\∃c,ρ[cap]?=some (some c)/\∀l us,Γ t.1 [v1,v2,.clo l us [c],.gf z] st2 (post X.K m H Q)) I1 ⟨m1,ρ,st1,rf.mono x1',r1,aa C.mono e2 (fun v st1 kk m1 H1 a1 e1 r1 r2=>⟨m1,v,st1,e1,r1,r2,kk⟩) w⟩) ?_);rintro u2 s2 ⟨a2,H2,I2,ru2,m2,v2,st2,x2',r2,q2,cc,hcap,kk⟩;refine Calls.spliced_cons (Ac C hx hl rfl (yT hne) hb I2 r2 fun f' H3 s3 I3 e3 r3 later=>?_);refine Calls.spliced_cons (dH I3 z1 hmz ?_ z2);obtain⟨xv,hxv,rxv⟩:=rf.at_ cap _ hcap;have x3:Ext X.K m H m2 H3:=(x1'.trans x2').trans e3;have sp:bj X.K (fun as st Q=>(∃x y ds z,as=[x,y,.clo f' [xv] ds,z])/\Γ t.1 as st Q) [a1,a2,.ref f',yz] H3 Q E0 :=
  ⟨m2,st2,[v1,v2,.clo f' [xv] [cc],.gf z],by rw[Rs_cons',Rs_cons',Rs_cons',Rs_cons',Rs_nil,R_clo,Rs_cons',Rs_nil];exact⟨q1.mono (x2'.trans e3),q2.mono e3,⟨rfl,rxv.mono x3,rfl⟩,hR _ _,rfl⟩,r3,⟨_,_,_,_,rfl⟩,C.mono _ _ _ _ _ (fun _ _ q=>q.ext x3) (kk f' [xv])⟩
 refine Calls.spliced_nil ⟨I3.kIn,wpAny_call (codeAny_mono (run f' [xv] X.A X.stack s3 H3 ⟨[u1,u2,.ref f',uz],[]⟩ [u1,u2,.ref f',uz] [a1,a2,.ref f',yz] Q (C.room.mono (by omega)) I3.env0 (hbd s3 [u1,u2,.ref f',uz] I3.kIn hps.symm) (.cons ru1 (.cons ru2 (.cons rfl (.cons rz .nil)))) ?_ sp) fun r s' hq=>?_)⟩
 ·intro A' outer' s' H' us' vs' Q' hvl hr' e0' un rv' ⟨m',st',as,ra,rh',wy⟩
  match vs',hvl with
  | [y1,y2],_ =>
   have l1:=ra.len
   match as,l1 with
   | [b0,b1,b2],_ =>
    rw[QC,List.nil_append,Rs_cons'] at ra;refine later A' outer' s' H' us' [y1,y2] Q' rfl hr' e0' un rv' ⟨m',[b1,b2].map some++[some b0],st',?_,rh',?_⟩
    ·have:=IW (caps:=[0]) (ρ:=[some b0]) (σ:=[some xv]) ra.2 (fun i hi=>by obtain rfl:=M1.mp hi;exact⟨b0,rfl,xv,rfl,ra.1⟩);rw[MF (f:=fun i=>(σ[i]?).join),NM,hxv];exact this
    ·rw[ym hbe];exact wy
 ·cases r with
  | error e=>exact False.elim hq
  | ok fl =>
   cases fl with
   | ret u=>exact I3.after hq
   | next=>exact False.elim hq
   | brk=>exact False.elim hq
   | cont=>exact False.elim hq
end
end FW
namespace FW
open L2 HX
theorem KR (h:(aE P w).is k u=true):L2.RelV (kV k) u:=by
 rcases aT h with⟨i,t,rfl,rfl⟩|⟨x,t,rfl,rfl⟩
 ·exact⟨t,rfl⟩
 ·exact⟨t,rfl⟩
def ObD (P:Program)(w:World)(a:Addr)(o:Obj)(ys:List (Key × V))(vs:List (Key × Value))(ep:Nat):Prop:=KV ys vs/\∀h:Heap,h.get? a=some o->h.DictAt (aE P w) a vs ep
noncomputable def ItF (wk:DW)(a:Addr)(o:Obj)(ys:List (Key × V)):L2.It :=
 ⟨fun i H=>i<ys.length/\H a=some (.frz o (.dK ys)),fun i H x H'=>∃p,ys[i]?=some p/\match wk with
  | .keys=>H'=H/\x=kV p.1
  | .values=>H'=H/\x=p.2,fun i H=>i=ys.length/\H a=some (.frz o (.dK ys))⟩
theorem KV.at {ys:List (Key × V)}{vs:List (Key × Value)}(h:KV ys vs){i:Nat}{p:Key × V}(e:ys[i]?=some p):∃q,vs[i]?=some q/\p.1=q.1/\L2.RelV p.2 q.2:=by
 unfold KV at h
 induction h generalizing i with
 | nil=>simp at e
 | cons f t ih =>
  cases i with
  | zero=>simp at e;subst e;exact⟨_,rfl,f.1,f.2⟩
  | succ i=>obtain⟨q,e1,e2⟩:=ih (by simpa using e);exact⟨q,by simpa using e1,e2⟩
theorem yL {P:Program}{w:World}{K:W.Frag}{tg:Expr}{it a:Addr}{o:Obj}{ys:List (Key × V)}{vs:List (Key × Value)}{ep:Nat}(hO:ObD P w a o ys vs ep) :
  yk P w K tg (ItF .keys a o ys) [it] it (fun i h=>h.IsKeyIter it a i vs.length ep) where
 mem:=by simp
 obj:=fun i h st b hb=>by
  have e:b=it:=by simpa using hb
  subst e;obtain⟨u,e,c,d⟩:=st;exact⟨u,e,fun v z=>by rw[d] at z;cases z⟩
 keep:=fun i h h' st k=>by obtain⟨u,e,r⟩:=st;exact⟨u,k it (by simp) u e,r⟩
 item:=by intro X hP hw hK hc i pins s σ H E I hf st hg;subst hP hw hK;obtain⟨f0,f1,f2,f3,f4,f5⟩:=hf it (by simp);obtain⟨hi,hF⟩:=hg;have hd:=hO.2 _ (I.hok a _ hF).1;obtain⟨p,hp⟩:∃p,ys[i]?=some p:=⟨ys[i],by simp[hi]⟩;obtain⟨q,e1,e2,e3⟩:=KV.at hO.1 hp;refine wpAny_pyNext_dict_item (k:=q.1) (v:=q.2) st hd e1 fun key h' hk st' sb=>?_;have I1:L2.Inv X pins σ H { s with heap:=h' }:=I.turned (t':=s.toks) (fun b u hb e=>sb.extBut b u hb e) f0 f1 f3 f4 f5;obtain⟨u,e,cc,dd⟩:=id st';refine⟨_,rfl,sk (s:={ s with heap:=h' }) e cc dd (by decide) ⟨kV p.1,H,I1,by rw[e2];exact KR hk,⟨p,hp,rfl,rfl⟩,st',fun b hb=>(hf b hb).1⟩⟩
 done:=by intro X hP hw hK hc i pins s σ H E I hf st hg;subst hP hw hK;obtain⟨f0,f1,f2,f3,f4,f5⟩:=hf it (by simp);obtain⟨hi,hF⟩:=hg;have hd:=hO.2 _ (I.hok a _ hF).1;exact wpAny_pyNext_dict_end (I.ok.hd hc) st hd (NJ (by rw[hi,hO.1.length];exact MJ _)) fun h' kk=>⟨rfl,I.turned (t':=s.toks) (fun b u hb e=>kk b u hb e) f0 f1 f3 f4 f5⟩
 self:=fun _ _ _ _ _ st h=>wpAny_pyIter_keyiter st h
theorem rK {P:Program}{w:World}{K:W.Frag}{tg:Expr}{it a:Addr}{o:Obj}{ys:List (Key × V)}{vs:List (Key × Value)}{ep:Nat}(hO:ObD P w a o ys vs ep) :
  yk P w K tg (ItF .values a o ys) [it] it (fun i h=>h.IsValIter it a i vs.length ep) where
 mem:=by simp
 obj:=fun i h st b hb=>by
  have e:b=it:=by simpa using hb
  subst e;obtain⟨u,e,c,d⟩:=st;exact⟨u,e,fun v z=>by rw[d] at z;cases z⟩
 keep:=fun i h h' st k=>by obtain⟨u,e,r⟩:=st;exact⟨u,k it (by simp) u e,r⟩
 item:=by intro X hP hw hK hc i pins s σ H E I hf st hg;subst hP hw hK;obtain⟨f0,f1,f2,f3,f4,f5⟩:=hf it (by simp);obtain⟨hi,hF⟩:=hg;have hd:=hO.2 _ (I.hok a _ hF).1;obtain⟨p,hp⟩:∃p,ys[i]?=some p:=⟨ys[i],by simp[hi]⟩;obtain⟨q,e1,e2,e3⟩:=KV.at hO.1 hp;refine wpAny_pyNext_values_item (k:=q.1) (v:=q.2) st hd e1 fun h' st' sb=>?_;have I1:L2.Inv X pins σ H { s with heap:=h' }:=I.turned (t':=s.toks) (fun b u hb e=>sb.extBut b u hb e) f0 f1 f3 f4 f5;obtain⟨u,e,cc,dd⟩:=id st';exact⟨_,rfl,sk (s:={ s with heap:=h' }) e cc dd (by decide) ⟨p.2,H,I1,e3,⟨p,hp,rfl,rfl⟩,st',fun b hb=>(hf b hb).1⟩⟩
 done:=by intro X hP hw hK hc i pins s σ H E I hf st hg;subst hP hw hK;obtain⟨f0,f1,f2,f3,f4,f5⟩:=hf it (by simp);obtain⟨hi,hF⟩:=hg;have hd:=hO.2 _ (I.hok a _ hF).1;exact wpAny_pyNext_values_end (I.ok.hd hc) st hd (NJ (by rw[hi,hO.1.length];exact MJ _)) fun h' kk=>⟨rfl,I.turned (t':=s.toks) (fun b u hb e=>kk b u hb e) f0 f1 f3 f4 f5⟩
 self:=fun _ _ _ _ _ st h=>wpAny_pyIter_valiter st h
theorem Jf:R K m H (kP k) (kV k):=by
 cases k with
 | inl i=>exact R_int.mpr rfl
 | inr x=>exact R_str.mpr rfl
theorem jg:∀ {kvs:List (Key × PV)}{ys:List (Key × V)}{i:Nat}{p:Key × V},ys.map (·.1)=kvs.map (·.1)->Rs K m H (kvs.map (·.2)) (ys.map (·.2))->ys[i]?=some p->∃q,kvs[i]?=some q/\q.1=p.1/\R K m H q.2 p.2
 | [],ys,i,p,e,r,h=>by
  cases ys with
  | nil=>simp at h
  | cons _ _=>simp at e
 | q::kvs,ys,i,p,e,r,h=>by
  cases ys with
  | nil=>simp at h
  | cons y ys =>
   simp only[List.map_cons,List.cons.injEq] at e;rw[MF,MF,Rs_cons'] at r;cases i with
   | zero=>simp at h;subst h;exact⟨q,rfl,e.1.symm,r.1⟩
   | succ i=>obtain⟨z,h1,h2⟩:=jg e.2 r.2 (show ys[i]?=some p by simpa using h);exact⟨z,by simpa using h1,h2⟩
theorem Hs {H0:Hp}{kvs:List (Key × PV)}(hF:H0 a=some (.frz o (.dK ys)))(r1:ys.map (·.1)=kvs.map (·.1))(r2:Rs K m0 H0 (kvs.map (·.2)) (ys.map (·.2))) :
  rN K (ItF wk a o ys) (cH wk kvs) (fun _=>True) m0 H0:=by
 have hl:ys.length=kvs.length:=by simpa using NC List.length r1
 have hw:(cH wk kvs).length=ys.length:=by cases wk <;> simp[cH,hl]
 refine⟨fun m H st x r q=>⟨hw,x.frz _ _ _ hF⟩,fun i v m H st x r q ev=>?_⟩;have hi:i<ys.length:=by rw[<-hw];exact(MC.mp ev).1
 refine⟨⟨hi,x.frz _ _ _ hF⟩,?_⟩;rintro y H' ⟨p,hp,z⟩;obtain⟨u,hu,e1,e2⟩:=jg r1 r2 hp;cases wk with
 | keys =>
  obtain⟨rfl,rfl⟩:=z;have:(cH .keys kvs)[i]?=some (kP u.1):=by unfold cH;rw[MI,hu];rfl
  rw[this] at ev;cases ev;exact⟨Ext.refl _ _ _,r,by rw[e1];exact Jf⟩
 | values =>
  obtain⟨rfl,rfl⟩:=z;have:(cH .values kvs)[i]?=some u.2:=by unfold cH;rw[MI,hu];rfl
  rw[this] at ev;cases ev;exact⟨Ext.refl _ _ _,r,e2.mono x⟩
end FW
namespace FW
open L2 HX
section
variable {X:Cx}{pins:List (Addr × Obj)}{σ:L2.St}{H:Hp}{s:Shared}{a:Addr}{ys:List (Key × V)}{o:Obj}
theorem lF (I:L2.Inv X pins σ H s)(e:H a=some (.dK ys))(ho:s.heap.get? a=some o):L2.Inv X pins σ (upd H a (.frz o (.dK ys))) s:=by
 have nh:∀b u,H b=some u->(∀zs,u≠.dK zs)->upd H a (.frz o (.dK ys)) b=some u:=fun b u q n=>by rw[af (fun z=>by subst z;rw[e] at q;cases q;exact n _ rfl)];exact q
 have no:∀b,H b=none->upd H a (.frz o (.dK ys)) b=none:=fun b q=>by rw[af (fun z=>by subst z;rw[e] at q;cases q)];exact q
 refine⟨I.ok,I.os,I.bare,⟨I.base.keep,I.base.slot,fun b u q n hx=>no b (I.base.free b u q n hx),I.base.there,fun b xs q=>nh b _ (I.base.tups b xs q) (fun _ z=>nomatch z),fun b u v q=>nh b _ (I.base.frzs b u v q) (fun _ z=>nomatch z),fun b ps q=>let ⟨m,z⟩:=I.base.tbls b ps q;⟨m,nh b _ z (fun _ z=>nomatch z)⟩⟩,I.loc,I.cell,no _ I.free,fun x c q=>no _ (I.freeC x c q),fun p hp=>let ⟨h1,h2,h3⟩:=I.pin p hp;⟨h1,no _ h2,h3⟩,fun b u q=>?_,I.len⟩;have st:∀ {b:Addr}{u:HO},ObjOk X.prog X.w H s.heap b u->ObjOk X.prog X.w (upd H a (.frz o (.dK ys))) s.heap b u:=fun {b u} x=>x.stay (fun _ _ _ q=>q) (fun c q=>nh c _ q (fun _ z=>nomatch z)) fun c xs q=>nh c _ q fun _ z=>nomatch z;by_cases hb:b=a
 ·subst hb;rw[aw] at q;cases q;exact⟨ho,st (I.hok b _ e)⟩
 ·rw[af hb] at q;exact st (I.hok b u q)
theorem tR (I:L2.Inv X pins σ H s)(e:H a=some (.frz o (.dK ys)))(hz:∀u q,X.H₀ a≠some (.frz u q)):L2.Inv X pins σ (upd H a (.dK ys)) s:=by
 have nh:∀b u,H b=some u->(∀w zs,u≠.frz w (.dK zs))->upd H a (.dK ys) b=some u:=fun b u q n=>by rw[af (fun z=>by subst z;rw[e] at q;cases q;exact n _ _ rfl)];exact q
 have no:∀b,H b=none->upd H a (.dK ys) b=none:=fun b q=>by rw[af (fun z=>by subst z;rw[e] at q;cases q)];exact q
 refine⟨I.ok,I.os,I.bare,⟨I.base.keep,I.base.slot,fun b u q n hx=>no b (I.base.free b u q n hx),I.base.there,fun b xs q=>nh b _ (I.base.tups b xs q) (fun _ _ z=>nomatch z),fun b u v q=>by rw[af (fun z=>by subst z;exact hz _ _ q)];exact I.base.frzs b u v q,fun b ps q=>let ⟨m,z⟩:=I.base.tbls b ps q;⟨m,nh b _ z (fun _ _ z=>nomatch z)⟩⟩,I.loc,I.cell,no _ I.free,fun x c q=>no _ (I.freeC x c q),fun p hp=>let ⟨h1,h2,h3⟩:=I.pin p hp;⟨h1,no _ h2,h3⟩,fun b u q=>?_,I.len⟩;have st:∀ {b:Addr}{u:HO},ObjOk X.prog X.w H s.heap b u->ObjOk X.prog X.w (upd H a (.dK ys)) s.heap b u:=fun {b u} x=>x.stay (fun _ _ _ q=>q) (fun c q=>nh c _ q (fun _ _ z=>nomatch z)) fun c xs q=>nh c _ q fun _ _ z=>nomatch z;by_cases hb:b=a
 ·subst hb;rw[aw] at q;cases q;exact st (I.hok b _ e).2
 ·rw[af hb] at q;exact st (I.hok b u q)
theorem BI (I:L2.Inv X pins σ H s)(e:H a=some (.dK ys)):∀u q,X.H₀ a≠some (.frz u q):=fun u q z=>by have:=I.base.frzs a u q z;rw[e] at this;cases this
end
section
variable {K:W.Frag}{m m2:List Addr}{H H2:Hp}{st:AH}{n:Nat}{a:Addr}{o:Obj}{ys:List (Key × V)}{kvs:List (Key × PV)}
theorem RH.frz (h:RH K m H st)(e:m[n]?=some a)(g:H a=some (.dK ys))(r1:ys.map (·.1)=kvs.map (·.1))(r2:Rs K m H (kvs.map (·.2)) (ys.map (·.2))):RH K m (upd H a (.frz o (.dK ys))) (st.set n (.fz kvs)):=by
 have x:Ext K m H m (upd H a (.frz o (.dK ys))):=Ext.set (ys:=[]) h e (nfD g);refine⟨by simp[h.len],h.nd,fun k c b h1 h2=>?_,x.tb h.tb⟩;by_cases hk:k=n
 ·subst hk;have hl:k<st.length:=by rw[<-h.len];exact(MC.mp e).1
  rw[MW hl] at h1;rw[e] at h2;cases h1;cases h2;exact⟨o,ys,aw,r1,r2.mono x⟩
 ·rw[MH (Ne.symm hk)] at h1;exact(h.at_ k c b h1 h2).mono x (af fun z=>hk (j8 h.nd h2 (z ▸ e)))
theorem cD (hD:H a=some (.frz o (.dK ys))):∀b us,SqT K H b us->SqT K (upd H a (.dK ys)) b us:=fun b us q=>by
 rcases q with (q|⟨w,q⟩)|q
 ·exact .inl (.inl (by rw[af (fun z=>by subst z;rw[hD] at q;cases q)];exact q))
 ·exact .inl (.inr ⟨w,by rw[af (fun z=>by subst z;rw[hD] at q;cases q)];exact q⟩)
 ·exact .inr q
theorem cJ (hD:H a=some (.frz o (.dK ys))):∀b us,RdF K H b us->RdF K (upd H a (.dK ys)) b us:=fun b us q=>by
 rcases q with⟨w,q⟩|q
 ·exact .inl ⟨w,by rw[af (fun z=>by subst z;rw[hD] at q;cases q)];exact q⟩
 ·exact .inr q
theorem TB.thaw (t:TB K H)(hD:H a=some (.frz o (.dK ys))):TB K (upd H a (.dK ys)) :=
 t.keep (fun b ps q=>by rw[af (fun z=>by subst z;rw[hD] at q;cases q)];exact q) fun b w q=>by rw[af (fun z=>by subst z;rw[hD] at q;cases q)];exact q
theorem RH.thaw (h:RH K m H st)(e:m[n]?=some a)(hF:H a=some (.frz o (.dK ys)))(hs:st[n]?=some (.fz kvs)):RH K m (upd H a (.dK ys)) (st.set n (.dk kvs)):=by
 refine⟨by simp[h.len],h.nd,fun k c b h1 h2=>?_,h.tb.thaw hF⟩;by_cases hk:k=n
 ·subst hk;have hl:k<st.length:=(MC.mp hs).1;rw[MW hl] at h1;rw[e] at h2;cases h1;cases h2;obtain⟨o',ys',g1,g2,g3⟩:=h.at_ k _ a hs e;rw[hF] at g1;cases g1;exact⟨ys,aw,g2,g3.mono0 (cD hF) (cJ hF)⟩
 ·rw[MH (Ne.symm hk)] at h1;have ne:b≠a:=fun z=>hk (j8 h.nd h2 (z ▸ e));have hc:=h.at_ k c b h1 h2;cases c with
  | lst xs=>obtain⟨us,g1,g2⟩:=hc;exact⟨us,by rw[af ne];exact g1,g2.mono0 (cD hF) (cJ hF)⟩
  | dk kvs=>obtain⟨us,g1,g2,g3⟩:=hc;exact⟨us,by rw[af ne];exact g1,g2,g3.mono0 (cD hF) (cJ hF)⟩
  | fz kvs=>obtain⟨w,us,g1,g2,g3⟩:=hc;exact⟨w,us,by rw[af ne];exact g1,g2,g3.mono0 (cD hF) (cJ hF)⟩
  | od kvs=>obtain⟨o,us,ws,g1,g2,g3,g4⟩:=hc;exact⟨o,us,ws,by rw[af ne];exact g1,g2,g3.mono0 (cD hF) (cJ hF),g4.mono0 (cD hF) (cJ hF)⟩
theorem Ext.thaw (h:RH K m H st)(e:m[n]?=some a)(g:H a=some (.dK ys))(x:Ext K m (upd H a (.frz o (.dK ys))) m2 H2):Ext K m H m2 (upd H2 a (.dK ys)):=by
 have hm:a∈m:=MT e;have y:Ext K m H m (upd H a (.frz o (.dK ys))):=Ext.set (ys:=[]) h e (nfD g);have hF:H2 a=some (.frz o (.dK ys)):=x.frz _ _ _ aw;have z:=y.trans x;refine⟨z.pre,z.new,fun b u hb q n=>?_,fun b us q=>cD hF b us (z.tup b us q),fun b us q=>cJ hF b us (z.rdf b us q),fun b ps hb q=>?_,fun t=>(z.tb t).thaw hF,fun b u v q=>?_⟩
 ·rw[af (show b≠a from fun w=>hb (by rw[w];exact hm))];exact z.fr b u hb q n
 ·rw[af (show b≠a from fun w=>hb (by rw[w];exact hm))];exact z.tbs b ps hb q
 ·rw[af (fun w=>by subst w;exact nfD g _ _ q)];exact z.frz b u v q
end
section
variable {X:Cx}{c:Cfg}{Γ:Nat->FSp}
noncomputable def wiF (X:Cx)(Γ:Nat->FSp)(wk:DW)(e:E):TI:=fun σ H Rr=>∃m ρ st,RF X.K m H ρ σ/\RH X.K m H st/\wpE Γ e ρ st fun x st1=>∃n kvs,x=.ref n/\st1[n]?=some (.dk kvs) /\
 ∀m1 H1 a o ys,Ext X.K m H m1 H1->RH X.K m1 H1 st1->m1[n]?=some a->H1 a=some (.dK ys)->ys.map (·.1)=kvs.map (·.1)->Rs X.K m1 H1 (kvs.map (·.2)) (ys.map (·.2))->(∀u q,X.H₀ a≠some (.frz u q))->Rr (ItF wk a o ys) (upd H1 a (.frz o (.dK ys)))
theorem D9 (C:COk X c Γ)(he:PE X u (TEx X.K (wpE Γ e))):PI X tg u (wiF X Γ .keys e):=by
 rintro pins s σ H Rr I ⟨m,ρ,st,rf,rh,w⟩;refine thn (he pins s σ H (fun x H1=>∃a ys,x=.ref a/\H1 a=some (.dK ys)/\∀o,(∀u q,X.H₀ a≠some (.frz u q))->Rr (ItF .keys a o ys) (upd H1 a (.frz o (.dK ys)))) I ⟨m,ρ,st,rf,rh,aa C.mono e (fun v st1 k m1 H1 x1 e1 r1 r2=>?_) w⟩) fun v s1 ⟨x,H1,I1,r1,a,ys,ex,hd,q⟩=>?_
 ·obtain⟨n,kvs,rfl,h1,k⟩:=k;obtain⟨b,ys,rfl,eb,g,r3,r4⟩:=r1.dkat h1 r2;exact⟨b,ys,rfl,g,fun o hz=>k m1 H1 b o ys e1 r1 eb g r3 r4 hz⟩
 ·subst ex;cases r1;obtain⟨z,hm,vs,rel,o,es,ep,ho,rr⟩:=ip I1.hok hd;have hO:ObD X.prog X.w a o ys vs ep:=⟨rel,fun h e=>⟨o,es,e,rr⟩⟩;refine wpAny_pyIter_dict hm (hO.2 _ ho) ?_;refine⟨s1.heap.objs.size,[s1.heap.objs.size],_,_,_,rfl,(lF I1 hd ho).kept (t':=s1.toks) fun b u e=>MD _ e,yL hO,⟨_,MZ _ rfl,rfl,rfl⟩,fun b hb=>?_,q o (BI I1 hd)⟩;have e:b=s1.heap.objs.size:=by simpa using hb
  subst e;exact I1.fpOk (MJ _) ((lF I1 hd ho).hok.fresh (MJ _))
noncomputable def v9 (v a:Addr):HO:=.ext fun h=>h.IsValuesView v a
theorem yI:MtR X "dict.values" (fun x xs H Q=>∃a kvs,x=.ref a/\xs=[]/\H a=some (.dK kvs)/\∀v,H v=none->Q (.ref v) (upd H v (v9 v a))):=by rintro pins s σ H x xs v us Q I rx rv ⟨a,kvs,rfl,rfl,g,q⟩;cases rx;cases rv;obtain⟨z,hm,vs,rel,dd⟩:=ip I.hok g;refine call_meetsIn PySem.F.slot_dict_values dd.typeIs PySem.F.entry_dict_values (PySem.F.args_dict_values_1 _) (meets_dict_values (aE X.prog X.w) a hm) ⟨⟨vs,dd⟩,?_⟩;refine⟨.ref s.heap.objs.size,_,I.laid (t':=s.toks) (fun b u e=>MD _ e) (MJ _) (show ObjOk X.prog X.w _ _ _ (v9 s.heap.objs.size a) from ⟨⟨_,MZ _ rfl,rfl,rfl⟩,⟨_,MZ _ rfl⟩,fun h1 h2 z e=>let ⟨ob,h3,r⟩:=z;⟨ob,e _ h3,r⟩⟩),rfl,q _ (I.hok.fresh (MJ _))⟩
theorem yQ (C:COk X c Γ){ap cp:Pos}(hl:(ap.endLine == cp.line)=true)(hy:gA y=true)(he:PE X y (TEx X.K (wpE Γ e))):PI X tg (.Call (.Attribute y "values" ap) [] [] cp) (wiF X Γ .values e):=by
 rintro pins s σ H Rr I ⟨m,ρ,st,rf,rh,w⟩;have hE:=u6 (X:=X) (apos:=ap) (cpos:=cp) PySem.F.plainAttrs_dict PySem.F.slot_dict_values PySem.F.type_dict_values yI he (fj hy) hl;refine thn (hE pins s σ H (fun x H1=>∃v a ys,x=.ref v/\H1 v=some (v9 v a)/\H1 a=some (.dK ys)/\∀o,(∀u q,X.H₀ a≠some (.frz u q))->Rr (ItF .values a o ys) (upd H1 a (.frz o (.dK ys)))) I ⟨m,ρ,st,rf,rh,aa C.mono e (fun v st1 k m1 H1 x1 e1 r1 r2=>?_) w⟩) fun v s1 ⟨x,H1,I1,r1,vw,a,ys,ex,hv,hd,q⟩=>?_
 ·obtain⟨n,kvs,rfl,h1,k⟩:=k;obtain⟨b,ys,rfl,eb,g,r3,r4⟩:=r1.dkat h1 r2;refine⟨.inr (.inr (.inl ⟨rfl,.inl ⟨ys,g⟩⟩)),b,ys,rfl,rfl,g,fun v hv=>⟨v,b,ys,rfl,aw,?_,fun o hz=>?_⟩⟩
  ·rw[af (av g hv)];exact g
  ·have xv:=Ext.newT (o:=v9 v b) r1 hv;exact k m1 _ b o ys (e1.trans xv) (r1.newT hv) eb (by rw[af (av g hv)];exact g) r3 (r4.mono xv) hz
 ·subst ex;cases r1;obtain⟨z,hm,vs,rel,o,es,ep,ho,rr⟩:=ip I1.hok hd;have hO:ObD X.prog X.w a o ys vs ep:=⟨rel,fun h e=>⟨o,es,e,rr⟩⟩;have hw:s1.heap.IsValuesView vw a:=(I1.hok vw _ hv).1;refine wpAny_pyIter_values hw (hO.2 _ ho) ?_;refine⟨s1.heap.objs.size,[s1.heap.objs.size],_,_,_,rfl,(lF I1 hd ho).kept (t':=s1.toks) fun b u e=>MD _ e,rK hO,⟨_,MZ _ rfl,rfl,rfl⟩,fun b hb=>?_,q o (BI I1 hd)⟩;have e:b=s1.heap.objs.size:=by simpa using hb
  subst e;exact I1.fpOk (MJ _) ((lF I1 hd ho).hok.fresh (MJ _))
theorem Le (C:COk X c Γ)(h1:JS wk tg=true)(h2:yb wk ix (fun y=>aS c e y)=true)(he:∀y,aS c e y=true->PE X y (TEx X.K (wpE Γ e))):PI X tg ix (wiF X Γ wk e):=by
 cases wk with
 | keys=>exact D9 C (he _ (yc h2).2)
 | values =>obtain⟨y,ap,cp,rfl,h3,h4,h5⟩:=sE h2;exact yQ C h3 h4 (he _ h5)
end
end FW
namespace FW
open L2 HX
section
variable {X:Cx}{pins:List (Addr × Obj)}{σ:L2.St}{H:Hp}{s:Shared}{a:Addr}{A:Around}{E:Value->Shared->Prop}
end
section
variable {K:W.Frag}{m m':List Addr}{H H':Hp}{st:AH}{D:Addr}{ys zs:List (Key × V)}
theorem dQ (hD:H D=some (.dK ys)):∀a us,SqT K H a us->SqT K (upd H D (.dK zs)) a us:=fun a us q=>by
 rcases q with (q|⟨w,q⟩)|q
 ·exact .inl (.inl (by rw[af (fun z=>by subst z;rw[hD] at q;cases q)];exact q))
 ·exact .inl (.inr ⟨w,by rw[af (fun z=>by subst z;rw[hD] at q;cases q)];exact q⟩)
 ·exact .inr q
theorem eg (hD:H D=some (.dK ys)):∀a us,RdF K H a us->RdF K (upd H D (.dK zs)) a us:=fun a us q=>by
 rcases q with⟨w,q⟩|q
 ·exact .inl ⟨w,by rw[af (fun z=>by subst z;rw[hD] at q;cases q)];exact q⟩
 ·exact .inr q
theorem TB.awayD (t:TB K H)(hD:H D=some (.dK ys)):TB K (upd H D (.dK zs)) :=
 t.keep (fun a ps q=>by rw[af (fun z=>by subst z;rw[hD] at q;cases q)];exact q) fun a o q=>by rw[af (fun z=>by subst z;rw[hD] at q;cases q)];exact q
theorem Ext.awayD (x:Ext K m H m' H')(h0:H D=none)(hD:H' D=some (.dK ys)):Ext K m H m' (upd H' D (.dK zs)) :=
 ⟨x.pre,x.new,fun a o ha e n=>by rw[af (av e h0)];exact x.fr a o ha e n,fun a us q=>dQ hD a us (x.tup a us q),fun a us q=>eg hD a us (x.rdf a us q),fun a ps ha e=>let ⟨p1,e1⟩:=x.tbs a ps ha e;⟨p1,by rw[af (av e h0)];exact e1⟩,fun t=>(x.tb t).awayD hD,fun a o u e=>by rw[af (av e h0)];exact x.frz a o u e⟩
theorem RH.awayD (h:RH K m H st)(hm:D ∉ m)(hD:H D=some (.dK ys)):RH K m (upd H D (.dK zs)) st:=by
 refine⟨h.len,h.nd,fun n c a h1 h2=>?_,h.tb.awayD hD⟩;have ha:a≠D:=fun z=>hm (z ▸ MT h2);have hc:=h.at_ n c a h1 h2;cases c with
 | lst xs=>obtain⟨us,g1,g2⟩:=hc;exact⟨us,by rw[af ha];exact g1,g2.mono0 (dQ hD) (eg hD)⟩
 | dk kvs=>obtain⟨us,g1,g2,g3⟩:=hc;exact⟨us,by rw[af ha];exact g1,g2,g3.mono0 (dQ hD) (eg hD)⟩
 | fz kvs=>obtain⟨o,us,g1,g2,g3⟩:=hc;exact⟨o,us,by rw[af ha];exact g1,g2,g3.mono0 (dQ hD) (eg hD)⟩
 | od kvs=>obtain⟨o,us,ws,g1,g2,g3,g4⟩:=hc;exact⟨o,us,ws,by rw[af ha];exact g1,g2,g3.mono0 (dQ hD) (eg hD),g4.mono0 (dQ hD) (eg hD)⟩
end
section
variable {X:Cx}{Γ:Nat->FSp}{pins:List (Addr × Obj)}{σ:L2.St}{H:Hp}{s:Shared}
def DRel (K:W.Frag)(m:List Addr)(H:Hp)(ps:List (Str × PV))(ds:List (Key × V)):Prop:=ds.map (·.1)=(E9 ps).map (·.1)/\Rs K m H ((E9 ps).map (·.2)) (ds.map (·.2))
theorem DRel.mono (h:DRel K m H ps ds)(x:Ext K m H m' H'):DRel K m' H' ps ds:=⟨h.1,h.2.mono x⟩
end
end FW
namespace FW
open L2 HX
section
variable {prog:Program}{w:World}{A:Around}{E:Value->Shared->Prop}{s:Shared}
variable {R:Result->Shared->Prop}
end
end FW
namespace FW
open L2 HX
section
variable {prog:Program}{w:World}{A:Around}{E:Value->Shared->Prop}{s:Shared}
end
section
variable {X:Cx}{c:Cfg}{Γ:Nat->FSp}
end
end FW
namespace FW
open L2 HX
def EqW (prog:Program)(w:World)(A:Around)(s:Shared)(y x:Value):Prop:=∀(E:Value->Shared->Prop) (Q:Bool->Shared->Prop),Q true s->wpAny (model prog w) A (eqBool y x) Q E s
section
variable {prog:Program}{w:World}
theorem vG (p q:Addr)(us vs:Array Value)(op op2:Obj)(c1:op.cls=.type "tuple")(c2:op2.cls=.type "tuple")(k1 k2:Nat)(d1:op.data=.seq us k1)(d2:op2.data=.seq vs k2)(hn:us.size=vs.size) :
  MeetsIn prog w (Builtin.«tuple.__ne__» ⟨[.ref p,.ref q],[]⟩) (fun A R s=>s.heap.get? p=some op/\s.heap.get? q=some op2/\(∀j (h1:j<us.size) (h2:j<vs.size),EqW prog w A.in1 s us[j] vs[j])/\R (.ok (.ret (.bool false))) s) :=
 .of_wp fun A R s h=>by
  obtain⟨cl,dd,dt,sl⟩:=op;obtain⟨cl2,dd2,dt2,sl2⟩:=op2;simp only at c1 c2 d1 d2;subst c1 c2 d1 d2;obtain⟨hp,g,dr,tk,os⟩:=s;obtain⟨hl,hb,he,hR⟩:=h;have f2:=AutoSeq1.sub_tuple_tuple;have hZ:(us.toList.zip vs.toList).length=us.size:=by simp[hn]
  wp_walk using AutoSeq1.wpAny_loadPart' hl,AutoSeq1.wpAny_loadPart' hb,wpAny_forIn_list _ (fun left b s'=>b.1=none/\s'=⟨hp,g,dr,tk,os⟩/\∃i,left=(us.toList.zip vs.toList).drop i) _
  case turn =>
   rintro⟨y,x⟩ left b s' ⟨hb',rfl,i,hz⟩;have hlt:i<(us.toList.zip vs.toList).length:=by
    rcases Nat.lt_or_ge i (us.toList.zip vs.toList).length with h' | h'
    ·exact h'
    ·rw[List.drop_of_length_le h'] at hz;cases hz
   have h1:i<us.size:=by omega
   have h2:i<vs.size:=by omega
   rw[OI hlt] at hz;injection hz with hyx hleft
   have hy:y=us[i]:=by have:=NC Prod.fst hyx;simpa using this
   have hx:x=vs[i]:=by have:=NC Prod.snd hyx;simpa using this
   subst hy hx;refine MB (he i h1 h2 _ _ ?_)
   wp_walk
   exact⟨rfl,rfl,i+1,hleft⟩
  case fin =>
   rintro⟨b1,b2⟩ s' ⟨hb',rfl,i,hz⟩;simp only at hb';subst hb'
   wp_walk
   exact⟨_,rfl,by simpa[Builtin.Tuple.tupleCompareSizes,bne,hn] using hR⟩
  case h=>exact⟨rfl,rfl,0,rfl⟩
theorem vy (p q:Addr)(us vs:Array Value)(op op2:Obj)(c1:op.cls=.type "tuple")(c2:op2.cls=.type "tuple")(k1 k2:Nat)(d1:op.data=.seq us k1)(d2:op2.data=.seq vs k2)(hn:us.size=vs.size) :
  MeetsIn prog w (Builtin.«tuple.__eq__» ⟨[.ref p,.ref q],[]⟩) (fun A R s=>s.heap.get? p=some op/\s.heap.get? q=some op2/\(∀j (h1:j<us.size) (h2:j<vs.size),EqW prog w A.in1 s us[j] vs[j])/\R (.ok (.ret (.bool true))) s) :=
 .of_wp fun A R s h=>by
  obtain⟨cl,dd,dt,sl⟩:=op;obtain⟨cl2,dd2,dt2,sl2⟩:=op2;simp only at c1 c2 d1 d2;subst c1 c2 d1 d2;obtain⟨hp,g,dr,tk,os⟩:=s;obtain⟨hl,hb,he,hR⟩:=h;have f2:=AutoSeq1.sub_tuple_tuple;have hZ:(us.toList.zip vs.toList).length=us.size:=by simp[hn]
  wp_walk using AutoSeq1.wpAny_loadPart' hl,AutoSeq1.wpAny_loadPart' hb,wpAny_forIn_list _ (fun left b s'=>b.1=none/\s'=⟨hp,g,dr,tk,os⟩/\∃i,left=(us.toList.zip vs.toList).drop i) _
  case turn =>
   rintro⟨y,x⟩ left b s' ⟨hb',rfl,i,hz⟩;have hlt:i<(us.toList.zip vs.toList).length:=by
    rcases Nat.lt_or_ge i (us.toList.zip vs.toList).length with h' | h'
    ·exact h'
    ·rw[List.drop_of_length_le h'] at hz;cases hz
   have h1:i<us.size:=by omega
   have h2:i<vs.size:=by omega
   rw[OI hlt] at hz;injection hz with hyx hleft
   have hy:y=us[i]:=by have:=NC Prod.fst hyx;simpa using this
   have hx:x=vs[i]:=by have:=NC Prod.snd hyx;simpa using this
   subst hy hx;refine MB (he i h1 h2 _ _ ?_)
   wp_walk
   exact⟨rfl,rfl,i+1,hleft⟩
  case fin =>
   rintro⟨b1,b2⟩ s' ⟨hb',rfl,i,hz⟩;simp only at hb';subst hb'
   wp_walk
   exact⟨_,rfl,by simpa[Builtin.Tuple.tupleCompareSizes,bne,hn] using hR⟩
  case h=>exact⟨rfl,rfl,0,rfl⟩
variable {A:Around}{E:Value->Shared->Prop}{s:Shared}
noncomputable def opB (ne:Bool):CmpOp:=if ne then .NotEq else .Eq
theorem AD {ne:Bool}{Q:Value->Shared->Prop}(hp:s.heap.IsTuple p us)(hq:s.heap.IsTuple q vs)(hn:us.size=vs.size)(hu:A.units<cLine)(he:∀j (h1:j<us.size) (h2:j<vs.size),EqW prog w A.in1 s us[j] vs[j])(h:Q (.bool (!ne)) s) :
  wpAny (model prog w) A (compareOp (opB ne) (.ref p) (.ref q)) Q E s:=by
 obtain⟨o1,ho,hc,n,hd⟩:=id hp;obtain⟨o2,ho2,hc2,n2,hd2⟩:=id hq;cases ne with
 | true=>exact wpAny_richCompare_same_room (op:=.NotEq) ⟨_,ho,hc⟩ ⟨_,ho2,hc2⟩ F.slot_tuple_ne (call_meetsIn F.slot_tuple_ne ⟨_,ho,hc⟩ F.entry_tuple_ne (F.args_tuple_ne_2 _ _) (vG p q us vs o1 o2 hc hc2 n n2 hd hd2 hn) ⟨ho,ho2,he,⟨(fun x=>nomatch x),h⟩⟩) hu
 | false=>exact wpAny_richCompare_same_room (op:=.Eq) ⟨_,ho,hc⟩ ⟨_,ho2,hc2⟩ F.slot_tuple_eq (call_meetsIn F.slot_tuple_eq ⟨_,ho,hc⟩ F.entry_tuple_eq (F.args_tuple_eq_2 _ _) (vy p q us vs o1 o2 hc hc2 n n2 hd hd2 hn) ⟨ho,ho2,he,⟨(fun x=>nomatch x),h⟩⟩) hu
end
section
variable {X:Cx}{pins:List (Addr × Obj)}{σ:L2.St}{H:Hp}{s:Shared}{m:List Addr}{st:AH}
theorem sm (h:bW lvs k=some u):∃kv∈lvs,kv.2=u:=by unfold bW at h;obtain⟨kv,h1,h2⟩:=MP.mp h;exact⟨kv,OA h1,h2⟩
theorem jq {v:PV}(h:v.toD=some d):iP st v=some d:=by
 cases v with
 | ref n=>rw[PV.toD] at h;cases h
 | _=>exact h
theorem v7 {A:Around}(hu:A.units+64<cLine)(I:L2.Inv X pins σ H s)(rh:RH X.K m H st)(h1:iP st x=some d)(h3:iP st y=some d)(h2:SeqAt.shaped d=true)(rx:R X.K m H x x')(ry:R X.K m H y y')(ru:L2.RelV x' u)(rv:L2.RelV y' v):SeqAt.EqAt A s u v true:=by obtain⟨as,ra⟩:=Den.reads I d x' u (bC rh rx h1) ru;obtain⟨bs,rb⟩:=Den.reads I d y' v (bC rh ry h3) rv;have:=SeqAt.eqAt_reads d d A s u v as bs ra rb (N7 h2) (N7 h2) (SeqAt.room_of_shaped h2 hu);rw[SeqAt.eqv_refl d (N7 h2)] at this;exact this
theorem rY {A:Around}(hu:A.units+64<cLine)(I:L2.Inv X pins σ H s)(rh:RH X.K m H st)(h:ot x y)(rx:R X.K m H x x')(ry:R X.K m H y y')(ru:L2.RelV x' u)(rv:L2.RelV y' v):SeqAt.EqAt A s u v true:=by obtain⟨rfl,d,h1,h2⟩:=h;exact v7 hu I rh (jq h1) (jq h1) h2 rx ry ru rv
theorem xk:∀ {ka:List (Key × Value)},(∀p∈ka,∃y,valueAt kb p.1=some y/\SeqAt.EqAt A s p.2 y true)->W.KeqHits A s kb ka true
 | [],_=>.nil
 | (k,v)::r,h=>by obtain⟨y,e1,e2⟩:=h (k,v) MQ;exact .hit e1 e2 (xk fun p hp=>h p (MM _ hp))
theorem oJ {A:Around}{E:Value->Shared->Prop}(hu:A.units+80<cLine)(I:L2.Inv X pins σ H s)(rh:RH X.K m H st){n k:Nat}{u:Value}(h1:st[n]?=some (.dk kvs))(h2:st[k]?=some (.dk lvs))(hl:kvs.length=lvs.length)(hp:∀p∈kvs,∃u,bW lvs p.1=some u/\ot p.2 u)(rx:R X.K m H (.ref n) x')(ry:R X.K m H (.ref k) y')(ru:L2.RelV x' u)(rv:L2.RelV y' v):∃a b,u=.ref a/\v=.ref b/\∀(ne:Bool) (Q:Value->Shared->Prop),Q (.bool (!ne)) s->wpAny (model X.prog X.w) A (compareOp (opB ne) u v) Q E s:=by
 obtain⟨a,ys,rfl,_,g1,r1,r2⟩:=rh.dkat h1 rx;obtain⟨b,zs,rfl,_,g2,r3,r4⟩:=rh.dkat h2 ry;cases ru;cases rv;obtain⟨z1,d1,vs,rel1,dd1⟩:=ip I.hok g1;obtain⟨z2,d2,ws,rel2,dd2⟩:=ip I.hok g2;refine⟨a,b,rfl,rfl,fun ne Q q=>?_⟩;have e1:ys.length=kvs.length:=by simpa using NC List.length r1
 have e2:zs.length=lvs.length:=by simpa using NC List.length r3
 have l1:=rel1.length;have l2:=rel2.length;have lab:vs.length=ws.length:=by omega
 have hits:W.KeqHits A.in1 s ws vs true:=xk fun p hm=>by
  obtain⟨i,hi⟩:=O9.mp hm;have hy:i<ys.length:=by have:=(MC.mp hi).1;omega
  obtain⟨w',w1,w2,w3⟩:=KV.at rel1 (show ys[i]?=some ys[i] by simp[hy]);rw[hi] at w1;cases w1;obtain⟨q',q1,q2,q3⟩:=jg r1 r2 (show ys[i]?=some ys[i] by simp[hy]);obtain⟨u,u1,u2⟩:=hp q' (MT q1);obtain⟨u',t1,t2⟩:=(jZ r3 r4).1 _ u1;rw[q2,w2] at t1;obtain⟨y,y1,y2⟩:=RelO.some_of (v:=u') (o:=valueAt ws p.1) (by rw[<-t1];exact rel2.val p.1);exact⟨y,y1,rY (A:=A.in1) (by show A.units+1+64<cLine;omega) I rh u2 q3 t2 w3 y2⟩
 have fin:(vs.length == ws.length && true)=true:=by simp[lab]
 cases ne with
 | true=>exact W.keq_ne (knd:=aE X.prog X.w) d1 d2 dd1 dd2 (by omega) (fun _=>hits) (by rw[fin];exact q)
 | false=>exact W.keq_eq (knd:=aE X.prog X.w) d1 d2 dd1 dd2 (by omega) (fun _=>hits) (by rw[fin];exact q)
theorem oy {A:Around}(hu:A.units+64<cLine)(I:L2.Inv X pins σ H s)(rh:RH X.K m H st){x y:PV}(h1:x.toD=some d)(h2:y.toD=some d')(s1:SeqAt.shaped d=true)(s2:SeqAt.shaped d'=true)(rx:R X.K m H x x')(ry:R X.K m H y y')(ru:L2.RelV x' u)(rv:L2.RelV y' v):SeqAt.EqAt A s u v (PyData.eqv d d'):=by obtain⟨as,ra⟩:=Den.reads I d x' u (bC rh rx (jq h1)) ru;obtain⟨bs,rb⟩:=Den.reads I d' y' v (bC rh ry (jq h2)) rv;exact SeqAt.eqAt_reads d d' A s u v as bs ra rb (N7 s1) (N7 s2) (SeqAt.room_of_shaped s1 hu)
theorem tL:∀ {ka:List (Key × Value)},(∀p∈ka,∀y,valueAt kb p.1=some y->∃e,SeqAt.EqAt A s p.2 y e)->(∃p∈ka,∀y,valueAt kb p.1=some y->SeqAt.EqAt A s p.2 y false)->W.KeqHits A s kb ka false
 | [],_,h=>by obtain⟨p,hp,_⟩:=h;cases hp
 | (k,v)::r,h,hb=>by
  cases e:valueAt kb k with
  | none=>exact .miss e
  | some y =>
   by_cases z:SeqAt.EqAt A s v y false
   ·have:∃b,W.KeqHits A s kb r b:=hits_some fun p hp=>h p (MM _ hp);obtain⟨b,hb⟩:=this;exact .hit (e:=false) e z hb
   ·obtain⟨p,hp,hq⟩:=hb;rcases NB.mp hp with rfl|hp
    ·exact absurd (hq y e) z
    ·obtain⟨e',he⟩:=h (k,v) MQ y e;have:=W.KeqHits.hit (A:=A) (s:=s) e he (tL (fun p hp=>h p (MM _ hp)) ⟨p,hp,hq⟩);rw[P0] at this;exact this
where hits_some {kb:List (Key × Value)}:∀ {ka:List (Key × Value)},(∀p∈ka,∀y,valueAt kb p.1=some y->∃e,SeqAt.EqAt A s p.2 y e)->∃b,W.KeqHits A s kb ka b
 | [],_=>⟨_,.nil⟩
 | (k,v)::r,h=>by
  cases e:valueAt kb k with
  | none=>exact⟨_,.miss e⟩
  | some y =>obtain⟨b,hb⟩:=hits_some (ka:=r) fun p hp=>h p (MM _ hp);obtain⟨e',he⟩:=h (k,v) MQ y e;exact⟨_,.hit e he hb⟩
theorem ye {A:Around}{E:Value->Shared->Prop}(hu:A.units+80<cLine)(I:L2.Inv X pins σ H s)(rh:RH X.K m H st)(hd:pC st x y)(rx:R X.K m H x x')(ry:R X.K m H y y')(ru:L2.RelV x' u)(rv:L2.RelV y' v):∀(ne:Bool) (Q:Value->Shared->Prop),Q (.bool ne) s->wpAny (model X.prog X.w) A (compareOp (opB ne) u v) Q E s:=by
 obtain⟨n,k,kvs,lvs,rfl,rfl,h1,h2,dk,dl,hb⟩:=hd;obtain⟨a,ys,rfl,_,g1,r1,r2⟩:=rh.dkat h1 rx;obtain⟨b,zs,rfl,_,g2,r3,r4⟩:=rh.dkat h2 ry;cases ru;cases rv;obtain⟨z1,d1,vs,rel1,dd1⟩:=ip I.hok g1;obtain⟨z2,d2,ws,rel2,dd2⟩:=ip I.hok g2;have e1:ys.length=kvs.length:=by simpa using NC List.length r1
 have e2:zs.length=lvs.length:=by simpa using NC List.length r3
 have l1:=rel1.length;have l2:=rel2.length;have A1:A.in1.units+64<cLine:=by show A.units+1+64<cLine;omega
 have look:∀(i:Nat) (p:Key × Value),vs[i]?=some p->∃q',kvs[i]?=some q'/\q'.1=p.1/\∃v1,R X.K m H q'.2 v1/\L2.RelV v1 p.2:=fun i p hi=>by
  have hy:i<ys.length:=by have:=(MC.mp hi).1;omega
  obtain⟨w',w1,w2,w3⟩:=KV.at rel1 (show ys[i]?=some ys[i] by simp[hy]);rw[hi] at w1;cases w1;obtain⟨q',q1,q2,q3⟩:=jg r1 r2 (show ys[i]?=some ys[i] by simp[hy]);exact⟨q',q1,q2.trans w2,_,q3,w3⟩
 have right:∀(key:Key) (y:Value),valueAt ws key=some y->∃u u',bW lvs key=some u/\R X.K m H u u'/\L2.RelV u' y:=fun key y hy=>by
  have o:=rel2.val key;rw[hy] at o;cases ez:bW lvs key with
  | none =>have:=(jZ r3 r4).2 ez;rw[this] at o;cases o
  | some u =>obtain⟨u',t1,t2⟩:=(jZ r3 r4).1 _ ez;rw[t1] at o;exact⟨u,u',rfl,t2,o⟩
 have data:∀p∈vs,∀y,valueAt ws p.1=some y->∃e,SeqAt.EqAt A.in1 s p.2 y e:=fun p hm y hy=>by obtain⟨i,hi⟩:=O9.mp hm;obtain⟨q',q1,q2,v1,q3,q4⟩:=look i p hi;obtain⟨u,u',t1,t2,t3⟩:=right p.1 y hy;obtain⟨d,hd1,hd2⟩:=dk q' (MT q1);obtain⟨kv,km,ke⟩:=sm t1;obtain⟨d',hd3,hd4⟩:=dl kv km;rw[ke] at hd3;exact⟨_,oy A1 I rh hd1 hd3 hd2 hd4 q3 t2 q4 t3⟩
 have fin:∀(r:Bool),(vs.length=ws.length->W.KeqHits A.in1 s ws vs r)->(vs.length == ws.length && r)=false->∀(ne:Bool) (Q:Value->Shared->Prop),Q (.bool ne) s->wpAny (model X.prog X.w) A (compareOp (opB ne) (.ref a) (.ref b)) Q E s:=fun r hr hf ne Q q=>by
  cases ne with
  | true=>exact W.keq_ne (knd:=aE X.prog X.w) d1 d2 dd1 dd2 (by omega) hr (by rw[hf];exact q)
  | false=>exact W.keq_eq (knd:=aE X.prog X.w) d1 d2 dd1 dd2 (by omega) hr (by rw[hf];exact q)
 rcases hb with hb|⟨p,hp,hq⟩
 ·exact fin true (fun z=>absurd z (by omega)) (by rw[beq_eq_false_iff_ne.mpr (by omega)];rfl)
 ·refine fin false (fun _=>tL data ?_) (P0 _);obtain⟨i,hi⟩:=O9.mp hp;have il:i<vs.length:=by have:=(MC.mp hi).1;omega
  refine⟨vs[i],OV il,fun y hy=>?_⟩;obtain⟨q',q1,q2,v1,q3,q4⟩:=look i vs[i] (M4 il);rw[hi] at q1;cases q1;obtain⟨u,u',t1,t2,t3⟩:=right _ y hy;rw[<-q2] at t1;obtain⟨d,d',c1,c2,c3⟩:=hq u t1;obtain⟨e,hd1,hd2⟩:=dk p hp;obtain⟨kv,km,ke⟩:=sm t1;obtain⟨e',hd3,hd4⟩:=dl kv km;rw[ke] at hd3;rw[c1] at hd1;rw[c2] at hd3;cases hd1;cases hd3;rw[<-c3];exact oy A1 I rh c1 c2 hd2 hd4 q3 t2 q4 t3
theorem za {A:Around}(hu:A.units+80<cLine)(I:L2.Inv X pins σ H s)(rh:RH X.K m H st)(h:As st x y)(rx:R X.K m H x x')(ry:R X.K m H y y')(ru:L2.RelV x' u)(rv:L2.RelV y' v):EqW X.prog X.w A s u v:=by
 rcases h with h|⟨n,k,kvs,lvs,rfl,rfl,h1,h2,h3,h4⟩|⟨d,h1,h2,h3⟩
 ·exact fun E Q q=>rY (by omega) I rh h rx ry ru rv X.prog X.w E Q q
 ·intro E Q q;obtain⟨a,b,rfl,rfl,hc⟩:=oJ (A:=A) (E:=E) hu I rh h1 h2 h3 h4 rx ry ru rv;by_cases hab:a=b
  ·subst hab;exact SeqAt.EqAt.same (A:=A) (s:=s) (.ref a) X.prog X.w E Q q
  ·unfold eqBool;refine N1 ?_;refine wpAny_ite_split (fun hx=>absurd (by have:=eq_of_beq hx;injection this) hab) (fun _=>?_);exact MB (hc false _ (wpAny_truthy_bool q))
 ·exact fun E Q q=>v7 (by omega) I rh h1 h2 h3 rx ry ru rv X.prog X.w E Q q
theorem pM {A:Around}(hu:A.units+80<cLine)(I:L2.Inv X pins σ H s)(rh:RH X.K m H st):∀ {xs ys:List PV}{xs' ys':List V}{us vs:List Value},uk st xs ys->Rs X.K m H xs xs'->Rs X.K m H ys ys'->Vals xs' us->Vals ys' vs->us.length=vs.length/\∀j (h1:j<us.length) (h2:j<vs.length),EqW X.prog X.w A s us[j] vs[j]
 | [],[],xs',ys',us,vs,_,rx,ry,ru,rv=>by rw[Rs_nil] at rx ry;subst rx ry;cases ru;cases rv;exact⟨rfl,fun j h1 _=>absurd h1 (PN _)⟩
 | x::xs,y::ys,xs',ys',us,vs,h,rx,ry,ru,rv=>by
  rw[aK] at rx ry;obtain⟨a,r,rfl,rx1,rx⟩:=rx;obtain⟨b,q,rfl,ry1,ry⟩:=ry;cases ru with
  | cons ru1 ru =>
   cases rv with
   | cons rv1 rv =>
    obtain⟨i1,i2⟩:=pM hu I rh h.2 rx ry ru rv;refine⟨by simp[i1],fun j h1 h2=>?_⟩;cases j with
    | zero=>exact za hu I rh h.1 rx1 ry1 ru1 rv1
    | succ j=>exact i2 j (by simpa using h1) (by simpa using h2)
 | [],y::ys,_,_,_,_,h,_,_,_,_=>h.elim
 | x::xs,[],_,_,_,_,h,_,_,_,_=>h.elim
end
theorem Cb {X:Cx}(hu:X.A.units+100<cLine)(ne:Bool):OpR X (compareOp (opB ne)) (Cg X.K fun x y st Q=>(o8 st x y/\Q (.bl (!ne)) st)\/(pC st x y/\Q (.bl ne) st)):=by
 intro pins s σ H x' y' v u Q I rx ry h;obtain⟨m,st,x,y,rh,hx,hy,h⟩:=h;rcases h with⟨hs,w⟩|⟨hs,w⟩
 case inr=>exact ye (A:=X.A) (E:=X.xe) (by omega) I rh hs hx hy rx ry ne _ ⟨.bl ne,H,I,rfl,w.here rh (R_bl.mpr rfl)⟩
 have fin:EP X pins σ Q (.bool (!ne)) s:=⟨.bl (!ne),H,I,rfl,w.here rh (R_bl.mpr rfl)⟩;rcases hs with⟨xs,ys,rfl,rfl,hs⟩|⟨n,k,rfl,rfl,hs⟩
 ·rw[R_tup] at hx hy;obtain⟨a,xs',rfl,g1,r1⟩:=hx;obtain⟨b,ys',rfl,g2,r2⟩:=hy;cases rx;cases ry;obtain⟨us,ru,p1,_⟩:=I.tuple g1;obtain⟨vs,rv,p2,_⟩:=I.tuple g2;obtain⟨i1,i2⟩:=pM (A:=X.A.in1) (by show X.A.units+1+80<cLine;omega) I rh hs r1 r2 ru rv;exact AD (us:=us.toArray) (vs:=vs.toArray) p1 p2 (by simp[i1]) (by omega) (fun j h1 h2=>by simpa using i2 j (by simpa using h1) (by simpa using h2)) fin
 ·rcases hs with h|⟨n',k',kvs,lvs,e1,e2,h1,h2,h3,h4⟩|⟨d,h1,h2,h3⟩
  ·obtain⟨_,d,h1,_⟩:=h;rw[PV.toD] at h1;cases h1
  ·cases e1;cases e2;obtain⟨a,b,rfl,rfl,hc⟩:=oJ (A:=X.A) (E:=X.xe) (by omega) I rh h1 h2 h3 h4 hx hy rx ry;exact hc ne _ fin
  ·have q:=SeqAt.eqv_refl d (N7 h3);cases ne with
   | true=>exact Bp (by omega) pins s σ H _ _ v u Q I rx ry ⟨d,d,bC rh hx h1,bC rh hy h2,h3,h3,by rw[q];exact w.here rh (R_bl.mpr rfl)⟩
   | false=>exact AY (by omega) pins s σ H _ _ v u Q I rx ry ⟨d,d,bC rh hx h1,bC rh hy h2,h3,h3,by rw[q];exact w.here rh (R_bl.mpr rfl)⟩
end FW
namespace FW
open L2 HX
theorem Ext.addD {D:Addr}(x:Ext K m H m2 H2)(h0:H D=none):Ext K m H (m2++[D]) H2:=by
 refine⟨x.pre.trans (O1 _ _),fun a ha=>?_,x.fr,x.tup,x.rdf,x.tbs,x.tb,x.frz⟩;rcases M9.mp ha with z|z
 ·exact x.new a z
 ·rw[M1] at z;subst z;exact .inr h0
theorem RH.addDk {D:Addr}{kvs:List (Key × PV)}(h:RH K m H st)(Dm:D ∉ m)(hD:H D=some (.dK ys))(r1:ys.map (·.1)=kvs.map (·.1))(r2:Rs K m H (kvs.map (·.2)) (ys.map (·.2))):RH K (m++[D]) H (st++[.dk kvs]):=by
 have hp:m <+: m++[D]:=O1 _ _;refine⟨by simp[h.len],NP.mpr ⟨h.nd,NO.mpr ⟨by simp,P2⟩,fun a ha b hb z=>?_⟩,fun n c' a h1 h2=>?_,h.tb⟩
 ·rw[M1] at hb;subst hb;exact Dm (z ▸ ha)
 ·by_cases hn:n<st.length
  ·rw[MS hn] at h1;rw[MS (by rw[h.len];exact hn)] at h2;have hc:=h.at_ n c' a h1 h2;cases c' with
   | lst xs=>obtain⟨us,g1,g2⟩:=hc;exact⟨us,g1,g2.pre hp⟩
   | dk kvs=>obtain⟨us,g1,g2,g3⟩:=hc;exact⟨us,g1,g2,g3.pre hp⟩
   | fz kvs=>obtain⟨o,us,g1,g2,g3⟩:=hc;exact⟨o,us,g1,g2,g3.pre hp⟩
   | od kvs=>obtain⟨o,us,ws,g1,g2,g3,g4⟩:=hc;exact⟨o,us,ws,g1,g2,g3.pre hp,g4.pre hp⟩
  ·rw[MX (by omega)] at h1;rw[MX (by rw[h.len];omega)] at h2;have hl:=h.len;by_cases hz:n-st.length=0
   ·rw[hz] at h1;rw[show n-m.length=0 by omega] at h2;simp at h1 h2;subst h1 h2;exact⟨ys,hD,r1,r2.pre hp⟩
   ·rw[NJ (by simp;omega)] at h1;cases h1
section
variable {X:Cx}{c:Cfg}{Γ:Nat->FSp}
theorem El (hk:PE X ek tk)(hv:PE X ev tv):PE X (.Dict [some ek] [ev] pos) (fun σ H Q=>∀p,H p=none->tk σ (upd H p (.dK [])) fun x H1=>∃z,x=.str z/\tv σ H1 fun y H2=>H2 p=some (.dK [])/\Q (.ref p) (upd H2 p (.dK [(.inr z,y)]))):=by
 intro pins s σ H Q I q;have hn:=I.hok.fresh (MJ s.heap.objs.size);have I1:=I.laid (a:=s.heap.objs.size) (o:=.dK []) (h':=s.heap.push { cls:=.type "dict",data:=.dict #[] }) (t':=s.toks) (fun _ _ q=>MD _ q) (MJ _)
  ⟨NV _,beq_eq_false_iff_ne.mpr (Ne.symm (M8 (vO I))),[],.nil,Heap.DictOf.new _⟩
 refine wpAny_Dict_walk (knd:=aE X.prog X.w) rfl rfl (by simp) (by simp) ?_;refine pairTrees_cons_walk (thn (hk pins _ σ _ _ I1 (q _ hn)) fun u s1 ⟨x,H1,I2,rx,z,ex,w⟩=>?_);subst ex;refine thn (hv pins _ σ _ _ I2 w) fun u2 s2 ⟨y,H2,I3,ry,e,q2⟩=>?_;refine pairTrees_nil_walk ?_;obtain⟨zz,hd,vs0,r0,dd⟩:=I3.hok _ _ e;cases r0;refine⟨[(.inr z,u2)],⟨by obtain⟨t,rfl⟩:=rx;exact kF _ _ z t,rfl,True.intro⟩,dd,fun h' dd' hs=>⟨.ref s.heap.objs.size,_,?_,rfl,q2⟩⟩;have he:∃q,h'.get? s.heap.objs.size=some q:=let ⟨q,_,_,hq,_⟩:=dd';⟨q,hq⟩;exact I3.write (x:=s.heap.objs.size) (e:=s.heap.objs.size) (o:=.dK [(.inr z,y)]) (h':=h') (t':=s2.toks+1) (by rw[e];exact True.intro) (.inl rfl) (fun b u hb hu=>(hs.2 b hb).trans hu) he
  ⟨by simp[sizeLine],hd,_,.cons ⟨rfl,ry⟩ .nil,dd'⟩
theorem Dj (C:COk X c Γ)(hk:PE X ek (TEx X.K (wpE Γ k)))(hv:PE X ev (TEx X.K (wpE Γ v))):PE X (.Dict [some ek] [ev] pos) (TEx X.K (wpE Γ (.dct2 k v))):=by
 intro pins s σ H Q I h;refine El hk hv pins s σ H Q I fun p hp=>?_;obtain⟨m,ρ,st,rf,rh,w⟩:=h;have x0:=Ext.newT (o:=.dK []) rh hp;refine⟨m,ρ,st,rf.mono x0,rh.newT hp,aa C.mono k (fun x st1 z m1 H1 x1 e1 r1 r2=>?_) w⟩;obtain⟨zz,rfl,z⟩:=z;rw[R_str] at r2;subst r2;refine⟨zz,rfl,m1,ρ,st1,(rf.mono x0).mono e1,r1,aa C.mono v (fun y st2 z m2 H2 y2 e2 r3 r4=>?_) z⟩;have pm:p ∉ m:=rh.fresh hp;have ee:=e1.trans e2;have hP:H2 p=some (.dK []):=ee.fr p _ pm aw fun _ z=>nomatch z;have pm2:p ∉ m2:=fun q=>by
  rcases ee.new p q with q|q
  ·exact pm q
  ·rw[aw] at q;cases q
 refine⟨hP,?_⟩;have e3:Ext X.K m H m2 H2:=x0.trans ee;have e4:Ext X.K m H m2 (upd H2 p (.dK [(.inr zz,y2)])):=e3.awayD hp hP;have r5:=(r3.awayD (zs:=[(.inr zz,y2)]) pm2 hP).addDk (kvs:=[(.inr zz,y)]) pm2 aw rfl (by rw[MF,MF,Rs_cons',NM,NM,Rs_nil];exact⟨r4.mono0 (dQ hP) (eg hP),rfl⟩);exact z _ _ _ (e4.addD hp) r5 (R.last r3.len)
end
end FW
namespace FW
open L2 HX
section
variable {prog:Program}{w:World}{A:Around}{E:Value->Shared->Prop}{s:Shared}
end
section
variable {X:Cx}{c:Cfg}{Γ:Nat->FSp}
theorem ze (hu:X.A.units+64<cLine):OpR X (compareOp .Eq) (fun x y H Q=>∃a ys b,x=.ref a/\SqL X.K H a ys/\y=.ref b/\H b=some (.lst [])/\Q (.bl ys.isEmpty) H):=by
 rintro pins s σ H x y v u Q I rx ry ⟨a,ys,b,rfl,g,rfl,g2,q⟩;cases rx;cases ry;obtain⟨its,ri,pl,_⟩:=I.list g;obtain⟨its2,ri2,pl2,_⟩:=I.list (SqL.of g2);cases ri2;have l1:=ri.length;cases ys with
 | nil =>cases ri;exact SeqAt.eq_listAt (e:=fun _=>true) pl.isList pl2.isList rfl (by omega) (fun j h1 _=>absurd h1 (PN _)) ⟨.bl true,H,I,rfl,q⟩
 | cons z zs =>refine SeqAt.eq_list_lengthsAt pl.isList pl2.isList ?_ (by omega) ⟨.bl false,H,I,rfl,q⟩;rw[NS] at l1;simp;intro e;rw[e] at l1;simp at l1
end
end FW
namespace FW
open L2 HX HT
section
variable {X:Cx}
end
theorem Laid.ext (h:Laid H0 L H)(r:RH K m H0 st):Ext K m H0 m H/\RH K m H st:=by
 induction h with
 | nil=>exact⟨Ext.refl _ _ _,r⟩
 | snoc _ hn ih=>exact⟨ih.1.trans (Ext.newT ih.2 hn),ih.2.newT hn⟩
section
variable {X:Cx}{c:Cfg}{Γ:Nat->FSp}
end
end FW
namespace FW
open L2 HX
section
variable {Γ:Nat->FSp}
theorem l8 (G:aJ Γ){st:AH}{k k':Option PV->AH->Prop}(hk:∀o st,k o st->k' o st)(q:eN Γ elt tg ifs ρ x st k):eN Γ elt tg ifs ρ x st k' :=
 aG G tg (fun ρ' st3 w=>bZ G ifs (fun c st4 w=>by
  cases c with
  | true=>rw[MN rfl] at w |-;exact aa G elt (fun v st5 w=>hk _ _ w) w
  | false=>rw[ML MA] at w |-;exact hk _ _ w) w) q
theorem RH.addD {D:Addr}(h:RH K m H st)(Dm:D ∉ m)(hD:H D=some (.lst ys))(r:Rs K m H vs ys):RH K (m++[D]) H (st++[.lst vs]):=by
 have hp:m <+: m++[D]:=O1 _ _;refine⟨by simp[h.len],NP.mpr ⟨h.nd,NO.mpr ⟨by simp,P2⟩,fun a ha b hb z=>?_⟩,fun n c' a h1 h2=>?_,h.tb⟩
 ·rw[M1] at hb;subst hb;exact Dm (z ▸ ha)
 ·by_cases hn:n<st.length
  ·rw[MS hn] at h1;rw[MS (by rw[h.len];exact hn)] at h2;have hc:=h.at_ n c' a h1 h2;cases c' with
   | lst xs=>obtain⟨us,g1,g2⟩:=hc;exact⟨us,g1,g2.pre hp⟩
   | dk kvs=>obtain⟨us,g1,g2,g3⟩:=hc;exact⟨us,g1,g2,g3.pre hp⟩
   | fz kvs=>obtain⟨o,us,g1,g2,g3⟩:=hc;exact⟨o,us,g1,g2,g3.pre hp⟩
   | od kvs=>obtain⟨o,us,ws,g1,g2,g3,g4⟩:=hc;exact⟨o,us,ws,g1,g2,g3.pre hp,g4.pre hp⟩
  ·rw[MX (by omega)] at h1;rw[MX (by rw[h.len];omega)] at h2;have hl:=h.len;by_cases hz:n-st.length=0
   ·rw[hz] at h1;rw[show n-m.length=0 by omega] at h2;simp at h1 h2;subst h1 h2;exact⟨ys,hD,r.pre hp⟩
   ·rw[NJ (by simp;omega)] at h1;cases h1
theorem mJ (C:COk X c Γ){nt:List Str}(h:c.block nt caps sc=true) :
  CScope X sc/\(∀i∈caps,i<X.N.length)/\(∀x∈caps.filterMap (X.N[·]?),sc.names.lookup x=some .free)/\(∀x∈caps.filterMap (X.N[·]?),X.env.kindOf x=some .cell\/X.env.kindOf x=some .free)/\(nt++caps.filterMap (X.N[·]?)).Nodup:=by
 unfold Cfg.block at h;simp only[Bool.and_eq_true,List.all_eq_true,beq_iff_eq,decide_eq_true_eq,Bool.or_eq_true,Bool.not_eq_true',beq_eq_false_iff_ne] at h;obtain⟨⟨⟨⟨⟨⟨h1,h2⟩,h3⟩,h4⟩,h5⟩,h6⟩,h7⟩:=h;rw[C.N];refine⟨⟨h1,fun y hy=>h2 y hy,fun y hy e=>?_,fun y hy e=>?_⟩,h5,fun x hx=>(h6 x hx).1,fun x hx=>C.cel x (jn (h6 x hx).2),h7⟩
 ·rcases h3 y hy with z|z
  ·exact absurd e z
  ·exact z
 ·rcases h4 y hy with z|z
  ·exact absurd e z
  ·exact C.cel _ (jn z)
theorem Aq (C:COk X c Γ){nt:List Str}(h:c.block nt caps sc=true) :
  COk (cxC X (nt++caps.filterMap (X.N[·]?)) s2 H2 fp sc A) (c.inner nt caps sc) Γ:=by
 obtain⟨S,k1,k2,k3,k4⟩:=mJ C h;have nocell:∀x,sc.names.lookup x≠some .cell:=fun x e=>S.nocell _ (NK e) rfl;refine⟨C.calm,PassesOwn.never,?_,?_,fun x hx=>?_,fun x hx=>?_,fun x hx=>lookup_relabel_local hx,fun x hx=>jt hx,?_,fun x hx=>?_,C.room,C.fn,C.blt,C.gl,C.mono,fun h=>Bool.noConfusion (show false=true from h),fun k h=>by cases h⟩
 ·show nt++caps.filterMap (X.N[·]?)=nt++caps.filterMap (c.N[·]?);rw[C.N]
 ·show (nt++caps.filterMap (c.N[·]?)).Nodup;rw[<-C.N];exact k4
 ·rcases hx with hx|hx|hx
  ·exact .inl (lookup_relabel_local hx)
  ·exact absurd hx (nocell x)
  ·rcases dD (env:=X.env) hx with z|z
   ·exact .inr (.inl z)
   ·exact .inr (.inr z)
 ·rcases hx with hx|hx
  ·exact⟨.inl (lookup_relabel_local hx),.inr (lookup_relabel_local hx)⟩
  ·exact absurd hx (nocell x)
 ·show Env.blockKind (compEnvC sc (gq X.env sc.names []) A X.env)=_;unfold Env.blockKind;show (if sc.kind.isAnnotationScope=true then _ else sc.kind)=_;rw[S.kind];rfl
 ·rcases hx with hx|hx
  ·exact absurd hx (nocell x)
  ·exact dD hx
theorem rO {X:Cx}{P:V->Hp->Prop}(r1:RH X.K m1 H1 st1)(r2:R X.K m1 H1 v x1)(k:unW .isE v st1 Q)(h:∀ {b:Bool} p,H1 p=none->Q (.bl b) st1->P (.bl b) (upd H1 p (.lst []))) :
  Jl (sY) σ H1 (fun y H2=>∃a ys b,x1=.ref a/\SqL X.K H2 a ys/\y=.ref b/\H2 b=some (.lst [])/\P (.bl ys.isEmpty) H2):=by
 obtain⟨xs,h1,q⟩:=k;obtain⟨a,ys,rfl,g,ry⟩:=dM r1 r2 h1;refine⟨by show 0<=sizeLine;exact NV _,fun p hp=>⟨a,ys,p,rfl,?_,rfl,aw,?_⟩⟩
 ·rcases g with (g|⟨w,g⟩)|g
  ·exact .inl (.inl (by rw[af (av g hp)];exact g))
  ·exact .inl (.inr ⟨w,by rw[af (av g hp)];exact g⟩)
  ·exact .inr g
 ·have e:ys.isEmpty=xs.isEmpty:=by have:=ry.len;cases xs <;> cases ys <;> first|rfl|(simp at this)
  rw[e];exact h p hp q
mutual
theorem aU:∀(e:E) {X:Cx}{c:Cfg} (C:COk X c Γ) (x:Expr),aS c e x=true->PE X x (TEx X.K (wpE Γ e))
 | .var i,X,c,C,x,h=>by
  replace h:=ai h;obtain⟨y,p,rfl,h⟩:=h
  ·exact zU C h
 | .int i,X,c,C,x,h=>by
  replace h:=yd h;obtain⟨j,k,p,rfl,h⟩:=h
  ·rw[NZ] at h;subst h;rintro pins s σ H Q I ⟨m,ρ,st,rf,rh,w⟩
   skip
   exact IA pins s σ H Q I (w.here rh (R_int.mpr rfl))
 | .bl i,X,c,C,x,h=>by
  replace h:=Aj h;obtain⟨j,k,p,rfl,h⟩:=h
  ·rw[NZ] at h;subst h;rintro pins s σ H Q I ⟨m,ρ,st,rf,rh,w⟩
   skip
   exact J1 pins s σ H Q I (w.here rh (R_bl.mpr rfl))
 | .non,X,c,C,x,h=>by
  replace h:=yr h;obtain⟨k,p,rfl⟩:=h
  ·rintro pins s σ H Q I ⟨m,ρ,st,rf,rh,w⟩
   skip
   exact Hh pins s σ H Q I (w.here rh (R_non.mpr rfl))
 | .str i,X,c,C,x,h=>by
  replace h:=jS h;obtain⟨j,k,p,rfl,h⟩:=h
  ·rw[NZ] at h;subst h;rintro pins s σ H Q I ⟨m,ρ,st,rf,rh,w⟩
   skip
   exact uR pins s σ H Q I (w.here rh (R_str.mpr rfl))
 | .gv y v,X,c,C,x,h=>by
  replace h:=ai h;obtain⟨z,p,rfl,h⟩:=h
  ·simp only[Bool.and_eq_true,beq_iff_eq] at h;obtain⟨⟨h1,h2⟩,h3⟩:=h;subst h1;obtain⟨g1,g2,_⟩:=C.glbx h2;replace h3:=bg h3;obtain⟨w,hw,h3⟩:=h3
   ·have:=PV.same_eq h3;subst this;obtain⟨u,z,e1,e2,e3⟩:=C.gl _ _ hw;rintro pins s σ H Q I ⟨m,ρ,st,rf,rh,w⟩
    skip
    exact wM g1 e1 e2 g2 pins s σ H Q I (w.here rh (e3 m H))
 | .tup es,X,c,C,x,h=>by
  replace h:=bw h;obtain⟨xs,k,p,rfl,h⟩:=h
  ·rintro pins s σ H Q I ⟨m,ρ,st,rf,rh,w⟩
   skip
   refine BC (fK es C _ h) pins s σ H Q I ⟨m,ρ,st,rf,rh,au C.mono es (fun vs st1 k m1 H1 xs1 e1 r1 r2=>⟨by rw[<-r2.len];exact iT k.1,fun p hp=>?_⟩) w⟩;exact(k.2.ext e1).newT r1 r2 hp
 | .lst es,X,c,C,x,h=>by
  replace h:=dP h;obtain⟨xs,p,rfl,h⟩:=h
  ·rintro pins s σ H Q I ⟨m,ρ,st,rf,rh,w⟩
   skip
   refine mh (fK es C _ h) pins s σ H Q I ⟨m,ρ,st,rf,rh,au C.mono es (fun vs st1 k m1 H1 xs1 e1 r1 r2=>⟨by rw[<-r2.len];exact iT k.1,fun p hp=>?_⟩) w⟩;exact(k.2.ext e1).newL r1 r2 hp
 | .bad,X,c,C,x,h=>by rintro pins s σ H Q I ⟨m,ρ,st,rf,rh,w⟩;exact False.elim w
 | .dct0,X,c,C,x,h=>by
  replace h:=mq h;obtain⟨ks,vs,p,rfl,h⟩:=h;replace h:=He h;obtain⟨rfl,rfl⟩:=h
  ·rintro pins s σ H Q I ⟨m,ρ,st,rf,rh,w⟩
   skip
   refine CB pins s σ H Q I fun p hp=>?_;exact w _ _ _ (Ext.new1 rh hp) (rh.new1 hp ⟨[],aw,rfl,Rs_nil.mpr rfl⟩) (R.last rh.len)
 | .bin op a b,X,c,C,x,h=>by
  replace h:=oO h;obtain⟨l,o,r,p,rfl,h⟩:=h
  ·simp only[Bool.and_eq_true,beq_iff_eq] at h;obtain⟨⟨h1,h2⟩,h3⟩:=h;subst h1;rintro pins s σ H Q I ⟨m,ρ,st,rf,rh,w⟩
   skip
   exact ED (CF _) (aU a C _ h2) (aU b C _ h3) pins s σ H Q I ⟨m,ρ,st,rf,rh,aa C.mono a (fun v st1 k m1 H1 x1 e1 r1 r2=>⟨m1,ρ,st1,rf.mono e1,r1,
    aa C.mono b (fun u st2 k2 m2 H2 y2 e2 r3 r4=>⟨m2,st2,v,u,r3,r2.mono e2,r4,oM (fun _ _ q=>q.ext (e1.trans e2)) k2⟩) k⟩) w⟩
 | .not a,X,c,C,x,h=>by
  replace h:=oN h;obtain⟨y,p,rfl,h⟩:=h
  ·rintro pins s σ H Q I ⟨m,ρ,st,rf,rh,w⟩
   skip
   refine GR (aU a C _ h) pins s σ H Q I ⟨m,ρ,st,rf,rh,aa C.mono a (fun v st1 k m1 H1 x1 e1 r1 r2=>?_) w⟩;obtain⟨i,rfl,k⟩:=k;rw[R_bl] at r2;subst r2;exact⟨i,rfl,(k.ext e1).here r1 (R_bl.mpr rfl)⟩
 | .cmp op a b,X,c,C,x,h=>by
  replace h:=dN h;obtain⟨l,o,r,p,rfl,h⟩:=h
  ·simp only[Bool.and_eq_true,beq_iff_eq,Bool.not_eq_true',beq_eq_false_iff_ne] at h;obtain⟨⟨⟨h1,n1⟩,h2⟩,h3⟩:=h;subst h1;rintro pins s σ H Q I ⟨m,ρ,st,rf,rh,w⟩
   skip
   exact qE (zM C.room.units _) (aU a C _ h2) (aU b C _ h3) n1 pins s σ H Q I ⟨m,ρ,st,rf,rh,aa C.mono a (fun v st1 k m1 H1 x1 e1 r1 r2=>⟨m1,ρ,st1,rf.mono e1,r1,
    aa C.mono b (fun u st2 k2 m2 H2 y2 e2 r3 r4=>⟨m2,st2,v,u,r3,r2.mono e2,r4,gL (fun _ _ q=>q.ext (e1.trans e2)) k2⟩) k⟩) w⟩
 | .bop true es,X,c,C,x,h=>by
  replace h:=gH h;obtain⟨o,xs,p,rfl,h⟩:=h
  ·simp only[Bool.and_eq_true,beq_iff_eq,Bool.not_eq_true'] at h;obtain⟨⟨h1,h2⟩,h3⟩:=h;subst h1;rintro pins s σ H Q I ⟨m,ρ,st,rf,rh,w⟩
   skip
   exact Gp es C _ _ h2 h3 pins s σ H Q I ⟨m,ρ,st,rf,rh,w⟩
 | .bop false es,X,c,C,x,h=>by
  replace h:=gH h;obtain⟨o,xs,p,rfl,h⟩:=h
  ·simp only[Bool.and_eq_true,beq_iff_eq,Bool.not_eq_true'] at h;obtain⟨⟨h1,h2⟩,h3⟩:=h;subst h1;rintro pins s σ H Q I ⟨m,ρ,st,rf,rh,w⟩
   skip
   exact EG es C _ _ h2 h3 pins s σ H Q I ⟨m,ρ,st,rf,rh,w⟩
 | .ite t a b,X,c,C,x,h=>by
  replace h:=oq h;obtain⟨y,l,r,p,rfl,h⟩:=h
  ·simp only[Bool.and_eq_true] at h;obtain⟨⟨h1,h2⟩,h3⟩:=h;rintro pins s σ H Q I ⟨m,ρ,st,rf,rh,w⟩
   skip
   refine t4 (lY t C _ h1) (aU a C _ h2) (aU b C _ h3) pins s σ H Q I ⟨m,ρ,st,rf,rh,aM C.mono t (fun k st1 z m1 H1 e1 r1=>?_) w⟩;cases k with
   | true=>rw[MN rfl] at z |-;exact⟨m1,ρ,st1,rf.mono e1,r1,aa C.mono a (fun _ _ q=>q.ext e1) z⟩
   | false=>rw[ML MA] at z |-;exact⟨m1,ρ,st1,rf.mono e1,r1,aa C.mono b (fun _ _ q=>q.ext e1) z⟩
 | .ix a b,X,c,C,x,h=>by
  replace h:=dO h;obtain⟨l,r,p,rfl,h⟩:=h
  ·simp only[Bool.and_eq_true] at h;obtain⟨⟨h1,h2⟩,h3⟩:=h;rintro pins s σ H Q I ⟨m,ρ,st,rf,rh,w⟩
   skip
   exact Aa (ET C.room.units) (aU a C _ h2) (aU b C _ h3) h1 pins s σ H Q I ⟨m,ρ,st,rf,rh,aa C.mono a (fun v st1 k m1 H1 x1 e1 r1 r2=>⟨m1,ρ,st1,rf.mono e1,r1,
    aa C.mono b (fun u st2 k2 m2 H2 y2 e2 r3 r4=>⟨m2,st2,v,u,r3,r2.mono e2,r4,i3 (fun _ _ q=>q.ext (e1.trans e2)) k2⟩) k⟩) w⟩
 | .sl a lo hi,X,c,C,x,h=>by
  replace h:=dO h;obtain⟨l,r,p,rfl,h⟩:=h;replace h:=t_ h;obtain⟨u,v,p2,rfl,h⟩:=h
  ·simp only[Bool.and_eq_true] at h;obtain⟨⟨h1,h2⟩,h3⟩:=h;rintro pins s σ H Q I ⟨m,ρ,st,rf,rh,w⟩
   skip
   exact B2 Jy (aU a C _ h1) (JG lo C _ h2) (JG hi C _ h3) pins s σ H Q I ⟨m,ρ,st,rf,rh,aa C.mono a (fun v st1 k m1 H1 x1 e1 r1 r2=>⟨m1,ρ,st1,rf.mono e1,r1,
    jk C.mono lo (fun l st2 k2 m2 H2 e2 r3=>⟨m2,ρ,st2,(rf.mono e1).mono e2,r3,jk C.mono hi (fun u st3 k3 m3 H3 e3 r4=>⟨m3,st3,v,r4,(r2.mono e2).mono e3,rX (fun _ _ q=>q.ext ((e1.trans e2).trans e3)) k3⟩) k2⟩) k⟩) w⟩
 | .call f es,X,c,C,x,h=>by
  replace h:=aP h;obtain⟨g,xs,p,rfl,h⟩:=h;replace h:=ai h;obtain⟨y,p2,rfl,h⟩:=h
  ·simp only[Bool.and_eq_true] at h;obtain⟨⟨h1,h2⟩,h3⟩:=h;rintro pins s σ H Q I ⟨m,ρ,st,rf,rh,w⟩
   skip
   exact sJ C h1 h2 h3 (fK es C _ h3) pins s σ H Q I ⟨m,ρ,st,rf,rh,w⟩
 | .blt b es,X,c,C,x,h=>by
  replace h:=aP h;obtain⟨g,xs,p,rfl,h⟩:=h;replace h:=ai h;obtain⟨y,p2,rfl,h⟩:=h
  ·simp only[Bool.and_eq_true,beq_iff_eq,Bool.not_eq_true'] at h;obtain⟨⟨⟨⟨h1,h2⟩,h3⟩,h4⟩,h5⟩:=h;rintro pins s σ H Q I ⟨m,ρ,st,rf,rh,w⟩
   skip
   exact tY C h1 h2 h3 h4 (fK es C _ h5) pins s σ H Q I ⟨m,ρ,st,rf,rh,w⟩
 | .met mm o es,X,c,C,x,h=>by
  replace h:=aP h;obtain⟨g,xs,p,rfl,h⟩:=h;replace h:=cP h;obtain⟨y,n,p2,rfl,h⟩:=h
  ·simp only[Bool.and_eq_true,beq_iff_eq,decide_eq_true_eq] at h;obtain⟨⟨⟨⟨⟨⟨h1,h2⟩,h3⟩,h4⟩,h0⟩,h5⟩,h6⟩:=h;exact Bl C h1 (by rw[h2];simp) h3 h4 h0 (aU o C _ h5) (fK es C _ h6) h6
 | .comp elt tg it ifs nt caps,X,c,C,x,h=>by
  replace h:=jo h;obtain⟨ex,gs,sc,pos,rfl,h⟩:=h;replace h:=bL h;obtain⟨g,rfl,h⟩:=h;obtain⟨tx,ix,fx,ia⟩:=g;dsimp only at h
  ·simp only[Bool.and_eq_true,beq_iff_eq] at h;obtain⟨⟨⟨⟨⟨⟨⟨⟨h1,h0⟩,h2⟩,h3⟩,h4⟩,h5⟩,h6⟩,h7⟩,h8⟩:=h;subst h1;obtain⟨S,k1,k2,k3,k4⟩:=mJ C h4;have hC:∀s2 H2 fp A,COk (cxC X (nt++caps.filterMap (X.N[·]?)) s2 H2 fp sc A) (c.inner nt caps sc) Γ:=fun s2 H2 fp A=>Aq C h4;rintro pins s σ H Q I ⟨m,ρ,st,rf,rh,w⟩
   skip
   rw[eval_ListComp];refine pA (elt:=elt) (tg:=tg) (ifs:=ifs) (nt:=nt) (caps:=caps) (use:=none) (Fin:=fun D H'=>Q (.ref D) H') (wi:=TIx X.K (iJ Γ it)) C.mono C.calm S rfl k1 k2 k3 h2 h3 (wH it C ix h0 h5) (fun s2 H2 fp A=>kA tg (hC s2 H2 fp A) _ h6) (fun s2 H2 fp A=>vc ifs (hC s2 H2 fp A) _ h7) (fun s2 H2 fp A=>aU elt (hC s2 H2 fp A) _ h8) I ?_ ?_
   ·refine⟨m,ρ,st,rf,rh,cX C.mono it (fun xs chk st1 z m1 H1 J e1 r1 W=>⟨m1,ρ,st1,xs,chk,rf.mono e1,r1,W,z.1,?_⟩) w⟩;refine fT (body:=eN Γ elt tg ifs (nt.map (fun _=>none)++caps.map fun i=>(ρ[i]?).join)) (fun _ _ _ _ hk q=>l8 C.mono hk q) (fun vs st2 k m2 H2 D ys e2 r2 Dm hD0 hD ry=>?_) z.2;have hD1:H D=none:=by
     cases q:H D with
     | none=>rfl
     | some o =>
      by_cases hm:D∈m
      ·exact absurd ((e1.trans e2).pre.subset hm) Dm
      ·exact absurd hD0 (e1.ne hm q)
    exact k _ _ _ ((e1.trans e2).addD hD1) (r2.addD Dm hD ry) (R.last r2.len)
   ·intro C' D H' s' m' I' ns fp F;refine⟨m',ns,fun h' hs'=>?_⟩;exact⟨.ref D,H',I'.turned (t':=s'.toks) (fun b o hb e=>hs'.extBut b o hb e) fp.1 fp.2.1 fp.2.2.2.1 fp.2.2.2.2.1 fp.2.2.2.2.2,rfl,F⟩
 | .un .isE a,X,c,C,x,h=>by replace h:=dN h;obtain⟨l,o,r,p,rfl,h⟩:=h;replace h:=dP h;obtain⟨xs,p2,rfl,h⟩:=h;simp only[Bool.and_eq_true,beq_iff_eq,List.isEmpty_iff] at h;obtain⟨⟨h1,h2⟩,h3⟩:=h;subst h1 h2;rintro pins s σ H Q I ⟨m,ρ,st,rf,rh,w⟩;exact qE (ze C.room.units) (aU a C _ h3) (mh eX) rfl pins s σ H Q I ⟨m,ρ,st,rf,rh,aa C.mono a (fun v st1 k m1 H1 x1 e1 r1 r2=>rO r1 r2 k fun p hp q=>q m1 _ _ (e1.trans (Ext.newT r1 hp)) (r1.newT hp) (R_bl.mpr rfl)) w⟩
 | .dct2 k v,X,c,C,x,h=>by replace h:=mq h;obtain⟨ks,vs,p,rfl,h⟩:=h;replace h:=bL h;obtain⟨ok,rfl,h⟩:=h;replace h:=bg h;obtain⟨kx,rfl,h⟩:=h;replace h:=bL h;obtain⟨vx,rfl,h⟩:=h;simp only[Bool.and_eq_true] at h;exact Dj C (aU k C _ h.1) (aU v C _ h.2)
 | .eqd ne a b,X,c,C,x,h=>by
  replace h:=dN h;obtain⟨l,o,r,p,rfl,h⟩:=h;simp only[Bool.and_eq_true,beq_iff_eq,Bool.not_eq_true',beq_eq_false_iff_ne] at h;obtain⟨⟨⟨h1,n1⟩,h2⟩,h3⟩:=h;subst h1;rintro pins s σ H Q I ⟨m,ρ,st,rf,rh,w⟩;exact qE (Cb (by have:=C.room.un;omega) ne) (aU a C _ h2) (aU b C _ h3) n1 pins s σ H Q I ⟨m,ρ,st,rf,rh,aa C.mono a (fun v st1 k m1 H1 x1 e1 r1 r2=>⟨m1,ρ,st1,rf.mono e1,r1,
   aa C.mono b (fun u st2 k2 m2 H2 y2 e2 r3 r4=>⟨m2,st2,v,u,r3,r2.mono e2,r4,k2.imp (fun k2=>⟨k2.1,k2.2.ext (e1.trans e2)⟩) fun k2=>⟨k2.1,k2.2.ext (e1.trans e2)⟩⟩) k⟩) w⟩
 | .tmp a,X,c,C,x,h=>by
  have h:aS c a x=true:=h;rintro pins s σ H Q I ⟨m,ρ,st,rf,rh,w⟩
  skip
  refine aU a C x h pins s σ H Q I ⟨m,ρ,st,rf,rh,aa C.mono a (fun v st1 k m1 H1 x1 e1 r1 r2=>?_) w⟩;obtain⟨st2,q,e2,r3,r4⟩:=lr rh e1 r1 r2 k;exact q m H1 x1 e2 r3 r4
 | .clr a,X,c,C,x,h=>by replace h:=aP h;obtain⟨g,xs,p,rfl,h⟩:=h;replace h:=cP h;obtain⟨y,n,p2,rfl,h⟩:=h;simp only[Bool.and_eq_true,beq_iff_eq,List.isEmpty_iff] at h;obtain⟨⟨⟨⟨h1,h2⟩,h3⟩,h4⟩,h5⟩:=h;subst h3;exact GM C h1 (by rw[h2];exact beq_self_eq_true _) h4 (aU a C _ h5)
 | .pcg i g n es,X,c,C,x,h=>by replace h:=aP h;obtain⟨hd,xs,p,rfl,h⟩:=h;replace h:=ai h;obtain⟨y,p2,rfl,h⟩:=h;replace h:=aq h;obtain⟨l,r,rfl,h⟩:=h;simp only[Bool.and_eq_true,beq_iff_eq,decide_eq_true_eq] at h;obtain⟨⟨⟨⟨⟨⟨h1,h2⟩,h3⟩,h4⟩,h5⟩,h6⟩,h7⟩:=h;exact Ak C h1 h2 h3 h4 h5 h6 (fK es C _ h7)
 | .pcl i es,X,c,C,x,h=>by have hh:=(MG _ _).mp h;have hpc:=hh.1;replace h:=hh.2;replace h:=aP h;obtain⟨hd,xs,p,rfl,h⟩:=h;replace h:=ai h;obtain⟨y,p2,rfl,h⟩:=h;replace h:=aq h;obtain⟨l,r,rfl,h⟩:=h;simp only[Bool.and_eq_true,beq_iff_eq] at h;obtain⟨⟨⟨⟨h1,h2⟩,h5⟩,h6⟩,h7⟩:=h;exact Hy C hpc h1 h2 h5 h6 (fK es C _ h7)
 | .plm f g a b be gn cap,X,c,C,x,h=>by replace h:=bg h;obtain⟨k,hk,h⟩:=h;replace h:=bg h;obtain⟨t,hk2,h⟩:=h;replace h:=aP h;obtain⟨hd,xs,p,rfl,h⟩:=h;replace h:=ai h;obtain⟨y,p2,rfl,h⟩:=h;replace h:=aq h;obtain⟨x1,r,rfl,h⟩:=h;replace h:=Ef h;obtain⟨x2,x3,x4,rfl,h⟩:=h;replace h:=xH h;obtain⟨as,bd,sc,pl,rfl,h⟩:=h;replace h:=rS h;obtain⟨pa,pb,rfl,h⟩:=h;replace h:=ai h;obtain⟨z,pz,rfl,h⟩:=h;simp only[Bool.and_eq_true,beq_iff_eq] at h;obtain⟨⟨⟨⟨⟨⟨⟨⟨⟨⟨⟨⟨⟨h1,h2⟩,h3⟩,h4⟩,h5⟩,h6⟩,h7⟩,h8⟩,h9⟩,h10⟩,h11⟩,h12⟩,h13⟩,h14⟩:=h;exact HP C hk hk2 h1 h2 h3 h4 h5 h6 h7 h8 h9 h10 h11 (aU a C _ h12) (aU b C _ h13) fun C'=>aU be C' _ h14
theorem fK:∀(es:Es) {X:Cx}{c:Cfg} (C:COk X c Γ) (xs:List Expr),cG c es xs=true->PA X xs (TAx X.K (a9 Γ es))
 | .nil,X,c,C,xs,h=>by
  have h:xs.isEmpty=true:=h;cases xs with
  | nil =>
   rintro pos pins s σ H Q I ⟨m,ρ,st,rf,rh,w⟩
   skip
   exact eX pos pins s σ H Q I (w m H [] (Ext.refl _ _ _) rh (Rs_nil.mpr rfl))
  | cons x xs=>cases h
 | .cons e es,X,c,C,xs,h=>by
  replace h:=aq h;obtain⟨y,ys,rfl,h⟩:=h
  ·simp only[Bool.and_eq_true] at h;obtain⟨⟨h1,h2⟩,h3⟩:=h;rintro pos pins s σ H Q I ⟨m,ρ,st,rf,rh,w⟩
   skip
   exact pac (aU e C _ h2) (fK es C _ h3) h1 pos pins s σ H Q I ⟨m,ρ,st,rf,rh,aa C.mono e (fun v st1 k m1 H1 x1 e1 r1 r2=>⟨m1,ρ,st1,rf.mono e1,r1,
    au C.mono es (fun us st2 k2 m2 H2 ys e2 r3 r4=>k2 m2 H2 _ (e1.trans e2) r3 (Rs_cons'.mpr ⟨r2.mono e2,r4⟩)) k⟩) w⟩
theorem JG:∀(o:O) {X:Cx}{c:Cfg} (C:COk X c Γ) (x:Option Expr),HV c o x=true->PO X x (fun σ H Q=>∃m ρ st,RF X.K m H ρ σ/\RH X.K m H st/\wpO Γ o ρ st fun v st'=>∀m' H',Ext X.K m H m' H'->RH X.K m' H' st'->Q v H')
 | .no,X,c,C,x,h=>by
  have h:x.isNone=true:=h;cases x with
  | none =>
   rintro pins s σ H Q I ⟨m,ρ,st,rf,rh,w⟩
   skip
   exact D_ pins s σ H Q I (w m H (Ext.refl _ _ _) rh)
  | some y=>cases h
 | .yes e,X,c,C,x,h=>by
  replace h:=bg h;obtain⟨y,rfl,h⟩:=h
  ·rintro pins s σ H Q I ⟨m,ρ,st,rf,rh,w⟩
   skip
   refine D2 (aU e C _ h) pins s σ H Q I ⟨m,ρ,st,rf,rh,aa C.mono e (fun v st1 k m1 H1 x1 e1 r1 r2=>?_) w⟩;obtain⟨i,rfl,k⟩:=k;rw[R_int] at r2;exact⟨i,r2,k m1 H1 e1 r1⟩
theorem lY:∀(e:E) {X:Cx}{c:Cfg} (C:COk X c Γ) (x:Expr),vz c e x=true->PT X x (TTx X.K (wpT Γ e))
 | .not a,X,c,C,x,h=>by
  replace h:=oN h;obtain⟨y,p,rfl,h⟩:=h
  ·rintro pins s σ H Q I ⟨m,ρ,st,rf,rh,w⟩
   skip
   exact GO (lY a C _ h) pins s σ H Q I ⟨m,ρ,st,rf,rh,aM C.mono a (fun k st1 z m1 H1 e1 r1=>z m1 H1 e1 r1) w⟩
 | .bop true es,X,c,C,x,h=>by
  replace h:=gH h;obtain⟨o,xs,p,rfl,h⟩:=h
  ·simp only[Bool.and_eq_true,beq_iff_eq,Bool.not_eq_true'] at h;obtain⟨⟨h1,h2⟩,h3⟩:=h;subst h1;rintro pins s σ H Q I ⟨m,ρ,st,rf,rh,w⟩
   skip
   exact(GF es C _ _ h3 h2).pt pins s σ H Q I ⟨m,ρ,st,rf,rh,w⟩
 | .bop false es,X,c,C,x,h=>by
  replace h:=gH h;obtain⟨o,xs,p,rfl,h⟩:=h
  ·simp only[Bool.and_eq_true,beq_iff_eq,Bool.not_eq_true'] at h;obtain⟨⟨h1,h2⟩,h3⟩:=h;subst h1;rintro pins s σ H Q I ⟨m,ρ,st,rf,rh,w⟩
   skip
   exact(FZ es C _ _ h3 h2).pt pins s σ H Q I ⟨m,ρ,st,rf,rh,w⟩
 | .cmp op a b,X,c,C,x,h=>by
  replace h:=dN h;obtain⟨l,o,r,p,rfl,h⟩:=h
  ·simp only[Bool.and_eq_true,beq_iff_eq,Bool.not_eq_true',beq_eq_false_iff_ne] at h;obtain⟨⟨⟨h1,n1⟩,h2⟩,h3⟩:=h;subst h1;rintro pins s σ H Q I ⟨m,ρ,st,rf,rh,w⟩
   skip
   refine p8 (zM C.room.units _) (aU a C _ h2) (aU b C _ h3) n1 pins s σ H Q I ⟨m,ρ,st,rf,rh,aa C.mono a (fun v st1 k m1 H1 x1 e1 r1 r2=>⟨m1,ρ,st1,rf.mono e1,r1,
    aa C.mono b (fun u st2 k2 m2 H2 y2 e2 r3 r4=>⟨m2,st2,v,u,r3,r2.mono e2,r4,gL (fun _ _ q=>?_) k2⟩) k⟩) w⟩
   obtain⟨k,rfl,q⟩:=q;intro m' H' y e3 r5 r6;rw[R_bl] at r6;exact⟨k,r6,q m' H' ((e1.trans e2).trans e3) r5⟩
 | .var i,X,c,C,x,h=>by
  replace h:=ai h;obtain⟨y,p,rfl,h⟩:=h
  ·rintro pins s σ H Q I ⟨m,ρ,st,rf,rh,w⟩
   skip
   refine fI (zU C h) (fun _=>rfl) pins s σ H Q I ⟨m,ρ,st,rf,rh,?_⟩;obtain⟨v,e,w⟩:=i9 w;exact qC e fun m' H' y e1 r1 r2=>o9 ⟨m',st,v,r1,r2,a_ (fun _ _ q=>q.ext e1) w⟩
 | .call f es,X,c,C,x,h=>by
  replace h:=aP h;obtain⟨g,xs,p,rfl,h⟩:=h;replace h:=ai h;obtain⟨y,p2,rfl,h⟩:=h
  ·simp only[Bool.and_eq_true] at h;obtain⟨⟨h1,h2⟩,h3⟩:=h;rintro pins s σ H Q I ⟨m,ρ,st,rf,rh,w⟩
   skip
   exact fI (sJ C h1 h2 h3 (fK es C _ h3)) (fun _=>rfl) pins s σ H Q I ⟨m,ρ,st,rf,rh,au C.mono es (fun vs st1 k=>C.mono _ _ _ _ _ (fun v st2 k2 m' H' y e1 r1 r2=>o9 ⟨m',st2,v,r1,r2,a_ (fun _ _ q=>q.ext e1) k2⟩) k) w⟩
 | .blt b es,X,c,C,x,h=>by
  replace h:=aP h;obtain⟨g,xs,p,rfl,h⟩:=h;replace h:=ai h;obtain⟨y,p2,rfl,h⟩:=h
  ·simp only[Bool.and_eq_true,beq_iff_eq,Bool.not_eq_true'] at h;obtain⟨⟨⟨⟨h1,h2⟩,h3⟩,h4⟩,h5⟩:=h;rintro pins s σ H Q I ⟨m,ρ,st,rf,rh,w⟩
   skip
   exact fI (tY C h1 h2 h3 h4 (fK es C _ h5)) (fun _=>rfl) pins s σ H Q I ⟨m,ρ,st,rf,rh,au C.mono es (fun vs st1 k=>g_ (fun v st2 k2 m' H' y e1 r1 r2=>o9 ⟨m',st2,v,r1,r2,a_ (fun _ _ q=>q.ext e1) k2⟩) k) w⟩
 | .tmp a,X,c,C,x,h=>by
  have h:(uS x && aS c a x)=true:=h;rw[MG] at h;rintro pins s σ H Q I ⟨m,ρ,st,rf,rh,w⟩
  skip
  have q:=aU a C x h.2;refine fI q (vj h.1 X.env) pins s σ H Q I ⟨m,ρ,st,rf,rh,aa C.mono a (fun v st1 k m1 H1 x1 e1 r1 r2=>?_) w⟩;obtain⟨st2,q,e2,r3,r4⟩:=lr rh e1 r1 r2 k;exact o9 ⟨m,st2,v,r3,r4,a_ (fun _ _ q=>q.ext e2) q⟩
 | .ix a b,X,c,C,x,h=>by
  replace h:=dO h;obtain⟨l,r,p,rfl,h⟩:=h
  ·simp only[Bool.and_eq_true] at h;obtain⟨⟨h1,h2⟩,h3⟩:=h;rintro pins s σ H Q I ⟨m,ρ,st,rf,rh,w⟩
   skip
   refine fI (Aa (ET C.room.units) (aU a C _ h2) (aU b C _ h3) h1) (fun _=>rfl) pins s σ H Q I ⟨m,ρ,st,rf,rh,aa C.mono a (fun v st1 k m1 H1 x1 e1 r1 r2=>⟨m1,ρ,st1,rf.mono e1,r1,
    aa C.mono b (fun u st2 k2 m2 H2 y2 e2 r3 r4=>⟨m2,st2,v,u,r3,r2.mono e2,r4,i3 (fun z st3 q m3 H3 y3 e3 r5 r6=>?_) k2⟩) k⟩) w⟩
   exact o9 ⟨m3,st3,z,r5,r6,a_ (fun _ _ q=>q.ext ((e1.trans e2).trans e3)) q⟩
 | .bl _,X,c,C,x,h=>by rintro pins s σ H Q I ⟨m,ρ,st,rf,rh,w⟩;exact False.elim w
 | .int _,X,c,C,x,h=>by rintro pins s σ H Q I ⟨m,ρ,st,rf,rh,w⟩;exact False.elim w
 | .non,X,c,C,x,h=>by rintro pins s σ H Q I ⟨m,ρ,st,rf,rh,w⟩;exact False.elim w
 | .str _,X,c,C,x,h=>by rintro pins s σ H Q I ⟨m,ρ,st,rf,rh,w⟩;exact False.elim w
 | .gv _ _,X,c,C,x,h=>by rintro pins s σ H Q I ⟨m,ρ,st,rf,rh,w⟩;exact False.elim w
 | .tup _,X,c,C,x,h=>by rintro pins s σ H Q I ⟨m,ρ,st,rf,rh,w⟩;exact False.elim w
 | .lst _,X,c,C,x,h=>by rintro pins s σ H Q I ⟨m,ρ,st,rf,rh,w⟩;exact False.elim w
 | .dct0,X,c,C,x,h=>by rintro pins s σ H Q I ⟨m,ρ,st,rf,rh,w⟩;exact False.elim w
 | .bad,X,c,C,x,h=>by rintro pins s σ H Q I ⟨m,ρ,st,rf,rh,w⟩;exact False.elim w
 | .bin _ _ _,X,c,C,x,h=>by rintro pins s σ H Q I ⟨m,ρ,st,rf,rh,w⟩;exact False.elim w
 | .ite _ _ _,X,c,C,x,h=>by rintro pins s σ H Q I ⟨m,ρ,st,rf,rh,w⟩;exact False.elim w
 | .sl _ _ _,X,c,C,x,h=>by rintro pins s σ H Q I ⟨m,ρ,st,rf,rh,w⟩;exact False.elim w
 | .met _ _ _,X,c,C,x,h=>by rintro pins s σ H Q I ⟨m,ρ,st,rf,rh,w⟩;exact False.elim w
 | .eqd ne a b,X,c,C,x,h=>by
  replace h:=dN h;obtain⟨l,o,r,p,rfl,h⟩:=h;simp only[Bool.and_eq_true,beq_iff_eq,Bool.not_eq_true',beq_eq_false_iff_ne] at h;obtain⟨⟨⟨h1,n1⟩,h2⟩,h3⟩:=h;subst h1;rintro pins s σ H Q I ⟨m,ρ,st,rf,rh,w⟩;refine p8 (Cb (by have:=C.room.un;omega) ne) (aU a C _ h2) (aU b C _ h3) n1 pins s σ H Q I ⟨m,ρ,st,rf,rh,aa C.mono a (fun v st1 k m1 H1 x1 e1 r1 r2=>⟨m1,ρ,st1,rf.mono e1,r1,
   aa C.mono b (fun u st2 k2 m2 H2 y2 e2 r3 r4=>⟨m2,st2,v,u,r3,r2.mono e2,r4,k2.imp (fun k2=>⟨k2.1,fun m' H' y e3 r5 r6=>?_⟩) fun k2=>⟨k2.1,fun m' H' y e3 r5 r6=>?_⟩⟩) k⟩) w⟩
  ·rw[R_bl] at r6;exact⟨!ne,r6,k2.2 m' H' ((e1.trans e2).trans e3) r5⟩
  ·rw[R_bl] at r6;exact⟨ne,r6,k2.2 m' H' ((e1.trans e2).trans e3) r5⟩
 | .un .isE a,X,c,C,x,h=>by replace h:=dN h;obtain⟨l,o,r,p,rfl,h⟩:=h;replace h:=dP h;obtain⟨xs,p2,rfl,h⟩:=h;simp only[Bool.and_eq_true,beq_iff_eq,List.isEmpty_iff] at h;obtain⟨⟨h1,h2⟩,h3⟩:=h;subst h1 h2;rintro pins s σ H Q I ⟨m,ρ,st,rf,rh,w⟩;exact p8 (ze C.room.units) (aU a C _ h3) (mh eX) rfl pins s σ H Q I ⟨m,ρ,st,rf,rh,aa C.mono a (fun v st1 k m1 H1 x1 e1 r1 r2=>rO (P:=fun x H'=>∃k,x=.bl k/\Q k H') r1 r2 k fun p hp q=>let ⟨c,ec,q⟩:=q;⟨c,by cases ec;rfl,q m1 _ (e1.trans (Ext.newT r1 hp)) (r1.newT hp)⟩) w⟩
 | .dct2 _ _,X,c,C,x,h=>by rintro pins s σ H Q I ⟨m,ρ,st,rf,rh,w⟩;exact False.elim w
 | .comp _ _ _ _ _ _,X,c,C,x,h=>by rintro pins s σ H Q I ⟨m,ρ,st,rf,rh,w⟩;exact False.elim w
 | .pcg i g n es,X,c,C,x,h=>by replace h:=aP h;obtain⟨hd,xs,p,rfl,h⟩:=h;replace h:=ai h;obtain⟨y,p2,rfl,h⟩:=h;replace h:=aq h;obtain⟨l,r,rfl,h⟩:=h;simp only[Bool.and_eq_true,beq_iff_eq,decide_eq_true_eq] at h;obtain⟨⟨⟨⟨⟨⟨h1,h2⟩,h3⟩,h4⟩,h5⟩,h6⟩,h7⟩:=h;rintro pins s σ H Q I ⟨m,ρ,st,rf,rh,ea,w⟩;exact fI (Ak C h1 h2 h3 h4 h5 h6 (fK es C _ h7)) (fun _=>rfl) pins s σ H Q I ⟨m,ρ,st,rf,rh,ea,au C.mono es (fun vs st1 k=>C.mono _ _ _ _ _ (fun v st2 k2 m' H' y e1 r1 r2=>o9 ⟨m',st2,v,r1,r2,a_ (fun _ _ q=>q.ext e1) k2⟩) k) w⟩
 | .pcl _ _,X,c,C,x,h=>by rintro pins s σ H Q I ⟨m,ρ,st,rf,rh,w⟩;exact False.elim w
 | .plm _ _ _ _ _ _ _,X,c,C,x,h=>by rintro pins s σ H Q I ⟨m,ρ,st,rf,rh,w⟩;exact False.elim w
 | .clr _,X,c,C,x,h=>by rintro pins s σ H Q I ⟨m,ρ,st,rf,rh,w⟩;exact False.elim w
theorem Gp:∀(es:Es) {X:Cx}{c:Cfg} (C:COk X c Γ) (xs:List Expr) (pos:Pos),cG c es xs=true->xs.isEmpty=false->PE X (.BoolOp .And xs pos) (TEx X.K (qJ Γ es))
 | .nil,X,c,C,xs,pos,h,hn=>by have h:xs.isEmpty=true:=h;rw[h] at hn;cases hn
 | .cons e .nil,X,c,C,xs,pos,h,hn=>by
  replace h:=aq h;obtain⟨y,ys,rfl,h⟩:=h
  ·simp only[Bool.and_eq_true] at h;obtain⟨⟨h1,h2⟩,h3⟩:=h;have h3:ys.isEmpty=true:=h3;cases ys with
   | nil =>
    rintro pins s σ H Q I ⟨m,ρ,st,rf,rh,w⟩
    skip
    exact BH (aU e C _ h2) pins s σ H Q I ⟨m,ρ,st,rf,rh,w⟩
   | cons _ _=>cases h3
 | .cons e (.cons e2 es),X,c,C,xs,pos,h,hn=>by
  replace h:=aq h;obtain⟨y,ys,rfl,h⟩:=h
  ·simp only[Bool.and_eq_true] at h;obtain⟨⟨h1,h2⟩,h3⟩:=h;cases ys with
   | nil=>exact Bool.noConfusion (show false=true from h3)
   | cons y2 ys =>
    rintro pins s σ H Q I ⟨m,ρ,st,rf,rh,w⟩
    skip
    refine IE (aU e C _ h2) (Gp (.cons e2 es) C (y2::ys) pos h3 rfl) pins s σ H Q I ⟨m,ρ,st,rf,rh,aa C.mono e (fun v st1 k m1 H1 x1 e1 r1 r2=>?_) w⟩;obtain⟨b,rfl,k⟩:=k;rw[R_bl] at r2;subst r2;refine⟨b,rfl,?_⟩;cases b with
    | true=>rw[MN rfl] at k |-;exact⟨m1,ρ,st1,rf.mono e1,r1,jR C.mono _ (fun _ _ q=>q.ext e1) k⟩
    | false=>rw[ML MA] at k |-;exact(k.ext e1).here r1 (R_bl.mpr rfl)
theorem EG:∀(es:Es) {X:Cx}{c:Cfg} (C:COk X c Γ) (xs:List Expr) (pos:Pos),cG c es xs=true->xs.isEmpty=false->PE X (.BoolOp .Or xs pos) (TEx X.K (pU Γ es))
 | .nil,X,c,C,xs,pos,h,hn=>by have h:xs.isEmpty=true:=h;rw[h] at hn;cases hn
 | .cons e .nil,X,c,C,xs,pos,h,hn=>by
  replace h:=aq h;obtain⟨y,ys,rfl,h⟩:=h
  ·simp only[Bool.and_eq_true] at h;obtain⟨⟨h1,h2⟩,h3⟩:=h;have h3:ys.isEmpty=true:=h3;cases ys with
   | nil =>
    rintro pins s σ H Q I ⟨m,ρ,st,rf,rh,w⟩
    skip
    exact BH (aU e C _ h2) pins s σ H Q I ⟨m,ρ,st,rf,rh,w⟩
   | cons _ _=>cases h3
 | .cons e (.cons e2 es),X,c,C,xs,pos,h,hn=>by
  replace h:=aq h;obtain⟨y,ys,rfl,h⟩:=h
  ·simp only[Bool.and_eq_true] at h;obtain⟨⟨h1,h2⟩,h3⟩:=h;cases ys with
   | nil=>exact Bool.noConfusion (show false=true from h3)
   | cons y2 ys =>
    rintro pins s σ H Q I ⟨m,ρ,st,rf,rh,w⟩
    skip
    refine K9 (aU e C _ h2) (EG (.cons e2 es) C (y2::ys) pos h3 rfl) pins s σ H Q I ⟨m,ρ,st,rf,rh,aa C.mono e (fun v st1 k m1 H1 x1 e1 r1 r2=>?_) w⟩;obtain⟨b,rfl,k⟩:=k;rw[R_bl] at r2;subst r2;refine⟨b,rfl,?_⟩;cases b with
    | true=>rw[MN rfl] at k |-;exact(k.ext e1).here r1 (R_bl.mpr rfl)
    | false=>rw[ML MA] at k |-;exact⟨m1,ρ,st1,rf.mono e1,r1,jP C.mono _ (fun _ _ q=>q.ext e1) k⟩
theorem GF:∀(es:Es) {X:Cx}{c:Cfg} (C:COk X c Γ) (xs:List Expr) (pos:Pos),pD c es xs=true->xs.isEmpty=false->PW X (.BoolOp .And xs pos) (TTx X.K (gu Γ es))
 | .nil,X,c,C,xs,pos,h,hn=>by have h:xs.isEmpty=true:=h;rw[h] at hn;cases hn
 | .cons e .nil,X,c,C,xs,pos,h,hn=>by
  replace h:=aq h;obtain⟨y,ys,rfl,h⟩:=h
  ·simp only[Bool.and_eq_true] at h;obtain⟨h2,h3⟩:=h;have h3:ys.isEmpty=true:=h3;cases ys with
   | nil =>
    rintro whole pins s σ H Q I ⟨m,ρ,st,rf,rh,w⟩
    skip
    exact DK (lY e C _ h2) whole pins s σ H Q I ⟨m,ρ,st,rf,rh,w⟩
   | cons _ _=>cases h3
 | .cons e (.cons e2 es),X,c,C,xs,pos,h,hn=>by
  replace h:=aq h;obtain⟨y,ys,rfl,h⟩:=h
  ·simp only[Bool.and_eq_true] at h;obtain⟨h2,h3⟩:=h;cases ys with
   | nil=>exact Bool.noConfusion (show false=true from h3)
   | cons y2 ys =>
    rintro whole pins s σ H Q I ⟨m,ρ,st,rf,rh,w⟩
    skip
    refine HN (lY e C _ h2) (GF (.cons e2 es) C (y2::ys) pos h3 rfl) whole pins s σ H Q I ⟨m,ρ,st,rf,rh,aM C.mono e (fun b st1 k m1 H1 e1 r1=>?_) w⟩;cases b with
    | true=>rw[MN rfl] at k |-;exact⟨m1,ρ,st1,rf.mono e1,r1,bZ C.mono _ (fun _ _ q=>q.ext e1) k⟩
    | false=>rw[ML MA] at k |-;exact k m1 H1 e1 r1
theorem FZ:∀(es:Es) {X:Cx}{c:Cfg} (C:COk X c Γ) (xs:List Expr) (pos:Pos),pD c es xs=true->xs.isEmpty=false->PW X (.BoolOp .Or xs pos) (TTx X.K (qY Γ es))
 | .nil,X,c,C,xs,pos,h,hn=>by have h:xs.isEmpty=true:=h;rw[h] at hn;cases hn
 | .cons e .nil,X,c,C,xs,pos,h,hn=>by
  replace h:=aq h;obtain⟨y,ys,rfl,h⟩:=h
  ·simp only[Bool.and_eq_true] at h;obtain⟨h2,h3⟩:=h;have h3:ys.isEmpty=true:=h3;cases ys with
   | nil =>
    rintro whole pins s σ H Q I ⟨m,ρ,st,rf,rh,w⟩
    skip
    exact Hr (lY e C _ h2) whole pins s σ H Q I ⟨m,ρ,st,rf,rh,w⟩
   | cons _ _=>cases h3
 | .cons e (.cons e2 es),X,c,C,xs,pos,h,hn=>by
  replace h:=aq h;obtain⟨y,ys,rfl,h⟩:=h
  ·simp only[Bool.and_eq_true] at h;obtain⟨h2,h3⟩:=h;cases ys with
   | nil=>exact Bool.noConfusion (show false=true from h3)
   | cons y2 ys =>
    rintro whole pins s σ H Q I ⟨m,ρ,st,rf,rh,w⟩
    skip
    refine K5 (lY e C _ h2) (FZ (.cons e2 es) C (y2::ys) pos h3 rfl) whole pins s σ H Q I ⟨m,ρ,st,rf,rh,aM C.mono e (fun b st1 k m1 H1 e1 r1=>?_) w⟩;cases b with
    | true=>rw[MN rfl] at k |-;exact k m1 H1 e1 r1
    | false=>rw[ML MA] at k |-;exact⟨m1,ρ,st1,rf.mono e1,r1,jV C.mono _ (fun _ _ q=>q.ext e1) k⟩
theorem kA:∀(t:Tg) {X:Cx}{c:Cfg} (C:COk X c Γ) (x:Expr),jj c t x=true->PG X x (TGx X.K (bt Γ t))
 | .name i,X,c,C,x,h=>by
  replace h:=ai h;obtain⟨y,p,rfl,h⟩:=h
  ·simp only[Bool.and_eq_true,beq_iff_eq] at h;obtain⟨h1,h2⟩:=C.locx h.2;rintro pins s σ H v u Q I r ⟨m,ρ,st,p,rf,rh,hr,w⟩
   skip
   exact Dr C.ndX (by rw[C.N];exact h.1) h1 h2 pins s σ H v u Q I r (w.here rh (rf.set i hr))
 | .tup ts,X,c,C,x,h=>by
  replace h:=bw h;obtain⟨xs,k,p,rfl,h⟩:=h
  ·rintro pins s σ H v u Q I r ⟨m,ρ,st,p,rf,rh,hr,w⟩
   skip
   obtain⟨vs,rfl,hl,w⟩:=w;rw[R_tup] at hr;obtain⟨a,ys,rfl,g,r2⟩:=hr;obtain⟨l1,l2⟩:=lR (env:=X.env) h;refine Hb C.calm (BD ts C _ h) l1 l2 pins s σ H _ u Q I r ⟨a,ys,rfl,g,?_,m,ρ,st,vs,rf,rh,r2,w⟩;rw[<-r2.len];exact hl
 | .sub o i,X,c,C,x,h=>by
  replace h:=dO h;obtain⟨l,rr,pos,rfl,h⟩:=h
  ·simp only[Bool.and_eq_true] at h;obtain⟨⟨h1,h2⟩,h3⟩:=h;rintro pins s σ H v u Q I r ⟨m,ρ,st,p,rf,rh,hr,w⟩
   skip
   refine HB (aU o C _ h2) (aU i C _ h3) (HE C.room.units) (by cases rr <;> first|(intro _;rfl)|cases h1) pins s σ H v u Q I r ⟨m,ρ,st,rf,rh,aa C.mono o (fun a st1 k m1 H1 x1 e1 r1 r2=>⟨m1,ρ,st1,rf.mono e1,r1,
    aa C.mono i (fun b st2 k2 m2 H2 y2 e2 r3 r4=>⟨m2,st2,a,b,p,r3,r2.mono e2,r4,(hr.mono e1).mono e2,oA (fun st3 q H3 e3 r5=>?_) k2⟩) k⟩) w⟩
   exact q m2 H3 σ ((e1.trans e2).trans e3) r5 (((rf.mono e1).mono e2).mono e3)
theorem BD:∀(ts:Tgs) {X:Cx}{c:Cfg} (C:COk X c Γ) (xs:List Expr),qm c ts xs=true->PGs X xs (Mb X.K (gy Γ ts))
 | .nil,X,c,C,xs,h=>by
  have h:xs.isEmpty=true:=h;cases xs with
  | nil =>
   rintro pins s σ H v u Q I r ⟨m,ρ,st,p,rf,rh,hr,w⟩
   skip
   obtain⟨rfl,w⟩:=w;rw[Rs_nil] at hr;exact DJ pins s σ H v u Q I r ⟨hr,w.here rh rf⟩
  | cons _ _=>cases h
 | .cons t ts,X,c,C,xs,h=>by
  replace h:=aq h;obtain⟨y,ys,rfl,h⟩:=h
  ·simp only[Bool.and_eq_true] at h;obtain⟨⟨h1,h2⟩,h3⟩:=h;rintro pins s σ H v u Q I r ⟨m,ρ,st,p,rf,rh,hr,w⟩
   skip
   obtain⟨x,q,rfl,w⟩:=w;rw[aK] at hr;obtain⟨y,ys,rfl,g1,g2⟩:=hr;refine AI (kA t C _ h2) (BD ts C _ h3) (by rw[iw h1];rfl) pins s σ H _ u Q I r ⟨y,ys,rfl,m,ρ,st,x,rf,rh,g1,aG C.mono t (fun ρ1 st1 k m1 H1 σ1 e1 r1 r2=>?_) w⟩;exact⟨m1,ρ1,st1,q,r2,r1,g2.mono e1,fN C.mono ts (fun _ _ q=>q.ext e1) k⟩
theorem wH:∀(it:It) {X:Cx}{c:Cfg} (C:COk X c Γ) {tg:Expr} (x:Expr),vZ it tg=true->xj c it x=true->PI X tg x (TIx X.K (iJ Γ it))
 | .seq e,X,c,C,tg,x,_,h=>by
  have h:(iA x && aS c e x)=true:=h;rw[MG] at h;rintro pins s σ H Rr I ⟨m,ρ,st,rf,rh,w⟩
  skip
  refine Hj (aU e C x h.2) pins s σ H Rr I ⟨m,ρ,st,rf,rh,aa C.mono e (fun v st1 k m1 H1 x1 e1 r1 r2=>?_) w⟩;obtain⟨xs,es,k⟩:=k;cases v with
  | tup ys =>cases es;rw[R_tup] at r2;obtain⟨a,zs,rfl,g,r3⟩:=r2;exact⟨a,rfl,.inr ⟨⟨zs,g⟩,k m1 H1 _ e1 r1 (AM g r3)⟩⟩
  | rdl ys =>cases es;rw[gg] at r2;obtain⟨a,zs,rfl,g,r3⟩:=r2;exact⟨a,rfl,.inl ⟨⟨zs,g.sq⟩,k m1 H1 _ e1 r1 (B' g r3)⟩⟩
  | ref n =>
   unfold b9 bp at es;simp only at es;split at es
   ·cases es;rename_i q;obtain⟨a,zs,rfl,ea,g,r3⟩:=r1.lst q r2;exact⟨a,rfl,.inl ⟨⟨zs,SqL.of g⟩,k m1 H1 _ e1 r1 (xJ r1 q ea)⟩⟩
   ·cases es
  | _=>cases es
 | .range1 a,X,c,C,tg,x,_,h=>by
  replace h:=aP h;obtain⟨g,xs,p,rfl,h⟩:=h;replace h:=ai h;obtain⟨y,p2,rfl,h⟩:=h;replace h:=bL h;obtain⟨l,rfl,h⟩:=h
  ·simp only[Bool.and_eq_true,beq_iff_eq] at h;obtain⟨⟨⟨h1,h2⟩,h3⟩,h4⟩:=h;subst h1;obtain⟨g1,g2,g3,g4⟩:=C.bltx h2;rintro pins s σ H Rr I ⟨m,ρ,st,rf,rh,w⟩
   skip
   have hA:PA X [_] (jz (TEx X.K (wpE Γ a)) sY):=pac (aU a C _ h4) eX h3;refine xM g1 g4 hA (aO h3) pins s σ H Rr I ⟨m,ρ,st,rf,rh,aa C.mono a (fun v st1 k m1 H1 x1 e1 r1 r2=>?_) w⟩;obtain⟨j,rfl,k1,k2,k⟩:=k;rw[R_int] at r2;subst r2;exact⟨j,rfl,k1,k2,k m1 H1 _ e1 r1 vp⟩
theorem vc:∀(es:Es) {X:Cx}{c:Cfg} (C:COk X c Γ) (xs:List Expr),pD c es xs=true->PTs X xs (TTx X.K (gu Γ es))
 | .nil,X,c,C,xs,h=>by
  have h:xs.isEmpty=true:=h;cases xs with
  | nil =>
   rintro pins s σ H Q I ⟨m,ρ,st,rf,rh,w⟩
   skip
   exact wC pins s σ H Q I (w m H (Ext.refl _ _ _) rh)
  | cons _ _=>cases h
 | .cons e .nil,X,c,C,xs,h=>by
  replace h:=aq h;obtain⟨y,ys,rfl,h⟩:=h
  ·simp only[Bool.and_eq_true] at h;obtain⟨h2,h3⟩:=h;have h3:ys.isEmpty=true:=h3;cases ys with
   | nil =>
    rintro pins s σ H Q I ⟨m,ρ,st,rf,rh,w⟩
    skip
    refine sZ (lY e C _ h2) wC pins s σ H Q I ⟨m,ρ,st,rf,rh,aM C.mono e (fun b st1 k m1 H1 e1 r1=>?_) w⟩;cases b with
    | true=>rw[MN rfl];exact k m1 H1 e1 r1
    | false=>rw[ML MA];exact k m1 H1 e1 r1
   | cons _ _=>cases h3
 | .cons e (.cons e2 es),X,c,C,xs,h=>by
  replace h:=aq h;obtain⟨y,ys,rfl,h⟩:=h
  ·simp only[Bool.and_eq_true] at h;obtain⟨h2,h3⟩:=h;rintro pins s σ H Q I ⟨m,ρ,st,rf,rh,w⟩
   skip
   refine sZ (lY e C _ h2) (vc (.cons e2 es) C _ h3) pins s σ H Q I ⟨m,ρ,st,rf,rh,aM C.mono e (fun b st1 k m1 H1 e1 r1=>?_) w⟩;cases b with
   | true=>rw[MN rfl] at k |-;exact⟨m1,ρ,st1,rf.mono e1,r1,bZ C.mono _ (fun _ _ q=>q.ext e1) k⟩
   | false=>rw[ML MA] at k |-;exact k m1 H1 e1 r1
end
end
end FW
namespace FW
open L2 HX
section
variable {X:Cx}{c:Cfg}{Γ:Nat->FSp}{tg:Expr}
noncomputable def AE (K:W.Frag)(m:List Addr)(H:Hp)(D:L2.Ends):aC:={ nx:=postF K m H D.nx,rt:=post K m H D.rt,bk:=postF K m H D.bk,ct:=postF K m H D.ct }
noncomputable def TSx (K:W.Frag)(w:Fr->AH->aC->Prop):TS:=fun D σ H=>∃m ρ st,RF K m H ρ σ/\RH K m H st/\w ρ st (AE K m H D)
theorem AE.ext {D:L2.Ends}(x:Ext K m H m1 H1):gD (AE K m H D) (AE K m1 H1 D) :=
 ⟨fun _ _ q=>q.ext x,fun _ _ q=>q.ext x,fun _ _ q=>q.ext x,fun _ _ q=>q.ext x⟩
theorem DV (G:aJ Γ){D:L2.Ends}(h:TSx X.K (wpS Γ (.forS t it b)) D σ H):DP (TIx X.K (iJ Γ it)) (TGx X.K (bt Γ t)) (TSx X.K (az Γ b)) D σ H:=by
 obtain⟨m,ρ,st,rf,rh,w⟩:=h
 skip
 refine⟨m,ρ,st,rf,rh,cX G it (fun xs chk st1 k m1 H1 J e1 r1 W=>?_) w⟩;refine⟨fun i n σ' H'=>n+i=xs.length/\∃m' ρ' st',Ext X.K m1 H1 m' H'/\RH X.K m' H' st'/\RF X.K m' H' ρ' σ'/\gk chk (fun x ρ' st' D'=>bt Γ t x ρ' st' fun ρ2 st2=>az Γ b ρ2 st2 D') (AE X.K m H D) (xs.drop i) ρ' st',
  ⟨xs.length,rfl,m1,ρ,st1,Ext.refl _ _ _,r1,rf.mono e1,by simpa using k⟩,?_⟩
 rintro i n σ' H' ⟨hn,m',ρ',st',x',rh',rf',k'⟩;cases q:xs.drop i with
 | nil =>
  rw[q] at k';have hi:i=xs.length:=by have:=NC List.length q;simp at this;omega
  subst hi;exact .inl ⟨W.stop m' H' st' x' rh' k'.1,k'.2 m' H' σ' (e1.trans x') rh' rf'⟩
 | cons v rest =>
  rw[q] at k';have hi:i<xs.length:=by have:=NC List.length q;simp at this;omega
  have ev:xs[i]?=some v:=by have:=NC List.head? q;rw[OY] at this;exact this
  have er:rest=xs.drop (i+1):=by have:=NC List.tail q;rw[O6] at this;exact this.symm
  subst er;obtain⟨kc,k'⟩:=k';obtain⟨go,yl⟩:=W.item i v m' H' st' x' rh' kc ev;refine .inr ⟨go,fun σ'' H''=>(n-1+(i+1)=xs.length/\∃m' ρ' st',Ext X.K m1 H1 m' H''/\RH X.K m' H'' st'/\RF X.K m' H'' ρ' σ''/\gk chk (fun x ρ' st' D'=>bt Γ t x ρ' st' fun ρ2 st2=>az Γ b ρ2 st2 D') (AE X.K m H D) (xs.drop (i+1)) ρ' st'),fun σ'' H'' z=>⟨n-1,by omega,z⟩,fun y H2 hy=>?_⟩;obtain⟨x2,r2,rv⟩:=yl y H2 hy;refine⟨m',ρ',st',v,rf'.mono x2,r2,rv,aG G t (fun ρ3 st3 k3 m3 H3 σ3 x3 r3 f3=>?_) k'⟩;refine⟨m3,ρ3,st3,f3,r3,aH G b ?_ k3⟩;have xx:Ext X.K m H m3 H3:=((e1.trans x').trans x2).trans x3;refine⟨fun ρ4 st4 k4 m4 H4 σ4 x4 r4 f4=>⟨by omega,m4,ρ4,st4,((x'.trans x2).trans x3).trans x4,r4,f4,k4⟩,fun v4 st4 k4=>k4.ext xx,fun ρ4 st4 k4=>k4.ext xx,fun ρ4 st4 k4 m4 H4 σ4 x4 r4 f4=>⟨by omega,m4,ρ4,st4,((x'.trans x2).trans x3).trans x4,r4,f4,k4⟩⟩
noncomputable def EF (X:Cx)(D:L2.Ends):L2.Ends:={ nx:=fun σ H=>∃a o ys,H a=some (.frz o (.dK ys))/\(∀u q,X.H₀ a≠some (.frz u q))/\D.nx σ (upd H a (.dK ys)),rt:=fun v H=>∃a o ys,H a=some (.frz o (.dK ys))/\(∀u q,X.H₀ a≠some (.frz u q))/\D.rt v (upd H a (.dK ys)),bk:=fun _ _=>False,ct:=fun _ _=>False }
theorem CU {D:L2.Ends}(h:SP X pins (EF X D) f s'):SP X pins D f s':=by
 cases f with
 | next=>obtain⟨σ',H',I,a,o,ys,hF,hz,q⟩:=h;exact⟨σ',_,tR I hF hz,q⟩
 | ret u=>obtain⟨v,σ',H',I,r,a,o,ys,hF,hz,q⟩:=h;exact⟨v,σ',_,tR I hF hz,r,q⟩
 | brk=>obtain⟨σ',H',I,q⟩:=h;exact False.elim q
 | cont=>obtain⟨σ',H',I,q⟩:=h;exact False.elim q
theorem Bq (G:aJ Γ){D:L2.Ends}(h:TSx X.K (wpS Γ (.forK t wk e b)) D σ H):DP (wiF X Γ wk e) (TGx X.K (bt Γ t)) (TSx X.K (az Γ b)) (EF X D) σ H:=by
 obtain⟨m,ρ,st,rf,rh,w⟩:=h;refine⟨m,ρ,st,rf,rh,aa G e (fun v st1 z=>?_) w⟩;obtain⟨n,rfl,kvs,h1,k⟩:=z;refine⟨n,kvs,rfl,h1,fun m1 H1 a o ys e1 r1 ea g r3 r4 hz=>?_⟩;have xs:Ext X.K m1 H1 m1 (upd H1 a (.frz o (.dK ys))):=Ext.set (ys:=[]) r1 ea (nfD g);have W:rN X.K (ItF wk a o ys) (cH wk kvs) (fun _=>True) m1 (upd H1 a (.frz o (.dK ys))):=Hs aw r3 (r4.mono xs);have rF:=r1.frz (o:=o) ea g r3 r4;generalize hH2:upd H1 a (.frz o (.dK ys))=H2 at *;have hF0:H2 a=some (.frz o (.dK ys)):=by rw[<-hH2];exact aw
 have toD:∀ {m':List Addr}{H':Hp},Ext X.K m1 H2 m' H'->Ext X.K m H m' (upd H' a (.dK ys)):=fun {m' H'} x=>e1.trans (Ext.thaw (o:=o) r1 ea g (by rw[hH2];exact x));have endN:∀ {ρ':Fr}{st':AH}{m':List Addr}{H':Hp}{σ':L2.St},Ext X.K m1 H2 m' H'->RH X.K m' H' st'->RF X.K m' H' ρ' σ'->(fzD n kvs (AE X.K m H D)).nx ρ' st'->(EF X D).nx σ' H':=fun {ρ' st' m' H' σ'} x r f q=>by have hF:H' a=some (.frz o (.dK ys)):=x.frz _ _ _ hF0;exact⟨a,o,ys,hF,hz,q.2 m' _ σ' (toD x) (r.thaw (hJ x.pre ea) hF q.1) ⟨f.len,fun i v e=>let ⟨y,e1,rr⟩:=f.at_ i v e;⟨y,e1,rr.mono0 (cD hF) (cJ hF)⟩⟩⟩
 have endR:∀ {v:PV}{x:V}{st':AH}{m':List Addr}{H':Hp},Ext X.K m1 H2 m' H'->RH X.K m' H' st'->R X.K m' H' v x->(fzD n kvs (AE X.K m H D)).rt v st'->(EF X D).rt x H':=fun {v x st' m' H'} e r f q=>by have hF:H' a=some (.frz o (.dK ys)):=e.frz _ _ _ hF0;exact⟨a,o,ys,hF,hz,q.2 m' _ x (toD e) (r.thaw (hJ e.pre ea) hF q.1) (f.mono0 (cD hF) (cJ hF))⟩
 refine⟨fun i n' σ' H'=>n'+i=(cH wk kvs).length/\∃m' ρ' st',Ext X.K m1 H2 m' H'/\RH X.K m' H' st'/\RF X.K m' H' ρ' σ'/\gk (fun _=>True) (fun x ρ' st' D'=>bt Γ t x ρ' st' fun ρ2 st2=>az Γ b ρ2 st2 D') (fzD n kvs (AE X.K m H D)) ((cH wk kvs).drop i) ρ' st',
  ⟨(cH wk kvs).length,rfl,m1,ρ,st1.set n (.fz kvs),Ext.refl _ _ _,rF,(rf.mono e1).mono xs,by simpa using k⟩,?_⟩
 generalize cH wk kvs=xl at *;rintro i n' σ' H' ⟨hn,m',ρ',st',x',rh',rf',k'⟩;cases q:xl.drop i with
 | nil =>
  rw[q] at k';have hi:i=xl.length:=by have:=NC List.length q;simp at this;omega
  subst hi;exact .inl ⟨W.stop m' H' st' x' rh' trivial,endN x' rh' rf' k'.2⟩
 | cons v rest =>
  rw[q] at k';have hi:i<xl.length:=by have:=NC List.length q;simp at this;omega
  have ev:xl[i]?=some v:=by have:=NC List.head? q;rw[OY] at this;exact this
  have er:rest=xl.drop (i+1):=by have:=NC List.tail q;rw[O6] at this;exact this.symm
  subst er;obtain⟨kc,k'⟩:=k';obtain⟨go,yl⟩:=W.item i v m' H' st' x' rh' trivial ev;refine .inr ⟨go,fun σ'' H''=>(n'-1+(i+1)=xl.length/\∃m' ρ' st',Ext X.K m1 H2 m' H''/\RH X.K m' H'' st'/\RF X.K m' H'' ρ' σ''/\gk (fun _=>True) (fun x ρ' st' D'=>bt Γ t x ρ' st' fun ρ2 st2=>az Γ b ρ2 st2 D') (fzD n kvs (AE X.K m H D)) (xl.drop (i+1)) ρ' st'),fun σ'' H'' z=>⟨n'-1,by omega,z⟩,fun y H3 hy=>?_⟩;obtain⟨x2,r2,rv⟩:=yl y H3 hy;refine⟨m',ρ',st',v,rf'.mono x2,r2,rv,aG G t (fun ρ3 st3 k3 m3 H4 σ3 x3 r3 f3=>?_) k'⟩;refine⟨m3,ρ3,st3,f3,r3,aH G b ?_ k3⟩;have xx:Ext X.K m1 H2 m3 H4:=(x'.trans x2).trans x3;exact⟨fun ρ4 st4 k4 m4 H4 σ4 x4 r4 f4=>⟨by omega,m4,ρ4,st4,xx.trans x4,r4,f4,k4⟩,fun v4 st4 k4 m4 H4 y4 x4 r4 f4=>endR (xx.trans x4) r4 f4 k4,fun ρ4 st4 k4 m4 H4 σ4 x4 r4 f4=>endN (xx.trans x4) r4 f4 k4,fun ρ4 st4 k4 m4 H4 σ4 x4 r4 f4=>⟨by omega,m4,ρ4,st4,xx.trans x4,r4,f4,k4⟩⟩
theorem yo (G:aJ Γ){D:L2.Ends}(h:TSx X.K (wpS Γ (.whileS cd b)) D σ H):CO (TTx X.K (wpT Γ cd)) (TSx X.K (az Γ b)) D σ H:=by
 obtain⟨m,ρ,st,rf,rh,w⟩:=h
 skip
 obtain⟨n0,w⟩:=w;refine⟨fun n σ' H'=>∃m' ρ' st',Ext X.K m H m' H'/\RH X.K m' H' st'/\RF X.K m' H' ρ' σ'/\dS (wpT Γ cd) (az Γ b) (AE X.K m H D) n ρ' st',⟨n0,m,ρ,st,Ext.refl _ _ _,rh,rf,w⟩,?_⟩;rintro n σ' H' ⟨m',ρ',st',x',rh',rf',k'⟩;cases n with
 | zero=>exact k'.elim
 | succ n =>
  refine⟨m',ρ',st',rf',rh',aM G cd (fun b st1 k m1 H1 x1 r1=>?_) k'⟩;cases b with
  | false=>rw[ML MA] at k |-;exact k m1 H1 σ' (x'.trans x1) r1 (rf'.mono x1)
  | true =>
   rw[MN rfl] at k |-
   refine⟨fun σ'' H''=>∃m' ρ' st',Ext X.K m H m' H''/\RH X.K m' H'' st'/\RF X.K m' H'' ρ' σ''/\dS (wpT Γ cd) (az Γ b) (AE X.K m H D) n ρ' st',fun σ'' H'' z=>⟨n,Nat.lt_succ_self _,z⟩,m1,ρ',st1,rf'.mono x1,r1,aH G _ ?_ k⟩;have xx:=x'.trans x1;exact⟨fun ρ4 st4 k4 m4 H4 σ4 x4 r4 f4=>⟨m4,ρ4,st4,xx.trans x4,r4,f4,k4⟩,fun v4 st4 k4=>k4.ext xx,fun ρ4 st4 k4=>k4.ext xx,fun ρ4 st4 k4 m4 H4 σ4 x4 r4 f4=>⟨m4,ρ4,st4,xx.trans x4,r4,f4,k4⟩⟩
end
end FW
namespace FW
open L2 HX
noncomputable def ma:Expr->Bool
 | .Name ..=>true
 | _=>false
noncomputable def z_:Expr->Expr->Bool
 | .Tuple ts _ _,.Tuple vs _ _=>(ts.any fun t=>!ma t) || vs.all (foldedForSure 8)
 | .Tuple ..,_=>true
 | .Subscript ..,_=>true
 | _,_=>false
noncomputable def u9 (y:Str)(sc:Scope):Bool:=sc.names.any fun x=>match x with|(n,k)=>n == y && (k == .local || k == .cell)
noncomputable def ur (x:Stmt)(f:List Expr->Expr->Bool):Bool:=match x with | .Assign ts v _=>f ts v|_=>false
theorem mV (h:ur x f=true):∃ts v p,x=.Assign ts v p/\f ts v=true:=by cases x with|Assign ts v p=>exact⟨ts,v,p,rfl,h⟩|_=>exact Bool.noConfusion h
noncomputable def oj (x:Stmt)(f:Expr->Expr->Bool):Bool:=ur x fun ts v=>on1 ts fun t=>f t v
theorem fG (h:oj x f=true):∃t v p,x=.Assign [t] v p/\f t v=true:=by replace h:=mV h;obtain⟨ts,v,p,rfl,h⟩:=h;replace h:=bL h;obtain⟨t,rfl,h⟩:=h;exact⟨t,v,p,rfl,h⟩
noncomputable def FC (x:Stmt)(f:Expr->Operator->Expr->Bool):Bool:=match x with | .AugAssign t o v _=>f t o v|_=>false
theorem xT (h:FC x f=true):∃t o v p,x=.AugAssign t o v p/\f t o v=true:=by cases x with|AugAssign t o v p=>exact⟨t,o,v,p,rfl,h⟩|_=>exact Bool.noConfusion h
noncomputable def Ii (x:Stmt)(f:Expr->Bool):Bool:=match x with | .Expr v _=>f v|_=>false
theorem sX (h:Ii x f=true):∃v p,x=.Expr v p/\f v=true:=by cases x with|Expr v p=>exact⟨v,p,rfl,h⟩|_=>exact Bool.noConfusion h
noncomputable def rQ (x:Stmt)(f:Option Expr->Bool):Bool:=match x with | .Return v _=>f v|_=>false
theorem gS (h:rQ x f=true):∃v p,x=.Return v p/\f v=true:=by cases x with|Return v p=>exact⟨v,p,rfl,h⟩|_=>exact Bool.noConfusion h
noncomputable def Hz (x:Stmt)(f:Expr->List Stmt->List Stmt->Bool):Bool:=match x with | .If v a b _=>f v a b|_=>false
theorem tG (h:Hz x f=true):∃v a b p,x=.If v a b p/\f v a b=true:=by cases x with|If v a b p=>exact⟨v,a,b,p,rfl,h⟩|_=>exact Bool.noConfusion h
noncomputable def xo (x:Stmt)(f:Expr->List Stmt->Bool):Bool:=match x with | .While v a [] _=>f v a|_=>false
theorem t9 (h:xo x f=true):∃v a p,x=.While v a [] p/\f v a=true:=by
 cases x with
 | While v a b p=>cases b with|nil=>exact⟨v,a,p,rfl,h⟩|cons _ _=>exact Bool.noConfusion h
 | _=>exact Bool.noConfusion h
noncomputable def wZ (x:Stmt)(f:Expr->Expr->List Stmt->Bool):Bool:=match x with | .For t v a [] _=>f t v a|_=>false
theorem j6 (h:wZ x f=true):∃t v a p,x=.For t v a [] p/\f t v a=true:=by
 cases x with
 | For t v a b p=>cases b with|nil=>exact⟨t,v,a,p,rfl,h⟩|cons _ _=>exact Bool.noConfusion h
 | _=>exact Bool.noConfusion h
noncomputable def Bf (x:Stmt):Bool:=match x with | .Pass _=>true|_=>false
theorem uI (h:Bf x=true):∃p,x=.Pass p:=by cases x with|Pass p=>exact⟨p,rfl⟩|_=>exact Bool.noConfusion h
noncomputable def Gj (x:Stmt)(f:Expr->Expr->Bool):Bool:=match x with | .Delete ts _=>on1 ts fun t=>oF t f|_=>false
theorem xO (h:Gj x f=true):∃o i q p,x=.Delete [.Subscript o i q] p/\f o i=true:=by
 cases x with
 | Delete ts p =>obtain⟨t,rfl,h⟩:=bL h;obtain⟨o,i,q,rfl,h⟩:=dO h;exact⟨o,i,q,p,rfl,h⟩
 | _=>exact Bool.noConfusion h
noncomputable def FJ (x:Stmt):Bool:=match x with | .Break _=>true|_=>false
theorem yt (h:FJ x=true):∃p,x=.Break p:=by cases x with|Break p=>exact⟨p,rfl⟩|_=>exact Bool.noConfusion h
noncomputable def Ce (x:Stmt):Bool:=match x with | .Continue _=>true|_=>false
theorem uA (h:Ce x=true):∃p,x=.Continue p:=by cases x with|Continue p=>exact⟨p,rfl⟩|_=>exact Bool.noConfusion h
noncomputable def Ha:Tg->Bool
 | .name _=>true
 | _=>false
noncomputable def Jj:E->Bool
 | .comp ..=>true
 | _=>false
noncomputable def GY (c:Cfg)(t:Tg)(e:E)(tg x:Expr):Bool :=
 Ha t && Jj e && aA tg fun y py=>D0 x fun _ _ sc pos=>c.names.lookup y == some .cell || (c.names.lookup y == some .local && py.line == pos.line && !u9 y sc)
noncomputable def Ki:E->Bool
 | _=>false
noncomputable def zr (c:Cfg)(t:Tg)(e:E)(tg x:Expr):Bool :=
 Ha t && Ki e && aA tg fun y py=>I_ x fun _ _ _ sc pos=>c.names.lookup y == some .local && py.line == pos.line && !u9 y sc
theorem Et (h:Ki e=true):False:=Bool.noConfusion h
noncomputable def K8 (c:Cfg)(t:Expr):Bool:=aA t fun y _=>c.names.lookup y == some .cell
noncomputable def setT (c:Cfg)(tg x:Expr):Bool:=eO tg fun ts=>(D0 x fun _ _ _ _=>true) || eO x fun _=>ts.any (K8 c)
mutual
noncomputable def IF (c:Cfg):S->Stmt->Bool
 | .set t e,s=>oj s fun tg x=>(jj c t tg && aS c e x) && ((mC x && (ma tg || z_ tg x)) || (GY c t e tg x || (setT c tg x || zr c t e tg x)))
 | .par i j a b,s=>oj s fun tg vx=>eO tg fun ts=>on2 ts fun ta tb=>aA ta fun x px=>aA tb fun y py=>eO vx fun us=>on2 us fun u v=>c.N[i]? == some x && c.N[j]? == some y && !(i == j) && !(x == y) && c.names.lookup x == some .local && c.names.lookup y == some .local
    && px.line == py.line && ar u && ar v && !(foldedForSure 8 u && foldedForSure 8 v) && !(constantsAlone 8 u && constantsAlone 8 v) && aS c a u && aS c b v
 | .aug i op e,s=>FC s fun t o x=>aA t fun y _=>c.N[i]? == some y && c.loc y && o == op && aS c e x
 | .expr e,s=>Ii s fun x=>mC x && aS c e x
 | .ret e,s=>rQ s fun o=>du o fun x=>aS c e x
 | .retN,s=>rQ s fun o=>o.isNone
 | .ifS t a b,s=>Hz s fun x ys zs=>vz c t x && aD c a ys && aD c b zs
 | .whileS t b,s=>xo s fun x ys=>vz c t x && aD c b ys
 | .forS t it b,s=>wZ s fun tg x ys=>vZ it tg && iA x && jj c t tg && xj c it x && aD c b ys
 | .forK t wk e b,s=>wZ s fun tg x ys=>JS wk tg && iA x && jj c t tg && yb wk x (fun y=>aS c e y) && aD c b ys
 | .pass,s=>Bf s
 | .del a b,s=>Gj s fun o i=>aS c a o && aS c b i
 | .brk,s=>FJ s
 | .cont,s=>Ce s
 | .bad,_=>true
 | .set2 i j e,s=>ur s fun ts v=>on2 ts fun ta tb=>aA ta fun x _=>aA tb fun y _=>c.N[i]? == some x && c.N[j]? == some y && !(i == j) && c.loc x && c.loc y && mC v && aS c e v
termination_by structural s=>s
noncomputable def aD (c:Cfg):Ss->List Stmt->Bool
 | .nil,xs=>xs.isEmpty
 | .cons s ss,xs=>onCons xs fun y ys=>IF c s y && aD c ss ys
termination_by structural s=>s
end
theorem xn (h:Ha t=true):∃i,t=.name i:=by cases t with|name i=>exact⟨i,rfl⟩|_=>exact Bool.noConfusion h
theorem Ep (h:Jj e=true):∃elt tg it ifs nt caps,e=.comp elt tg it ifs nt caps:=by cases e with|comp elt tg it ifs nt caps=>exact⟨elt,tg,it,ifs,nt,caps,rfl⟩|_=>exact Bool.noConfusion h
theorem bP (h:mC x=true):swapsWith x t l env=pure false:=by cases x <;> first|rfl|cases h
theorem kO {t:Expr}(h:mC x=true):swapsWithSole [t] x l env=pure false:=by unfold swapsWithSole;exact bP h
theorem kI:∀(ts:List Expr) (f:Expr->Option Str),(ts.any fun t=>!ma t)=true->(∀t,ma t=false->f t=none)->(ts.filterMap f).length<ts.length
 | [],f,h,_=>by cases h
 | t::ts,f,h,hf=>by
  rw[N2,OZ] at h;have hl:(ts.filterMap f).length<=ts.length:=N3 _ _;rcases h with h|h
  ·rw[ND,hf t (by simpa using h)];simp only[List.length_cons];omega
  ·have:=kI ts f h hf;rw[ND];cases f t <;> simp only[List.length_cons] <;> omega
theorem jJ:∀(ts:List Expr) (P:Expr->Bool) (f:Expr->Option Str),ts.any P=true->(∀t,P t=true->f t=none)->(ts.filterMap f).length<ts.length
 | [],P,f,h,_=>by cases h
 | t::ts,P,f,h,hf=>by
  rw[N2,OZ] at h;have hl:(ts.filterMap f).length<=ts.length:=N3 _ _;rcases h with h|h
  ·rw[ND,hf t h];simp only[List.length_cons];omega
  ·have:=jJ ts P f h hf;rw[ND];cases f t <;> simp only[List.length_cons] <;> omega
theorem Ah {ts:List Expr}{env:Env}(hs:ts.any P=true)(hP:∀t,P t=true->∃y q,t=.Name y q/\(env.kindOf y == some .local)=false):swappedStores [.Tuple ts k p] (.Tuple vs k2 p2) env=pure none:=by
 unfold swappedStores;dsimp only;split
 ·rfl
 ·split
  ·rfl
  ·have hlt:=jJ ts P (fun x=>match x with
    | .Name id pos=>if (env.kindOf id == some .local && pos.line == (Option.map (fun x=>x.pos.line) ts.head?).getD 0)=true then some id else none
    | _=>none) hs (fun t ht=>by obtain⟨y,q,rfl,hk⟩:=hP t ht;show (if (env.kindOf y == some .local && _)=true then some y else none)=none;rw[hk,Bool.false_and,ML MA])
   rw[MN];rw[OZ]
   left
   rw[bne_iff_ne];exact M8 hlt
theorem oV (h:z_ tg x=true):swappedStores [tg] x env=pure none:=by
 cases tg with
 | Tuple ts k p =>
  cases x with
  | Tuple vs k2 p2 =>
   have hs:((ts.any fun t=>!ma t) || vs.all (foldedForSure 8))=true:=h;rw[OZ] at hs;unfold swappedStores;dsimp only;split
   ·rfl
   ·split
    ·rfl
    rcases hs with hs|hs
    rotate_left
    ·split
     ·rfl
     ·first|rfl|rw[MN hs]
    ·have hlt:=kI ts (fun x=>match x with
      | .Name id pos=>if (env.kindOf id == some .local && pos.line == (Option.map (fun x=>x.pos.line) ts.head?).getD 0)=true then some id else none
      | _=>none) hs (fun t ht=>by cases t <;> first|rfl|cases ht)
     rw[MN];rw[OZ]
     left
     rw[bne_iff_ne];exact M8 hlt
  | _=>rfl
 | Subscript a b p=>cases x <;> rfl
 | _=>cases h
noncomputable def vI:Expr->Bool
 | .Starred ..=>true
 | _=>false
theorem pG (h:ar u=true):vI u=false:=by cases u <;> first|rfl|cases h
theorem uM (h1:ar u=true)(h2:ar v=true):([u,v].any fun | .Starred ..=>true|_=>false)=false:=by show (vI u || (vI v || false))=false;rw[pG h1,pG h2];rfl
theorem Ao {env:Env}{px py:Pos}(hb:env.blockKind=.function)(hx:env.kindOf x=some .local)(hy:env.kindOf y=some .local)(hxy:x≠y)(hl:px.line=py.line)(h1:ar u=true)(h2:ar v=true)(h3:(foldedForSure 8 u && foldedForSure 8 v)=false)(h4:(constantsAlone 8 u && constantsAlone 8 v)=false) :
  swappedStores [.Tuple [.Name x px,.Name y py] kt pt] (.Tuple [u,v] k2 pt2) env=pure (some [x,y]):=by
 unfold swappedStores;dsimp only;have e0:(Option.map (fun x=>x.pos.line) [Expr.Name x px,Expr.Name y py].head?).getD 0=px.line:=rfl;have e1:([u,v].any fun | .Starred ..=>true|_=>false)=false:=uM h1 h2;have e2:[u,v].all (foldedForSure 8)=false:=by simpa using h3
 have e3:[u,v].all (constantsAlone 8)=false:=by simpa using h4
 have e4:[x,y].eraseDups.length=2:=by
  have:(y == x)=false:=by simpa using fun z=>hxy z.symm
  simp[List.eraseDups_cons,this]
 rw[ML (by simp[hb]),ML ?h1]
 case h1=>exact fun z=>MA (e1.symm.trans z)
 have e5:(List.filterMap (fun t=>match t with
   | .Name id pos=>if (env.kindOf id == some .local && pos.line == (Option.map (fun x=>x.pos.line) [Expr.Name x px,Expr.Name y py].head?).getD 0)=true then some id else none
   | _=>none) [Expr.Name x px,Expr.Name y py])=[x,y]:=by
  rw[e0];simp[List.filterMap_cons,hx,hy,hl]
 generalize hn:List.filterMap _ [Expr.Name x px,Expr.Name y py]=ns;have hns:ns=[x,y]:=hn.symm.trans e5;subst hns;rw[ML,ML,ML]
 ·rw[e3];decide
 ·rw[e2];decide
 ·rw[e4];simp
section
variable {X:Cx}{c:Cfg}{Γ:Nat->FSp}
theorem BB {Γ:Nat->FSp}(C:COk X c Γ)(h2:jj c t tg=true)(h3:aS c e x=true)(h:GY c t e tg x=true):PS X (.Assign [tg] x pos) (TSx X.K (wpS Γ (.set t e))):=by
 have hE:=aU e C _ h3;unfold GY at h;rw[MG,MG] at h;obtain⟨⟨ht,he⟩,h⟩:=h;replace h:=ai h;obtain⟨y,py,rfl,h⟩:=h;replace h:=jo h;obtain⟨ex,gens,sc,cpos,rfl,h⟩:=h;obtain⟨i,rfl⟩:=xn ht;obtain⟨elt,tg,it,ifs,nt,caps,rfl⟩:=Ep he
 ·have h2:(c.N[i]? == some y && c.loc y)=true:=h2;simp only[Bool.and_eq_true,beq_iff_eq] at h2;obtain⟨g1,g2⟩:=C.locx h2.2;rintro pins s σ H D I ⟨m,ρ,st,rf,rh,w⟩;simp only[Bool.or_eq_true,Bool.and_eq_true,beq_iff_eq,Bool.not_eq_true'] at h;rcases h with h|⟨⟨hl,hp⟩,hn⟩
  ·have hk:=C.cel y (.inl h);have hs:swapsWith (.ListComp ex gens sc cpos) (some (.Name y py)) pos.line X.env=pure false:=by
    unfold swapsWith;have:(X.env.kindOf y == some NameKind.local)=false:=by rcases hk with hk|hk <;> rw[hk] <;> rfl
    simp only[this,Bool.and_false,Bool.false_and]
   rw[Ay] at w;refine pN C.ndX (by rw[C.N];exact h2.1) g1 hE hs g2 pins s σ H D I ⟨m,ρ,st,rf,rh,aa C.mono _ (fun v st1 k m1 H1 x1 e1 r1 r2=>?_) w⟩
   try simp only[eP,lZ,lT] at k
   exact k m1 H1 _ e1 r1 ((rf.mono e1).set i r2)
  ·have hll:=C.lcl _ hl;have hs:swapsWith (.ListComp ex gens sc cpos) (some (.Name y py)) pos.line X.env=pure true:=by
    unfold swapsWith;have q1:(X.env.kindOf y == some NameKind.local)=true:=by unfold Env.kindOf;rw[hll];rfl
    have q2:(X.env.blockKind == ScopeKind.function)=true:=by rw[C.bk];rfl
    have q3:(py.line == cpos.line)=true:=by rw[hp];simp
    unfold u9 at hn;show pure (_ && _ && _ && !_)=_;rw[q1,q2];show pure (true && true && (py.line == cpos.line) && !_)=_;rw[q3,hn];rfl
   replace h3:=jo h3;obtain⟨ex',gs',sc',pos',heq,h3⟩:=h3;cases heq;replace h3:=bL h3;obtain⟨g,rfl,h3⟩:=h3;obtain⟨tx,ix,fx,ia⟩:=g
   ·simp only[Bool.and_eq_true,beq_iff_eq] at h3;obtain⟨⟨⟨⟨⟨⟨⟨⟨h1,h0⟩,k2'⟩,h3⟩,h4⟩,h5⟩,h6⟩,h7⟩,h8⟩:=h3;subst h1;obtain⟨S,k1,k2,k3,k4⟩:=mJ C h4;have hC:∀s2 H2 fp A,COk (cxC X (nt++caps.filterMap (X.N[·]?)) s2 H2 fp sc A) (c.inner nt caps sc) Γ:=fun s2 H2 fp A=>Aq C h4
    skip
    rw[exec_Assign_Name_used _ _ _ _ hs];refine MB (wpAny_standAt ?_);refine MB ?_;unfold evalThenUse;refine MB ?_;refine pA (elt:=elt) (tg:=tg) (ifs:=ifs) (nt:=nt) (caps:=caps) (use:=some (assign (.Name y py) X.env)) (Fin:=fun A H'=>D.nx (σ.set i (some (.ref A))) H') (wi:=TIx X.K (iJ Γ it)) C.mono C.calm S rfl k1 k2 k3 k2' h3 (wH it C _ h0 h5) (fun s2 H2 fp A=>kA tg (hC s2 H2 fp A) _ h6) (fun s2 H2 fp A=>vc ifs (hC s2 H2 fp A) _ h7) (fun s2 H2 fp A=>aU elt (hC s2 H2 fp A) _ h8) I ?_ ?_
    ·refine⟨m,ρ,st,rf,rh,cX C.mono it (fun xs chk st1 z m1 H1 J e1 r1 W=>⟨m1,ρ,st1,xs,chk,rf.mono e1,r1,W,z.1,?_⟩) w⟩;refine fT (body:=eN Γ elt tg ifs (nt.map (fun _=>none)++caps.map fun i=>(ρ[i]?).join)) (fun _ _ _ _ hk q=>l8 C.mono hk q) (fun vs st2 k m2 H2 A ys e2 r2 Dm hD0 hD ry=>?_) z.2;have hD1:H A=none:=by
      cases q:H A with
      | none=>rfl
      | some o =>
       by_cases hm:A∈m
       ·exact absurd ((e1.trans e2).pre.subset hm) Dm
       ·exact absurd hD0 (e1.ne hm q)
     try simp only[eP,lZ,lT] at k
     exact k _ _ _ ((e1.trans e2).addD hD1) (r2.addD Dm hD ry) ((rf.mono ((e1.trans e2).addD hD1)).set i (R.last r2.len))
    ·intro C' A H' s' m' I' ns fp F;refine wpAny_assign_Name (oR I' C.ndX (by rw[C.N];exact h2.1) g1 (v:=.ref A) rfl (fun s2 I2 hh=>?_) g2);obtain⟨a,hs2,ha⟩:=hh;have hne:C'≠a:=by
      rcases ha with rfl|ha
      ·exact fp.2.1
      ·exact fun q=>fp.2.2.2.2.1 _ _ ha q.symm
     refine⟨m',?_,fun h' hs'=>?_⟩
     ·obtain⟨o,es,ep,q1,q2⟩:=ns;exact⟨o,es,ep,(hs2.2 C' hne).trans q1,q2⟩
     ·refine MU (MU ?_);exact⟨_,H',I2.turned (t':=s2.toks) (fun b o hb e=>hs'.extBut b o hb e) fp.1 fp.2.1 fp.2.2.2.1 fp.2.2.2.2.1 fp.2.2.2.2.2,F⟩
theorem BA {Γ:Nat->FSp}(C:COk X c Γ)(h2:jj c t tg=true)(h3:aS c e x=true)(h:zr c t e tg x=true):PS X (.Assign [tg] x pos) (TSx X.K (wpS Γ (.set t e))):=by unfold zr at h;rw[MG,MG] at h;obtain⟨⟨ht,he⟩,h⟩:=h;replace h:=ai h;obtain⟨y,py,rfl,h⟩:=h;replace h:=Cr h;obtain⟨ek,ev,gens,sc,cpos,rfl,h⟩:=h;obtain⟨i,rfl⟩:=xn ht;exact(Et he).elim
theorem vW:∀ {kvs:List (Key × PV)}{ys:List (Key × V)},ys.map (·.1)=kvs.map (·.1)->Rs K m H (kvs.map (·.2)) (ys.map (·.2)) ->
  (kM ys k).map (·.1)=(tJ kvs k).map (·.1)/\Rs K m H ((tJ kvs k).map (·.2)) ((kM ys k).map (·.2))
 | [],ys,e,r=>by
  cases ys with
  | nil=>exact⟨rfl,Rs_nil.mpr rfl⟩
  | cons _ _=>cases e
 | p::kvs,ys,e,r=>by
  cases ys with
  | nil=>cases e
  | cons y ys =>
   rw[MF,MF,PM] at e;rw[MF,MF,Rs_cons'] at r;obtain⟨h1,h2⟩:=vW (k:=k) e.2 r.2;unfold tJ kM at h1 h2 |-
   by_cases q:p.1=k
   ·rw[O3 (by rw[e.1];simp[q]),O3 (by simp[q])];exact⟨h1,h2⟩
   ·rw[O4 (by rw[e.1];simp[q]),O4 (by simp[q]),MF,MF,MF,MF,Rs_cons',h1,e.1];exact⟨rfl,r.1,h2⟩
theorem GZ (C:COk X c Γ)(ha:PE X o (TEx X.K (wpE Γ a)))(hb:PE X i (TEx X.K (wpE Γ b))):PS X (.Delete [.Subscript o i q] p) (TSx X.K (wpS Γ (.del a b))):=by rintro pins s σ H D I ⟨m,ρ,st,rf,rh,w⟩;refine wpAny_Delete (wpAny_deleteEach_cons (wpAny_delete_Subscript (thn (ha pins s σ H (fun x1 H1=>∃m1 v st1,Ext X.K m H m1 H1/\RH X.K m1 H1 st1/\R X.K m1 H1 v x1/\wpE Γ b ρ st1 fun y st2=>r_ v y st2 fun st3=>(AE X.K m H D).nx ρ st3) I ⟨m,ρ,st,rf,rh,aa C.mono a (fun v st1 kk m1 H1 x1 e1 r1 r2=>⟨m1,v,st1,e1,r1,r2,kk⟩) w⟩) ?_)));rintro u s1 ⟨x1,H1,I1,ru,m1,v,st1,e1,r1,r2,w⟩;refine thn (hb pins s1 σ H1 (fun x2 H2=>∃m2 y st2,Ext X.K m1 H1 m2 H2/\RH X.K m2 H2 st2/\R X.K m2 H2 y x2/\r_ v y st2 fun st3=>(AE X.K m H D).nx ρ st3) I1 ⟨m1,ρ,st1,rf.mono e1,r1,aa C.mono b (fun y st2 kk m2 H2 x2 e2 r1 r2=>⟨m2,y,st2,e2,r1,r2,kk⟩) w⟩) ?_;rintro u2 s2 ⟨x2,H2,I2,ru2,m2,y,st2,e2,r3,r4,w⟩;obtain⟨n,z,kvs,rfl,rfl,g1,g2,w⟩:=sP w;obtain⟨A,ys,rfl,eb,g,k1,k2⟩:=r3.dkat g1 (r2.mono e2);obtain rfl:=R_str.mp r4;obtain rfl:u=.ref A:=ru;obtain⟨k3,k4⟩:=vW (k:=.inr z) k1 k2;have x3:Ext X.K m2 H2 m2 (upd H2 A (.dK (kM ys (.inr z)))):=Ext.set (ys:=[]) r3 eb (nfD g);exact yP I2 g (k:=.inr z) ru2 (by rw[qV k1 k2];exact g2) fun s3 I3=>wpAny_deleteEach_nil ⟨σ,_,I3,w m2 _ σ ((e1.trans e2).trans x3) (r3.setD eb (nfD g) k3 k4) (rf.mono ((e1.trans e2).trans x3))⟩
mutual
theorem K1 (C:COk X c Γ):∀(e:S) (x:Stmt),IF c e x=true->PS X x (TSx X.K (wpS Γ e))
 | .set t e,x,h=>by
  replace h:=fG h;obtain⟨tg,x,pos,rfl,h⟩:=h
  ·simp only[Bool.and_eq_true,Bool.or_eq_true] at h;obtain⟨⟨h2,h3⟩,h14⟩:=h;rcases h14 with⟨h1,h4⟩|h14|h14|h14
   rotate_left
   ·exact BB C h2 h3 h14
   rotate_left
   ·exact BA C h2 h3 h14
   rotate_right
   ·have hE:=aU e C _ h3;have hG:=kA t C _ h2;rintro pins s σ H D I ⟨m,ρ,st,rf,rh,w⟩
    skip
    have rd:DD (TEx X.K (wpE Γ e)) (TGx X.K (bt Γ t)) D σ H:=⟨m,ρ,st,rf,rh,aa C.mono e (fun v st1 k m1 H1 x1 e1 r1 r2=>⟨m1,ρ,st1,v,rf.mono e1,r1,r2,aG C.mono t (fun _ _ q=>q.ext e1) k⟩) w⟩;obtain⟨ts,k,p,rfl,h14⟩:=bw h14;rcases Bool.or_eq_true_iff.mp h14 with h14|h14
    ·obtain⟨a,b,d,f,rfl,_⟩:=jo h14;exact qM hE hG rfl rfl rfl pins s σ H D I rd
    ·obtain⟨us,k2,p2,rfl,h14⟩:=bw h14;refine qM hE hG rfl (Ah (P:=K8 c) h14 fun t ht=>?_) rfl pins s σ H D I rd;obtain⟨y,q,rfl,hy⟩:=ai (show aA t _=true from ht);refine⟨y,q,rfl,?_⟩;rcases C.cel y (.inl (by simpa using hy)) with hk|hk <;> rw[hk] <;> rfl
   ·have hE:=aU e C _ h3;have hG:=kA t C _ h2;rintro pins s σ H D I ⟨m,ρ,st,rf,rh,w⟩
    skip
    have rd:DD (TEx X.K (wpE Γ e)) (TGx X.K (bt Γ t)) D σ H:=⟨m,ρ,st,rf,rh,aa C.mono e (fun v st1 k m1 H1 x1 e1 r1 r2=>⟨m1,ρ,st1,v,rf.mono e1,r1,r2,aG C.mono t (fun _ _ q=>q.ext e1) k⟩) w⟩;cases t with
    | name i =>
     obtain⟨y,p,rfl,h2⟩:=ai h2;have h2:=Bool.and_eq_true_iff.mp h2;obtain⟨g1,g2⟩:=C.locx h2.2;refine pN C.ndX (by rw[C.N];exact beq_iff_eq.mp h2.1) g1 hE (bP h1) g2 pins s σ H D I ⟨m,ρ,st,rf,rh,aa C.mono e (fun v st1 k m1 H1 x1 e1 r1 r2=>?_) w⟩
     try simp only[eP,lZ,lT] at k
     exact k m1 H1 _ e1 r1 ((rf.mono e1).set i r2)
    | tup ts =>obtain⟨xs,k,p,rfl,_⟩:=bw h2;exact qM hE hG (kO h1) (oV (by rcases h4 with h4|h4;cases h4;exact h4)) rfl pins s σ H D I rd
    | sub o i =>obtain⟨l,r,p,rfl,_⟩:=dO h2;exact qM hE hG (kO h1) (oV (by rcases h4 with h4|h4;cases h4;exact h4)) rfl pins s σ H D I rd
 | .par i j a b,x,h=>by
  replace h:=fG h;obtain⟨tg,vx,pos,rfl,h⟩:=h;replace h:=bw h;obtain⟨ts,k,p1,rfl,h⟩:=h;replace h:=fP h;obtain⟨ta,tb,rfl,h⟩:=h;replace h:=ai h;obtain⟨x,px,rfl,h⟩:=h;replace h:=ai h;obtain⟨y,py,rfl,h⟩:=h;replace h:=bw h;obtain⟨us,k2,p2,rfl,h⟩:=h;replace h:=fP h;obtain⟨u,v,rfl,h⟩:=h
  ·simp only[Bool.and_eq_true,beq_iff_eq,Bool.not_eq_true',beq_eq_false_iff_ne] at h;obtain⟨⟨⟨⟨⟨⟨⟨⟨⟨⟨⟨⟨h1,h2⟩,h3⟩,h4⟩,h5⟩,h6⟩,h7⟩,h8⟩,h9⟩,h10⟩,h11⟩,h12⟩,h13⟩:=h;have hx:=C.lcl _ h5;have hy:=C.lcl _ h6;rintro pins s σ H D I ⟨m,ρ,st,rf,rh,w⟩
   skip
   refine HC C.calm C.ndX (by rw[C.N];exact h1) (by rw[C.N];exact h2) h3 hx hy (pac (aU a C _ h12) (pac (aU b C _ h13) eX h9) h8)
    (Ao C.bk hx hy h4 h7 h8 h9 h10 h11) rfl pins s σ H D I ⟨m,ρ,st,rf,rh,aa C.mono a (fun v st1 k m1 H1 x1 e1 r1 r2=>⟨m1,ρ,st1,rf.mono e1,r1,
    aa C.mono b (fun u st2 k2 m2 H2 y2 e2 r3 r4=>⟨x1,y2,rfl,?_⟩) k⟩) w⟩
   exact k2 m2 H2 _ (e1.trans e2) r3 ((((rf.mono e1).mono e2).set i (r2.mono e2)).set j r4)
 | .aug i op e,x,h=>by
  replace h:=xT h;obtain⟨t,o,x,p,rfl,h⟩:=h;replace h:=ai h;obtain⟨y,py,rfl,h⟩:=h
  ·simp only[Bool.and_eq_true,beq_iff_eq] at h;obtain⟨⟨⟨h1,h2⟩,h3⟩,h4⟩:=h;subst h3;obtain⟨g1,g2⟩:=C.locx h2;rintro pins s σ H D I ⟨m,ρ,st,rf,rh,w⟩
   skip
   obtain⟨v,ev,w⟩:=w;obtain⟨y,ey,ry⟩:=rf.at_ i v ev;refine IB C.ndX (by rw[C.N];exact h1) g1 (aU e C _ h4) (IR _) g2 pins s σ H D I ⟨y,ey,m,ρ,st,rf,rh,aa C.mono e (fun u st1 k m1 H1 x1 e1 r1 r2=>⟨m1,st1,v,u,r1,ry.mono e1,r2,o5 (fun z st2 q m2 H2 z2 e2 r3 r4=>?_) k⟩) w⟩;exact q m2 H2 _ (e1.trans e2) r3 (((rf.mono e1).mono e2).set i r4)
 | .expr e,x,h=>by
  replace h:=sX h;obtain⟨x,p,rfl,h⟩:=h
  ·simp only[Bool.and_eq_true] at h;rintro pins s σ H D I ⟨m,ρ,st,rf,rh,w⟩
   skip
   exact vP (aU e C _ h.2) (bP h.1) pins s σ H D I ⟨m,ρ,st,rf,rh,aa C.mono e (fun u st1 k m1 H1 x1 e1 r1 r2=>k m1 H1 σ e1 r1 (rf.mono e1)) w⟩
 | .ret e,x,h=>by
  replace h:=gS h;obtain⟨o,p,rfl,h⟩:=h;replace h:=bg h;obtain⟨x,rfl,h⟩:=h
  ·rintro pins s σ H D I ⟨m,ρ,st,rf,rh,w⟩
   skip
   exact vq (aU e C _ h) pins s σ H D I ⟨m,ρ,st,rf,rh,w⟩
 | .retN,x,h=>by
  replace h:=gS h;obtain⟨o,p,rfl,h⟩:=h;replace h:=yC h;obtain rfl:=h
  ·rintro pins s σ H D I ⟨m,ρ,st,rf,rh,w⟩
   skip
   exact Ds pins s σ H D I (post.here w rh (R_non.mpr rfl))
 | .ifS t a b,x,h=>by
  replace h:=tG h;obtain⟨x,ys,zs,p,rfl,h⟩:=h
  ·simp only[Bool.and_eq_true] at h;obtain⟨⟨h1,h2⟩,h3⟩:=h;rintro pins s σ H D I ⟨m,ρ,st,rf,rh,w⟩
   skip
   refine J8 (lY t C _ h1) (iu C a _ h2) (iu C b _ h3) pins s σ H D I ⟨m,ρ,st,rf,rh,aM C.mono t (fun k st1 z m1 H1 e1 r1=>?_) w⟩;cases k with
   | true=>rw[MN rfl] at z |-;exact⟨m1,ρ,st1,rf.mono e1,r1,aH C.mono a (AE.ext e1) z⟩
   | false=>rw[ML MA] at z |-;exact⟨m1,ρ,st1,rf.mono e1,r1,aH C.mono b (AE.ext e1) z⟩
 | .whileS t b,x,h=>by
  replace h:=t9 h;obtain⟨x,ys,p,rfl,h⟩:=h
  ·simp only[Bool.and_eq_true] at h;intro pins s σ H D I w;exact B8 C.pass (lY t C _ h.1) (iu C b _ h.2) pins s σ H D I (yo C.mono w)
 | .forS t it b,x,h=>by
  replace h:=j6 h;obtain⟨tg,x,ys,p,rfl,h⟩:=h
  ·simp only[Bool.and_eq_true] at h;obtain⟨⟨⟨⟨h0,h1⟩,h2⟩,h3⟩,h4⟩:=h;intro pins s σ H D I w;exact vd C.pass C.calm (wH it C _ h0 h3) (kA t C _ h2) (iu C b _ h4) (i_ h1) pins s σ H D I (DV C.mono w)
 | .forK t wk e b,x,h=>by replace h:=j6 h;obtain⟨tg,x,ys,p,rfl,h⟩:=h;simp only[Bool.and_eq_true] at h;obtain⟨⟨⟨⟨h0,h1⟩,h2⟩,h3⟩,h4⟩:=h;intro pins s σ H D I w;exact thn (vd C.pass C.calm (Le C h0 h3 fun y hy=>aU e C y hy) (kA t C _ h2) (iu C b _ h4) (i_ h1) pins s σ H (EF X D) I (Bq C.mono w)) fun f s' hh=>CU hh
 | .bad,x,h=>by rintro pins s σ H D I ⟨m,ρ,st,rf,rh,w⟩;exact False.elim w
 | .set2 i j e,x,h=>by
  replace h:=mV h;obtain⟨ts,v,pos,rfl,h⟩:=h;replace h:=fP h;obtain⟨ta,tb,rfl,h⟩:=h;replace h:=ai h;obtain⟨x,px,rfl,h⟩:=h;replace h:=ai h;obtain⟨y,py,rfl,h⟩:=h
  ·simp only[Bool.and_eq_true,beq_iff_eq,Bool.not_eq_true',beq_eq_false_iff_ne] at h;obtain⟨⟨⟨⟨⟨⟨h1,h2⟩,h3⟩,h4⟩,h5⟩,h6⟩,h7⟩:=h;obtain⟨a1,a2⟩:=C.locx h4;obtain⟨b1,b2⟩:=C.locx h5;rintro pins s σ H D I ⟨m,ρ,st,rf,rh,w⟩
   skip
   refine wpAny_Assign_two (thn (aU e C _ h7 pins s σ H (fun y H1=>D.nx ((σ.set i (some y)).set j (some y)) H1) I ⟨m,ρ,st,rf,rh,aa C.mono e (fun v st1 k m1 H1 x1 e1 r1 r2=>k m1 H1 _ e1 r1 (((rf.mono e1).set i r2).set j r2)) w⟩) fun v s1 ⟨y,H1,I1,r1,q1⟩=>?_) rfl rfl;refine PySem.wpAny_assign_Name ?_;refine de I1 C.ndX (by rw[C.N];exact h1) a1 r1 (fun s2 I2=>?_) a2;refine PySem.wpAny_assign_Name ?_;exact de I2 C.ndX (by rw[C.N];exact h2) b1 r1 (fun s3 I3=>⟨_,H1,I3,q1⟩) b2
 | .del a b,x,h=>by replace h:=xO h;obtain⟨o,i,q,p,rfl,h⟩:=h;have h:=(MG _ _).mp h;exact GZ C (aU a C _ h.1) (aU b C _ h.2)
 | .pass,x,h=>by
  replace h:=uI h;obtain⟨p,rfl⟩:=h
  ·rintro pins s σ H D I ⟨m,ρ,st,rf,rh,w⟩
   skip
   exact Dg pins s σ H D I (postF.here w rh rf)
 | .brk,x,h=>by
  replace h:=yt h;obtain⟨p,rfl⟩:=h
  ·rintro pins s σ H D I ⟨m,ρ,st,rf,rh,w⟩
   skip
   exact zW pins s σ H D I (postF.here w rh rf)
 | .cont,x,h=>by
  replace h:=uA h;obtain⟨p,rfl⟩:=h
  ·rintro pins s σ H D I ⟨m,ρ,st,rf,rh,w⟩
   skip
   exact s_ pins s σ H D I (postF.here w rh rf)
theorem iu (C:COk X c Γ):∀(e:Ss) (x:List Stmt),aD c e x=true->PSs X x (TSx X.K (az Γ e))
 | .nil,x,h=>by
  have h:x.isEmpty=true:=h;cases x with
  | nil =>
   rintro pins s σ H D I ⟨m,ρ,st,rf,rh,w⟩
   skip
   exact qT pins s σ H D I (postF.here w rh rf)
  | cons _ _=>cases h
 | .cons e es,x,h=>by
  replace h:=aq h;obtain⟨y,ys,rfl,h⟩:=h
  ·simp only[Bool.and_eq_true] at h;rintro pins s σ H D I ⟨m,ρ,st,rf,rh,w⟩
   skip
   refine fB (K1 C e _ h.1) (iu C es _ h.2) pins s σ H D I ⟨m,ρ,st,rf,rh,ej C.mono e ?_ w⟩;exact⟨fun ρ1 st1 k m1 H1 σ1 e1 r1 f1=>⟨m1,ρ1,st1,f1,r1,aH C.mono es (AE.ext e1) k⟩,fun _ _ q=>q,fun _ _ q=>q,fun _ _ q=>q⟩
end
structure GOk (P:Program)(w:World)(K:W.Frag)(mg:Str->Option Value)(base:Heap)(c:Cfg)(Γ:Nat->FSp):Prop where
 fn:∀f x,f<c.lim->c.fns[f]?=some x->∃ps,Has P w K mg base (f+1) x ps (bj K (Γ f))
 blt:∀x∈c.blts,mg x=none
 gl:∀x v,c.gl.lookup x=some v->∃u y,mg x=some u/\RelV y u/\∀m H,R K m H v y
 mono:aJ Γ
noncomputable def frame (n:Nat)(as:List PV):Fr:=as.map some++List.replicate (n-as.length) none
noncomputable def aj (st:AH)(Q:EK):aC:={ nx:=fun _ st'=>Ret st Q .non st',rt:=Ret st Q }
theorem bQ (rh:RH K m H st)(q:Ret st (post K m H Q) v st'):post K m H Q v st':=by
 rcases q with q|q
 ·exact q
 ·intro m' H' x e r s;obtain⟨st1,q,e2,r3,r4⟩:=lr rh e r s q;exact q m H' x e2 r3 r4
theorem fE {N:List Str}(r:Rs K m H as vs):RF K m H (frame N.length as) (L2.start N vs):=by
 have hl:=r.len;refine⟨by simp[frame,L2.start,hl],fun i v e=>?_⟩;unfold frame at e;unfold L2.start;by_cases hi:i<as.length
 ·rw[MS (by simpa using hi),MI] at e;cases q:as[i]? with
  | none=>rw[q] at e;cases e
  | some a =>rw[q] at e;cases e;obtain⟨y,e1,r1⟩:=r.get q;exact⟨y,by rw[MS (by simp;omega),MI,e1];rfl,r1⟩
 ·rw[MX (by simpa using hi),List.getElem?_replicate] at e;split at e <;> cases e
theorem j5 {P:Program}{w:World}{K:W.Frag}{mg:Str->Option Value}{base:Heap}{x:Str}{st:Stmt}{N ps:List Str}(S:ak N ps (ae st)){f:Addr}{cdv:Value}{A:Around}{outer:List Env}{s:Shared}{H:Hp}{E:XK}
  (hN:c.N=N) (hn:c.names=(ae st).names) (hr:Room c.lim (A.deeper (envOfC x (ae st) s.heap.objs.size f cdv))) (G:GOk P w K mg base c Γ)
  (lam:c.pc=true->∀ {pins:List (Addr × Obj)}{σ:L2.St}{H2:Hp}{s2:Shared}{b:Addr}{us:List Value}{vs:List V}{Q:VK},L2.Inv (dv CX0 P w K mg base N x (ae st) f cdv A outer s H E).nox pins σ H2 s2->Vals vs us->bj K (Γ 1000) (.ref b::vs) H2 Q E0 ->
   W.FnAt b s2.heap/\wpAny (model P w) (dv CX0 P w K mg base N x (ae st) f cdv A outer s H E).nox.A (call (.ref b) us) (EP (dv CX0 P w K mg base N x (ae st) f cdv A outer s H E).nox pins σ Q) (dv CX0 P w K mg base N x (ae st) f cdv A outer s H E).nox.xe s2)
  (hmo:∀k,c.hm=some k->HmX (dv CX0 P w K mg base N x (ae st) f cdv A outer s H E).nox Γ k) :
  COk (dv CX0 P w K mg base N x (ae st) f cdv A outer s H E).nox c Γ where
 calm:=rfl
 pass:=PassesOwn.never
 N:=hN.symm
 nd:=by rw[hN];exact S.nd
 vis:=fun y h=>by rw[hn] at h;exact h
 loc:=fun y h=>by rw[hn] at h;exact⟨h,.inl rfl⟩
 lcl:=fun y h=>by rw[hn] at h;exact h
 glb:=fun y h=>by rw[hn] at h;exact h
 bk:=by show Env.blockKind (envOfC x (ae st) s.heap.objs.size f cdv)=_;unfold Env.blockKind;show (if (ae st).kind.isAnnotationScope=true then _ else (ae st).kind)=_;rw[S.kind];rfl
 cel:=fun y h=>by rw[hn] at h;exact h
 room:=hr
 fn:=G.fn
 blt:=G.blt
 gl:=G.gl
 mono:=G.mono
 lam:=lam
 hmo:=hmo
theorem Ht {code:Ss}(F:At K mg x st ps)(S:ak N ps (ae st))(hN:c.N=N)(hn:c.names=(ae st).names)(hc:aD c code (ah st)=true)(G:GOk P w K mg base c Γ)(len:∀as st Q,sp as st Q->as.length=ps.length)(h:∀as st Q,sp as st Q->az Γ code (frame N.length as) st (aj st Q))(hpc:c.pc=false:=by rfl)(hhm:c.hm=none:=by rfl):Has P w K mg base (c.lim+1) x ps (bj K sp):=by
 refine F.ok S (fun vs H Q E ⟨m,st,as,r1,r2,q⟩=>by rw[<-r1.len];exact len as st _ q) fun f cdv A outer s H vs Q E hr ⟨m,st',as,r1,r2,q⟩=>?_;have C:=j5 (E:=E) (H:=H) (outer:=outer) (Γ:=Γ) S hN hn hr G (fun z=>by rw[hpc] at z;cases z) fun k z=>by rw[hhm] at z;cases z
 refine⟨_,iu C code _ hc,m,frame N.length as,st',fE r1,r2,aH G.mono code ?_ (h as st' _ q)⟩;exact⟨fun ρ st2 k m' H' σ' e r f=>bQ r2 k m' H' .non e r (R_non.mpr rfl),fun v st2 k=>bQ r2 k,fun _ _ k=>k.elim,fun _ _ k=>k.elim⟩
end
end FW
namespace FW
open L2 HX
section
variable {P:Program}{w:World}{K:W.Frag}{mg:Str->Option Value}{base:Heap}{c c':Cfg}{Γ:Nat->FSp}
theorem GOk.next (G:GOk P w K mg base c Γ)(h1:c'.fns=c.fns)(h2:c'.lim=c.lim+1)(h3:c'.blts=c.blts)(h4:c'.gl=c.gl){x:Str}{ps:List Str}(hx:c.fns[c.lim]?=some x)(H:Has P w K mg base (c.lim+1) x ps (bj K (Γ c.lim))):GOk P w K mg base c' Γ where
 fn:=fun f y hf e=>by
  rw[h1] at e;rw[h2] at hf;by_cases hl:f<c.lim
  ·exact G.fn f y hl e
  ·have:f=c.lim:=by omega
   subst this;rw[hx] at e;cases e;exact⟨ps,H⟩
 blt:=by rw[h3];exact G.blt
 gl:=by rw[h4];exact G.gl
 mono:=G.mono
theorem Dt {qual:Str}{code:Ss}(F:Fun K x x st f fd)(S:ak N ps (ae st))(hN:c.N=N)(hn:c.names=(ae st).names)(hc:aD c code (ah st)=true)(G:GOk P w K mg base c Γ)(len:∀as st Q,sp as st Q->as.length=ps.length)(h:∀as st Q,sp as st Q->az Γ code (frame N.length as) st (aj st Q))(hpc:c.pc=false:=by rfl)(hhm:c.hm=none:=by rfl):kW P w K mg base CX0 (c.lim+1) f fd ps (bj K sp):=by
 refine F.ok S (fun vs H Q E ⟨m,st,as,r1,r2,q⟩=>by rw[<-r1.len];exact len as st _ q) fun cdv A outer s H vs Q E hr ⟨m,st',as,r1,r2,q⟩=>?_;have C:=j5 (E:=E) (H:=H) (outer:=outer) (Γ:=Γ) S hN hn hr G (fun z=>by rw[hpc] at z;cases z) fun k z=>by rw[hhm] at z;cases z
 refine⟨_,iu C code _ hc,m,frame N.length as,st',fE r1,r2,aH G.mono code ?_ (h as st' _ q)⟩;exact⟨fun ρ st2 k m' H' σ' e r f=>bQ r2 k m' H' .non e r (R_non.mpr rfl),fun v st2 k=>bQ r2 k,fun _ _ k=>k.elim,fun _ _ k=>k.elim⟩
end
def iC:FSp:=fun as st Q=>∃ns:List Int,as=[.rdl (ns.map PV.int)]/\ns.length<=63/\∀st',Q (.bl true) st'
theorem wU:∀ {ns:List Int},Rs K m H (ns.map PV.int) (ns.map V.int)
 | []=>by rw[NM,NM,Rs_nil]
 | n::ns=>by rw[MF,MF,Rs_cons',R_int];exact⟨rfl,wU⟩
structure Hn (K:W.Frag)(h:Heap):Prop where
 at_:∀x∈aW,∀c T,W.tabIn K x=some (c,T)->W.CodeHd h c T/\h.get? T=some (W.tabObj #[])
structure Dn (K:W.Frag):Prop where
 sys:K.lookup sysModules=none
 at_:∀x∈aW,∀c T,W.tabIn K x=some (c,T)->K.lookup T=none/\∀y∈aW,∀d,W.tabIn K y=some (d,T)->y=x
structure gY (K:W.Frag)(mg:Str->Option Value)(base:Heap):Prop where
 hd:∀x∈aW,∀c T,W.tabIn K x=some (c,T)->W.CodeHd base c T
 bm:∃bm ob,mg "__builtins__"=some (.ref bm)/\bm≠builtinsNs/\base.get? bm=some ob/\ob.cls=.type "module"/\ob.dict=some builtinsNs/\ob.data=.plain
theorem BY {ns:List Int}(hl:ns.length<=63)(hO:∀ys,H a≠some (.lst ys))(hS:SqL K H a (ns.map V.int))(tb:TB K H):bj K iC [.ref a] H (fun v _=>v=.bl true) fun _ _ _=>False:=by
 have hF:RdF K H a (ns.map V.int):=by
  rcases hS with (h|h)|h
  ·exact absurd h (hO _)
  ·exact .inl h
  ·exact .inr h
 refine⟨[],[],[.rdl (ns.map PV.int)],?_,⟨rfl,P2,fun n c a h=>by simp at h,tb⟩,ns,rfl,hl,fun st' m' H' x e r s=>R_bl.mp s⟩;rw[Rs_cons',Rs_nil,gg];exact⟨⟨a,_,rfl,hF,wU⟩,rfl⟩
def mP (K:W.Frag)(b:Addr):Prop:=∃x∈aW,∃c,W.tabIn K x=some (c,b)
open Classical in
noncomputable def en (K:W.Frag)(a:Addr)(so:Obj)(scr:Option HO):Hp:=fun b=>if b=a then scr else if mP K b then some (.tbl #[]) else if b=sysModules then some (.frz so (.own 0)) else none
theorem xU {K:W.Frag}{x:Str}{s₁:Shared}{vs:List Value}(KX:K.In s₁.heap)(hns:s₁.heap.Ns mainGlobals mg)(hb:s₁.heap.Ns builtinsNs mb)(hbb:∀x:Str,x≠"__name__"->mb x=bootBuiltins x)(hlim:s₁.heap.NoLimit)(hg:s₁.gens=#[])(hsys:∃so es ep,s₁.heap.get? sysModules=some so/\so.data=.dict es ep)(LT:Hn K s₁.heap)(LK:Dn K)(hbm:∃bm ob,mg "__builtins__"=some (.ref bm)/\bm≠builtinsNs/\s₁.heap.get? bm=some ob/\ob.cls=.type "module"/\ob.dict=some builtinsNs/\ob.data=.plain)(ha:s₁.heap.get? a=some { cls:=.type "list",data:=.seq vs.toArray })(hi:IntsAre vs ns)(hl:ns.length<=63)(hr:Room k callerA)(F:∀base:Heap,K.In base->base.Ns mainGlobals mg->gY K mg base->kW P w K mg base CX0 k fa fd [x] (bj K iC))(hbind:∀(s:Shared) (u:Value),BindsTo s fd ⟨[u],[]⟩ [(x,u)]) :
  codeAny (model P w) callerA (.call (.ref fa) ⟨[.ref a],[]⟩) (fun r s'=>r=.ok (.ret (.bool true))/\OldK s₁.heap s'.heap/\s'.os=s₁.os/\AllBare s'.gens) s₁:=by
 have rv:=pJ hi;have lenV:=hi.length;have hl2:ns.length<=sizeLine:=MY hl (by decide);have tabAt:∀ {b:Addr},mP K b->s₁.heap.get? b=some (W.tabObj #[]):=fun ⟨x,hx,c,e⟩=>(LT.at_ x hx c _ e).2;obtain⟨so,ses,sep,hso0,hsod⟩:=hsys;have naT:¬mP K a:=fun z=>by have e:=tabAt z;rw[ha] at e;cases e
 have core:∀scr:Option HO,(∀ys,scr≠some (.lst ys))->SqL K (en K a so scr) a (ns.map V.int)->(∀u,scr=some u->(∃o xs,u=.frz o (.lst xs))/\ObjOk P w (en K a so scr) s₁.heap a u)->(scr≠none->K.lookup a=none) ->
   codeAny (model P w) callerA (.call (.ref fa) ⟨[.ref a],[]⟩) (fun r s'=>r=.ok (.ret (.bool true))/\OldK s₁.heap s'.heap/\s'.os=s₁.os/\AllBare s'.gens) s₁:=by
  intro scr hscr hS hso hK;have atA:en K a so scr a=scr:=MN rfl;have atT:∀ {b:Addr},mP K b->en K a so scr b=some (.tbl #[]):=fun {b} z=>by have:b≠a:=fun q=>naT (q ▸ z);exact(ML this).trans (MN z)
  have nsA:sysModules≠a:=fun z=>by rw[z,ha] at hso0;cases hso0;cases hsod
  have nsT:¬mP K sysModules:=fun z=>by have e:=tabAt z;rw[hso0] at e;cases e;cases hsod
  have atS:en K a so scr sysModules=some (.frz so (.own 0)):=(ML nsA).trans ((ML nsT).trans (MN rfl));have cs:∀b,en K a so scr b≠none->(b=a/\scr≠none)\/mP K b\/b=sysModules:=fun b z=>by
   by_cases h1:b=a
   ·exact .inl ⟨h1,by rw[h1,atA] at z;exact z⟩
   ·by_cases h2:mP K b
    ·exact .inr (.inl h2)
    ·by_cases h3:b=sysModules
     ·exact .inr (.inr h3)
     ·exact absurd ((ML h1).trans ((ML h2).trans (ML h3))) z
  have hok:HOk P w (en K a so scr) s₁.heap:=fun b u e=>by
   rcases cs b (by rw[e];simp) with⟨rfl,z⟩|z|rfl
   ·rw[atA] at e;exact(hso u e).2
   ·rw[atT z] at e;cases e;exact tabAt z
   ·rw[atS] at e;cases e;exact⟨hso0,_,hso0⟩
  have base_of:∀ {b:Addr}{o:Obj},s₁.heap.get? b=some o->en K a so scr b=none->(nv s₁.heap (en K a so scr)).get? b=some o:=fun e n=>Cq e n;have noD:∀ {b:Addr}{o:Obj},s₁.heap.get? b=some o->(∀its n,o.data≠.seq its n)->(∀qs,o.data≠.fields qs)->b≠sysModules->en K a so scr b=none:=fun {b o} e n1 n2 n3=>by
   cases q:en K a so scr b with
   | none=>rfl
   | some u =>
    rcases cs b (by rw[q];simp) with⟨rfl,_⟩|z|z
    ·rw[ha] at e;cases e;exact absurd rfl (n1 _ _)
    ·rw[tabAt z] at e;cases e;exact absurd rfl (n2 _)
    ·exact absurd z n3
  have nsK:∀ {b:Addr}{m:Str->Option Value},b≠sysModules->s₁.heap.Ns b m->(nv s₁.heap (en K a so scr)).Ns b m:=fun {b m} nb ⟨o,es,ep,e,d,r⟩=>⟨o,es,ep,base_of e (noD e (fun _ _ z=>by rw[d] at z;cases z) (fun _ z=>by rw[d] at z;cases z) nb),d,r⟩;have hKn:∀ {b:Addr}{o:Obj},K.lookup b=some o->en K a so scr b=none:=fun {b o} e=>by
   cases q:en K a so scr b with
   | none=>rfl
   | some u =>
    rcases cs b (by rw[q];simp) with⟨rfl,z⟩|⟨x,hx,c,z⟩|rfl
    ·rw[hK z] at e;cases e
    ·rw[(LK.at_ x hx c _ z).1] at e;cases e
    ·rw[LK.sys] at e;cases e
  have hKb:K.In (nv s₁.heap (en K a so scr)):=fun b o e=>base_of (KX b o e) (hKn e);have hM:Mod K mg (nv s₁.heap (en K a so scr)):=⟨hKb,nsK (by decide) hns,⟨mb,nsK (by decide) hb,hbb⟩,let ⟨mc,h1,h2⟩:=hlim;⟨mc,nsK (by decide) h1,h2⟩⟩;have e0:Env0 P w K mg (nv s₁.heap (en K a so scr)) callerA [] s₁ (en K a so scr):=⟨rfl,hM,fun b o e=>Do e,QR (xZ _ _),trivial,fun b hb=>absurd (show b∈([]:List Addr) from hb) (by simp),hok,.of_eq hg⟩;have hB:gY K mg (nv s₁.heap (en K a so scr)):=by
   refine⟨fun x hx c T e=>?_,?_⟩
   ·obtain⟨o,vs',file,tf,flags,tg,inF,text,tt,q,r⟩:=(LT.at_ x hx c T e).1;have kc:∃oc,K.lookup c=some oc:=by
     have e':=e;unfold W.tabIn at e';split at e'
     ·split at e'
      ·split at e'
       ·split at e'
        ·rename_i hh;split at e'
         ·cases e';exact⟨_,hh⟩
         ·cases e'
        ·cases e'
       ·cases e'
      ·cases e'
     ·cases e'
    obtain⟨oc,kc⟩:=kc;exact⟨o,vs',file,tf,flags,tg,inF,text,tt,base_of q (hKn kc),r⟩
   ·obtain⟨bm,ob,b1,b2,b3,b4,b5,b6⟩:=hbm;exact⟨bm,ob,b1,b2,base_of b3 (noD b3 (fun _ _ z=>by rw[b6] at z;cases z) (fun _ z=>by rw[b6] at z;cases z) fun z=>by rw[z,hso0] at b3;cases b3;rw[hsod] at b6;cases b6),b4,b5,b6⟩
  have tb:TB K (en K a so scr):=⟨fun x hx c T e=>⟨(LK.at_ x hx c T e).2,#[],atT ⟨x,hx,c,e⟩,trivial,fun pos cv q=>by cases q⟩,so,atS⟩;refine codeAny_mono ((F _ hKb (nsK (by decide) hns) hB).run callerA [] s₁ (en K a so scr) ⟨[.ref a],[]⟩ [.ref a] [.ref a] _ _ hr e0 (hbind s₁ (.ref a)) (.cons rfl .nil) (BY hl (by rw[atA];exact hscr) hS tb)) fun r s' h=>?_;cases r with
  | error e=>exact False.elim h
  | ok fl =>
   cases fl with
   | next=>exact False.elim h
   | brk=>exact False.elim h
   | cont=>exact False.elim h
   | ret u =>
    obtain⟨v,H',os,bare,un,hok',r',q⟩:=h;have q':v=.bl true:=q;subst q';obtain rfl:u=Value.bool true:=r';refine⟨rfl,⟨fun b o e=>?_,fun b o e=>un.there b o e (by simp)⟩,os,bare⟩;cases q:en K a so scr b with
    | none=>exact .inl (un.keep b o e q (by intro z;exact absurd (show b∈([]:List Addr) from z) (by simp)) (by simp))
    | some u =>
     rcases cs b (by rw[q];simp) with⟨rfl,z⟩|z|rfl
     ·rw[atA] at q;obtain⟨⟨ob,xs,rfl⟩,_⟩:=hso u q;have z1:en K b so scr b=some (.frz ob (.lst xs)):=by rw[atA];exact q
      have z2:=un.frzs b ob _ z1;obtain⟨e1,_⟩:=hok b _ z1;obtain⟨e2,_⟩:=hok' b _ z2;rw[e] at e1;cases e1;exact .inl e2
     ·obtain⟨more,z2⟩:=un.tbls b _ (atT z);have e1:=tabAt z;rw[e] at e1;cases e1;have e2:s'.heap.get? b=some { cls:=.none,data:=.fields (#[]++more) }:=hok' b _ z2;obtain⟨x,hx,c,et⟩:=z;have ht0:=(LT.at_ x hx c b et);exact .inr (.inl ⟨(ht0.1.tab ht0.2).isCodeTable,rfl,#[],more,rfl,e2⟩)
     ·have z2:=un.frzs _ _ _ atS;obtain⟨e2,_⟩:=hok' _ _ z2;rw[e] at hso0;cases hso0;exact .inl e2
 cases hk:K.lookup a with
 | some o =>have e:=KX a o hk;rw[ha] at e;cases e;refine core none (fun _ z=>nomatch z) (.inr ⟨_,vs.toArray,_,hk,rfl,rfl,rfl,by rw[M5,lenV];exact hl2,by simpa using rv⟩) (fun u z=>nomatch z) fun z=>absurd rfl z
 | none =>refine core (some (.frz { cls:=.type "list",data:=.seq vs.toArray } (.lst (ns.map V.int)))) (fun _ z=>nomatch z) (.inl (.inr ⟨{ cls:=.type "list",data:=.seq vs.toArray },MN rfl⟩)) (fun u z=>?_) fun _=>hk;cases z;exact⟨⟨_,_,rfl⟩,ha,by rw[ME];exact hl2,vs,_,rv,ha⟩
theorem walkF {l:W.OpenLaw}{YP:World->Heap->Prop}{d:DefRec}{K:Params->W.Frag}{x:Str}(hi:importsNone q=true)(hn:l.most=some 63)(hdf:d.params.defaults=[])(hr:Room k callerA)(hY:∀(w:World) (h:Heap),YP w h->(K w.params).In h)(F:∀(w:World) (mg:Str->Option Value) (fa:Addr) (h:Heap),(K w.params).In h->h.Ns mainGlobals mg->mg d.name=some (.ref fa) ->
   ∃fd:FuncData,(∀(s:Shared) (u:Value),BindsTo s fd ⟨[u],[]⟩ [(x,u)])/\Dn (K w.params)/\(∀x∈aW,W.tabIn (K w.params) x=none\/∃d,(recsOf q).find? (fun e=>e.name == x)=some d)/\∀base:Heap,(K w.params).In base->base.Ns mainGlobals mg->gY (K w.params) mg base->kW l.prog w (K w.params) mg base CX0 k fa fd [x] (bj (K w.params) iC)) :
  W.WalkO q loose XP YP l.row.toRowW d [] (fun f vs=>PySem.call f vs):=by
 refine Att.attach_call hn hdf fun w s₀ s₁ mg mb fa o pm cd doc a vs ns G Y ho hd hcd hmg hobj hints hlen hg=>?_;have KX:=hY w _ Y;obtain⟨fd,hb,hK,hq,hF⟩:=F w mg fa _ KX G.T.g hmg;obtain⟨mm,⟨so,es,ep,e1,e2,_⟩,_⟩:=(G.T.seer hi).mods;refine xU KX G.T.g G.T.b G.T.builtins G.T.nolimit hg ⟨so,es,ep,e1,e2⟩ ⟨fun x hx c T e=>?_⟩ hK G.T.bmain hobj hints hlen hr hF hb;rcases hq x hx with z|⟨d,r⟩
 ·rw[z] at e;cases e
 ·exact W.tab_of G.T KX r e
theorem Sub.refl (st:AH):Sub st st:=fun i _=>.inl rfl
theorem Sub.set {c:Cell}(h:Sub st st')(hc:c.bel 0=true):Sub st (st'.set n c):=fun i hi=>by
 by_cases e:n=i
 ·subst e;by_cases hl:n<st'.length
  ·exact .inr ⟨c,MW hl,hc⟩
  ·rw[List.set_eq_of_length_le (by omega)];exact h n hi
 ·rw[MH e];exact h i hi
theorem Tmp.same {st:AH}{Q:EK}{v:PV}(h:v.bel st.length=true)(q:Q v st):Tmp st Q v st:=⟨st,[],by simp,rfl,Sub.refl st,h,q⟩
theorem Tmp.app {st g:AH}{Q:EK}{v:PV}(h:v.bel st.length=true)(q:Q v st):Tmp st Q v (st++g):=⟨st,g,rfl,rfl,Sub.refl st,h,q⟩
theorem Ret.all {Q:EK}(q:Q v st'):Ret st Q v st':=.inl q
theorem ar1 {P:List Value->Prop}(h:∀a,P [a])(us:List Value)(hl:us.length=1):P us:=by
 match us,hl with
 | [a],_=>exact h a
theorem ar2 {P:List Value->Prop}(h:∀a b,P [a,b])(us:List Value)(hl:us.length=2):P us:=by
 match us,hl with
 | [a,b],_=>exact h a b
theorem ar3 {P:List Value->Prop}(h:∀a b c,P [a,b,c])(us:List Value)(hl:us.length=3):P us:=by
 match us,hl with
 | [a,b,c],_=>exact h a b c
theorem ar4 {P:List Value->Prop}(h:∀a b c d,P [a,b,c,d])(us:List Value)(hl:us.length=4):P us:=by
 match us,hl with
 | [a,b,c,d],_=>exact h a b c d
theorem ar5 {P:List Value->Prop}(h:∀a b c d e,P [a,b,c,d,e])(us:List Value)(hl:us.length=5):P us:=by
 match us,hl with
 | [a,b,c,d,e],_=>exact h a b c d e
abbrev DI (K:W.Frag)(x:Str)(st:Stmt):Prop:=∃(f:Addr) (oc:Value) (od:Option Addr) (kV dc pm:Value) (an:Option Addr) (cd ct:Value) (sl:Array (Option Value)),W.nsIn K mainGlobals x=some (some (.ref f))/\K.lookup f=some ⟨oc,od,.func (W.fnOf x x (aY st) (ah st) (ae st) .none kV dc pm an cd ct),sl⟩/\W.codeIn K cd x=true/\W.keepIn K (.ref f)=true
theorem DI_mk {st:Stmt}{kV dc pm:Value}{an:Option Addr}{cd ct:Value}(a:W.nsIn K mainGlobals x=some (some (.ref f)))(l:K.lookup f=some ⟨oc,od,.func (W.fnOf x x (aY st) (ah st) (ae st) .none kV dc pm an cd ct),sl⟩)(c:W.codeIn K cd x=true)(k:W.keepIn K (.ref f)=true):DI K x st:=⟨f,oc,od,kV,dc,pm,an,cd,ct,sl,a,l,c,k⟩
theorem GOk.nx {Γ:Nat->FSp}{c':Cfg}{code:Ss}(G:GOk P w K mg base c Γ)(X:K.In h)(Gn:h.Ns mainGlobals mg)(d:DI K x st)(S:ak N ps (ae st))(hc:aD c code (ah st)=true)(len:∀ {as st Q},sp as st Q->as.length=ps.length)(hw:∀ {as st Q},sp as st Q->az Γ code (frame N.length as) st (aj st Q))(hb:∀(kV doc pm:Value) (an:Option Addr) (cdv ct:Value) (us:List Value),us.length=ps.length->bindArgs (W.fnOf x x (aY st) (ah st) (ae st) .none kV doc pm an cdv ct) ⟨us,[]⟩=pure (ps.zip us))(hN:c.N=N:=by rfl)(hn:c.names=(ae st).names:=by rfl)(hpc:c.pc=false:=by rfl)(hhm:c.hm=none:=by rfl)(h1:c'.fns=c.fns:=by rfl)(h2:c'.lim=c.lim+1:=by rfl)(h3:c'.blts=c.blts:=by rfl)(h4:c'.gl=c.gl:=by rfl)(hx:c.fns[c.lim]?=some x:=by rfl)(hs:Γ c.lim=sp:=by rfl):GOk P w K mg base c' Γ:=by
 obtain⟨f,oc,od,kV,dc,pm,an,cd,ct,sl,a,l,cc,k⟩:=d;subst hs;exact G.next h1 h2 h3 h4 hx (Ht (At.mk' X Gn hb a l cc k) S hN hn hc G (fun _ _ _=>len) (fun _ _ _=>hw) hpc hhm)
end FW
namespace FW
open L2 HX
section
variable {P:Program}{w:World}{K:W.Frag}{mg:Str->Option Value}{base:Heap}{c:Cfg}{Γ:Nat->FSp}
theorem yD (F:At K mg x st ps):Has P w K mg base k x ps (bj K fun _ _ _=>False):=by obtain⟨f,fd,Ff,m,b⟩:=F.ex;exact⟨f,fd,⟨fun vs H Q E ⟨_,_,_,_,_,z⟩=>z.elim,fun A outer s H args us vs Q E _ _ _ _ ⟨_,_,_,_,_,z⟩=>z.elim⟩,m,Ff.kp,b⟩
theorem zL {k:Nat}{name qual:Str}{params:Arguments}{body:List Stmt}{scope:Scope}{dV kV doc pm cdv ct:Value}{an:Option Addr}{vs:List V}{Q:VK}{E:XK}(lk:K.lookup f=some ⟨oc,od,.func (W.fnOf name qual params body scope dV kV doc pm an cdv ct),osl⟩)(hcd:W.codeIn K cdv qual=true)(S:ak N ps scope)(hl:vs.length=ps.length)(hr:Room (k+1) A)(e0:Env0 P w K mg base A outer s H)(hb:BindsTo s (W.fnOf name qual params body scope dV kV doc pm an cdv ct) args (ps.zip us))(r:Vals vs us)(hbody:Room k (A.deeper (envOfC qual scope s.heap.objs.size f cdv))->∃t,PSs (dv CX P w K mg base N qual scope f cdv A outer s H E) body t/\t { nx:=fun _ H'=>Q .non H',rt:=Q } (start N vs) H) :
  codeAny (model P w) A (.call (.ref f) args) (CR CX outer P w H s Q E) s:=by
 have KX:K.In s.heap:=e0.mod.kin.keeps fun b o e=>(e0.bs b o e).1;have lim:s.heap.NoLimit:=e0.mod.nolimit.keeps fun b o e=>(e0.bs b o e).1;have hkind:∀y∈ps.zip us,scope.names.lookup y.1=some .local\/(scope.names.lookup y.1=some .cell/\((cellsFrom (s.heap.objs.size+1) scope.names []).lookup y.1).isSome=true):=fun ⟨n,v⟩ hy=>by
  rcases S.par n (ON hy).1 with q|q
  ·exact .inl q
  ·exact .inr ⟨q,QA _ _ _ (.inl q)⟩
 refine codeAny_call_function hr.depth (KX _ _ lk) rfl S.co S.gen rfl (W.codeRec_of KX hcd) (hb _ _ _ _ ?_);refine wpAny_newFunctionEnv_cells S.kind hkind fun env he s1 x=>?_;subst he;refine⟨lim.keeps x.toInCall.keep,codeAny_func ?_⟩;obtain⟨t,ht,hq⟩:=hbody (hr.deeper _);have I:L2.Inv (dv CX P w K mg base N qual scope f cdv A outer s H E) [] (start N vs) H s1:=pH S hr.hd e0 hl r x;refine wpAny_mono (ht [] s1 (start N vs) H _ I hq) (fun fl s' hs=>?_) fun e s' hs=>hs;have fin:∀ {σ':L2.St}{H':Hp}{v:V}{u:Value},L2.Inv (dv CX P w K mg base N qual scope f cdv A outer s H E) [] σ' H' s'->RelV v u->Q v H'->CE outer P w H s Q u s' :=
  fun {σ' H' v u} J rv q=>⟨v,H',J.os,J.bare,J.base,J.hok,rv,q⟩
 cases fl with
 | ret u =>obtain⟨v,σ',H',J,rv,q⟩:=hs;exact fin J rv q
 | next =>obtain⟨σ',H',J,q⟩:=hs;exact fin (v:=V.non) (u:=Value.none) J rfl q
 | brk =>obtain⟨_,_,_,q⟩:=hs;exact False.elim q
 | cont =>obtain⟨_,_,_,q⟩:=hs;exact False.elim q
noncomputable def ΓP (Γ:Nat->FSp)(a:Nat)(cs:List V)(g:Nat):Nat->FSp:=fun i=>if i=1000 then (fun as st Q=>∃ds x y,as=[.clo a cs ds,x,y]/\Γ g (ds++[x,y]) st Q) else Γ i
theorem gW (G:aJ Γ):aJ (ΓP Γ a cs g):=fun f vs st Q Q' h q=>by
 unfold ΓP at q |-
 by_cases e:f=1000
 ·rw[MN e] at q |-
  obtain⟨ds,x,y,e,q⟩:=q;exact⟨ds,x,y,e,G _ _ _ _ _ h q⟩
 ·rw[ML e] at q |-
  exact G _ _ _ _ _ h q
theorem Gg:ΓP Γ a cs g 1000=fun as st Q=>∃ds x y,as=[.clo a cs ds,x,y]/\Γ g (ds++[x,y]) st Q:=MN rfl
theorem KO {code:Ss}(F:At K mg x st ps)(S:ak N ps (ae st))(hps:ps.length=4)(hN:c.N=N)(hn:c.names=(ae st).names)(hc:aD c code (ah st)=true)(G:GOk P w K mg base c Γ)(hlim:c.lim<=1000)(hhm:c.hm=none)(h:∀(a:Nat) (cs:List V) as st Q,(∃x y ds z,as=[x,y,.clo a cs ds,z])->Γ f as st Q->az (ΓP Γ a cs g) code (frame N.length as) st (aj st Q)):AC P w K mg base c.lim f g x Γ:=by
 obtain⟨fa,fd,Ff,m,b⟩:=F.ex;obtain⟨oc,od,kV,doc,pm,an,cdv,ct,osl,rfl,lk,hcd⟩:=Ff.ex;refine⟨fa,_,ps,m,Ff.kp,hps,b,fun a cs A outer s H args us vs Q hr e0 hb r LH ⟨m0,st',as,r1,r2,h4,q⟩=>?_⟩;have hlen:vs.length=ps.length:=by rw[<-r1.len,hps];obtain⟨x,y,ds,z,rfl⟩:=h4;rfl
 have GL:GOk P w K mg base c (ΓP Γ a cs g):=⟨fun f x hf e=>by have:ΓP Γ a cs g f=Γ f:=ML (by omega);rw[this];exact G.fn f x hf e,G.blt,G.gl,gW G.mono⟩
 refine zL lk hcd S hlen hr e0 hb r fun hroom=>?_;have C:=j5 (x:=x) (f:=fa) (cdv:=cdv) (A:=A) (s:=s) (E:=E0) (H:=H) (outer:=outer) (Γ:=ΓP Γ a cs g) S hN hn hroom GL (fun _ {pins σ H2 s2 b us vs Q} I rv hs=>?_) fun k z=>by rw[hhm] at z;cases z
 ·have T:=iu C code _ hc;exact⟨_,PSs.nox T,m0,frame N.length as,st',fE r1,r2,aH GL.mono code (by exact⟨fun ρ st2 k m' H' σ' e r f=>bQ r2 k m' H' .non e r (R_non.mpr rfl),fun v st2 k=>bQ r2 k,fun _ _ k=>k.elim,fun _ _ k=>k.elim⟩) (h a cs as st' _ h4 q)⟩
 ·obtain⟨m1,st1,bs,q1,q2,q3⟩:=hs;rw[Gg] at q3;obtain⟨ds,x1,y1,rfl,q3⟩:=q3;obtain⟨v1,v2,rfl⟩:∃v1 v2,vs=[v1,v2]:=by
   have:=q1.len
   match vs,this with
   | [v1,v2],_=>exact⟨v1,v2,rfl⟩
  rw[Rs_cons',R_clo] at q1;obtain⟨⟨q4,q5⟩,q6⟩:=q1;cases q4;obtain⟨z1,z2⟩:=LH _ _ s2 H2 us [v1,v2] Q rfl hroom I.env0 I.base rv ⟨m1,st1,ds++[x1,y1],q5.app q6,q2,q3⟩;refine⟨z1,wpAny_call (codeAny_mono z2 fun r s' hq=>?_)⟩;cases r with
  | error e=>exact False.elim hq
  | ok fl =>
   cases fl with
   | ret u=>exact I.after hq
   | next=>exact False.elim hq
   | brk=>exact False.elim hq
   | cont=>exact False.elim hq
theorem C9 {st:Stmt}{code:Ss}{c0:Addr}{an:Option Addr}{kV doc pm cdv ct:Value}(a:W.nsIn K mainGlobals x=some (some (.ref f)))(l:K.lookup f=some ⟨oc,od,.func (W.fnOf x x (aY st) (ah st) (ae st) .none kV doc pm an cdv ct),osl⟩)(t:W.tabIn K x=some (c0,T))(hx:x∈aW)(B:gY K mg base)(F:At K mg x st ps)(cc:W.codeIn K cdv x=true)(hmg:mg x=some (.ref f))(S:ak N ps (ae st))(hN:c.N=N)(hn:c.names=(ae st).names)(hc:aD c code (ah st)=true)(G:GOk P w K mg base c Γ)(hm:∀k,c.hm=some k->(k.2=none->JQ P w K mg base (k.1+1))/\∀t,k.2=some t->AC P w K mg base (k.1+1) t.1 t.2.1 t.2.2 Γ)(len:∀as st Q,sp as st Q->as.length=ps.length)(h:∀as st Q,sp as st Q->az Γ code (frame N.length as) st (aj st Q))(hpc:c.pc=false:=by rfl):Has P w K mg base (c.lim+1) x ps (bj K sp):=by
 have hcv:cdv=.ref c0:=by
  unfold W.tabIn at t;rw[a] at t;simp only[l] at t;cases cdv with
  | ref c1 =>
   simp only at t;split at t
   ·split at t
    ·cases t;rfl
    ·cases t
   ·cases t
  | _=>cases t
 subst hcv;obtain⟨f',fd,Ff,m,b⟩:=F.ex;rw[hmg] at m;cases m;obtain⟨oc',od',kV',doc',pm',an',cdv',ct',osl',rfl,lk',hcd'⟩:=Ff.ex;have e:=lk'.symm.trans l;refine⟨f,_,y9 lk' hcd' S (fun vs H Q E ⟨m,st,as,r1,r2,q⟩=>by rw[<-r1.len];exact len as st _ q) fun A outer s H vs Q E hr ⟨m,st',as,r1,r2,q⟩=>?_,hmg,Ff.kp,b⟩;have C:=j5 (x:=x) (f:=f) (cdv:=cdv') (A:=A) (s:=s) (E:=E) (H:=H) (outer:=outer) (Γ:=Γ) S hN hn hr G (fun z=>by rw[hpc] at z;cases z) fun k z =>
  ⟨(hm k z).1,(hm k z).2,⟨x,c0,T,hx,t,by show cdv'=.ref c0;injection e with e;injection e with _ _ e3 _;injection e3 with e3;injection e3,rfl,B.hd x hx c0 T t⟩,B.bm⟩
 refine⟨_,PSs.nox (iu C code _ hc),m,frame N.length as,st',fE r1,r2,aH G.mono code ?_ (h as st' _ q)⟩;exact⟨fun ρ st2 k m' H' σ' e r f=>bQ r2 k m' H' .non e r (R_non.mpr rfl),fun v st2 k=>bQ r2 k,fun _ _ k=>k.elim,fun _ _ k=>k.elim⟩
theorem IK {c0:Addr}{an:Option Addr}{as:Arguments}{b:List Stmt}{sc:Scope}{dV kV doc pm ct:Value}(a:W.nsIn K mainGlobals x=some (some (.ref f)))(l:K.lookup f=some ⟨oc,od,.func (W.fnOf x x as b sc dV kV doc pm an (.ref c0) ct),osl⟩)(tc:K.lookup c0=some ⟨o1,o2,.fields vs,o3⟩)(tv:vs[11]?=some (.ref T)) :
  W.tabIn K x=some (c0,T):=by
 unfold W.tabIn;rw[a];simp only[l,tc,tv]
theorem uC (z:W.nsIn K mainGlobals x=some none):W.tabIn K x=none:=by unfold W.tabIn;rw[z]
theorem D4 (hs:K.lookup sysModules=none)(h:∀x∈aW,W.tabIn K x=none\/∃c T,W.tabIn K x=some (c,T)/\K.lookup T=none/\∀y∈aW,y≠x->∀d,W.tabIn K y≠some (d,T)):Dn K:=⟨hs,fun x hx c T e=>by
 rcases h x hx with z|⟨c',T',z,n,u⟩
 ·rw[z] at e;cases e
 ·rw[z] at e;cases e;exact⟨n,fun y hy d ed=>NY fun q=>u y hy q d ed⟩⟩
end
end FW
namespace FW
open L2 HX
section
variable {Γ:Nat->FSp}{ρ:Fr}{st:AH}{Q:EK}{D:aC}{a b c:E}{es:Es}
noncomputable def aft (Γ:Nat->FSp)(ss:Ss)(D:aC):aC:={ D with nx:=fun ρ' st'=>az Γ ss ρ' st' D }
noncomputable def LD (I:Fr->AH->Prop)(D:aC):aC:={ nx:=I,ct:=I,bk:=D.nx,rt:=D.rt }
def Im (Γ:Nat->FSp)(t:Tg)(b:Ss)(chk:AH->Prop)(D:aC)(xs:List PV)(ρ:Fr)(st:AH):Prop:=gk chk (fun x ρ' st' D'=>bt Γ t x ρ' st' fun ρ2 st2=>az Γ b ρ2 st2 D') D xs ρ st
def Ks (Γ:Nat->FSp)(c:E)(b:Ss)(D:aC)(ρ:Fr)(st:AH):Prop:=∃n,dS (wpT Γ c) (az Γ b) D n ρ st
def B7 (Γ:Nat->FSp)(elt:E)(tg:Tg)(ifs:Es)(chk:AH->Prop)(ρ:Fr)(xs:List PV)(st:AH)(Q:LK):Prop :=
 ef chk (fun x st2 k=>bt Γ tg x ρ st2 fun ρ' st3=>gu Γ ifs ρ' st3 fun c st4=>if c=true then wpE Γ elt ρ' st4 fun v st5=>k (some v) st5 else k none st4) xs [] st Q
theorem Ab:(aft Γ ss D).nx ρ st=az Γ ss ρ st D:=rfl
theorem CH:(aft Γ ss D).rt v st=D.rt v st:=rfl
theorem An:(aft Γ ss D).bk ρ st=D.bk ρ st:=rfl
theorem CP:(aft Γ ss D).ct ρ st=D.ct ρ st:=rfl
theorem wA:(aft Γ ss D).rt=D.rt:=rfl
theorem E1:(LD I D).nx ρ st=I ρ st:=rfl
theorem ER:(LD I D).ct ρ st=I ρ st:=rfl
theorem Fs:(LD I D).bk ρ st=D.nx ρ st:=rfl
theorem Gm:(LD I D).rt v st=D.rt v st:=rfl
theorem zN:(LD I D).rt=D.rt:=rfl
theorem Fy:(aj st0 Q).nx ρ st=Ret st0 Q .non st:=rfl
theorem Gv:(aj st0 Q).rt v st=Ret st0 Q v st:=rfl
theorem AV:(aj st0 Q).rt=Ret st0 Q:=rfl
theorem vM:az Γ (.cons s (.cons s2 ss)) ρ st D=wpS Γ s ρ st (aft Γ (.cons s2 ss) D):=rfl
theorem wB:wpS Γ (.whileS c x) ρ st D=Ks Γ c x D ρ st:=rfl
theorem E_:wpS Γ (.forS t it x) ρ st D=iJ Γ it ρ st fun xs chk st1=>Im Γ t x chk D xs ρ st1:=rfl
theorem CN {nt:List Str}{caps:List Nat}:wpE Γ (.comp a tg it ifs nt caps) ρ st Q=iJ Γ it ρ st fun xs chk st1 =>
  xs.length<100000/\B7 Γ a tg ifs chk (nt.map (fun _=>none)++caps.map fun i=>(ρ[i]?).join) xs st1 fun vs st2=>Q (.ref st2.length) (st2++[.lst vs]):=rfl
theorem zw:wpS Γ (.forK t wk e x) ρ st D=wpE Γ e ρ st fun v st1=>∃n,v=.ref n/\∃kvs,st1[n]?=some (.dk kvs)/\Im Γ t x (fun _=>True) (fzD n kvs D) (cH wk kvs) ρ (st1.set n (.fz kvs)):=rfl
theorem zD:(fzD n kvs D).nx ρ st=(st[n]?=some (.fz kvs)/\D.nx ρ (st.set n (.dk kvs))):=rfl
theorem for_by (G:aJ Γ){t:Tg}{b:Ss}{chk:AH->Prop}{D:aC}(I:Nat->Fr->AH->Prop){xs:List PV}{ρ:Fr}{st:AH}(h0:I 0 ρ st)
  (hs:∀i x ρ st,xs[i]?=some x->I i ρ st->chk st/\bt Γ t x ρ st (fun ρ2 st2=>az Γ b ρ2 st2 (LD (I (i+1)) D)))
  (hd:∀ρ st,I xs.length ρ st->chk st/\D.nx ρ st):Im Γ t b chk D xs ρ st:=by
 have key:∀(k i:Nat) (ρ:Fr) (st:AH),i+k=xs.length->I i ρ st->gk chk (fun x ρ' st' D'=>bt Γ t x ρ' st' fun ρ2 st2=>az Γ b ρ2 st2 D') D (xs.drop i) ρ st:=by
  intro k
  induction k with
  | zero =>
   intro i ρ st hi h;have:i=xs.length:=by omega
   subst this;rw[List.drop_length];exact hd ρ st h
  | succ k ih =>
   intro i ρ st hi h;have hlt:i<xs.length:=by omega
   rw[OI hlt];obtain⟨h1,h2⟩:=hs i xs[i] ρ st (by simp[hlt]) h;refine⟨h1,aG G t (fun ρ2 st2 k2=>aH G b ?_ k2) h2⟩;exact⟨fun ρ3 st3 z=>ih (i+1) ρ3 st3 (by omega) z,fun _ _ z=>z,fun _ _ z=>z,fun ρ3 st3 z=>ih (i+1) ρ3 st3 (by omega) z⟩
 have:=key xs.length 0 ρ st (by omega) h0
 rwa [QM] at this
theorem hX {c:Fr->AH->BK->Prop}{body:Fr->AH->aC->Prop}{D:aC}(hc:∀ρ st Q Q',(∀b st,Q b st->Q' b st)->c ρ st Q->c ρ st Q')(hb:∀ρ st D D',gD D D'->body ρ st D->body ρ st D') :
  ∀ {n k:Nat}{ρ:Fr}{st:AH},n<=k->dS c body D n ρ st->dS c body D k ρ st
 | 0,k,ρ,st,_,h=>h.elim
 | n+1,0,ρ,st,hk,h=>absurd hk (by omega)
 | n+1,k+1,ρ,st,hk,h=>by
  refine hc _ _ _ _ (fun b st1 z=>?_) h;cases b with
  | false=>exact z
  | true =>
   rw[MN rfl] at z |-
   refine hb _ _ _ _ ?_ z;exact⟨fun _ _ z=>hX hc hb (by omega) z,fun _ _ z=>z,fun _ _ z=>z,fun _ _ z=>hX hc hb (by omega) z⟩
theorem while_by (G:aJ Γ){c:E}{b:Ss}{D:aC}(I:Nat->Fr->AH->Prop){n:Nat}{ρ:Fr}{st:AH}(h0:I n ρ st)
  (hs:∀n ρ st,I n ρ st->wpT Γ c ρ st (fun k st1=>if k=true then az Γ b ρ st1 (LD (fun ρ' st'=>∃m,m<n/\I m ρ' st') D) else D.nx ρ st1)):Ks Γ c b D ρ st:=by
 have hc:∀ρ st Q Q',(∀b st,Q b st->Q' b st)->wpT Γ c ρ st Q->wpT Γ c ρ st Q':=fun _ _ _ _ hk z=>aM G c hk z;have hb:∀ρ st D D',gD D D'->az Γ b ρ st D->az Γ b ρ st D':=fun _ _ _ _ hk z=>aH G b hk z;have key:∀(k n:Nat),n<k->∀(ρ:Fr) (st:AH),I n ρ st->dS (wpT Γ c) (az Γ b) D (n+1) ρ st:=by
  intro k
  induction k with
  | zero=>intro n hn;exact absurd hn (by omega)
  | succ k ih =>
   intro n hn ρ st h;refine hc _ _ _ _ (fun q st1 z=>?_) (hs n ρ st h);cases q with
   | false=>exact z
   | true =>
    rw[MN rfl] at z |-
    refine hb _ _ _ _ ?_ z;exact⟨fun ρ' st' ⟨m,hm,z⟩=>hX hc hb (by omega) (ih m (by omega) ρ' st' z),fun _ _ z=>z,fun _ _ z=>z,fun ρ' st' ⟨m,hm,z⟩=>hX hc hb (by omega) (ih m (by omega) ρ' st' z)⟩
 exact⟨_,key (n+1) n (by omega) ρ st h0⟩
end
section
variable {Γ:Nat->FSp}
theorem gR (G:aJ Γ){chk:AH->Prop}{ρ:Fr}{Q:LK}(I:Nat->List PV->AH->Prop)(h0:I 0 [] st)(hs:∀i x acc st,xs[i]?=some x->I i acc st->chk st/\bt Γ tg x ρ st fun ρ' st3=>gu Γ ifs ρ' st3 fun c st4=>if c=true then wpE Γ elt ρ' st4 fun v st5=>I (i+1) (acc++[v]) st5 else I (i+1) acc st4)(hd:∀acc st,I xs.length acc st->chk st/\Q acc st):B7 Γ elt tg ifs chk ρ xs st Q:=by
 have key:∀(k i:Nat) (acc:List PV) (st:AH),i+k=xs.length->I i acc st->ef chk (eN Γ elt tg ifs ρ) (xs.drop i) acc st Q:=by
  intro k
  induction k with
  | zero =>
   intro i acc st hi h;have:i=xs.length:=by omega
   subst this;rw[List.drop_length];exact hd acc st h
  | succ k ih =>
   intro i acc st hi h;have hlt:i<xs.length:=by omega
   rw[OI hlt];obtain⟨h1,h2⟩:=hs i xs[i] acc st (by simp[hlt]) h;refine⟨h1,aG G tg (fun ρ2 st2 k2=>bZ G ifs (fun c st4 k4=>?_) k2) h2⟩;cases c with
   | true=>rw[MN rfl] at k4 |-;exact aa G elt (fun v st5 z=>ih (i+1) _ st5 (by omega) z) k4
   | false=>rw[ML MA] at k4 |-;simpa using ih (i+1) _ st4 (by omega) k4
 have:=key xs.length 0 [] st (by omega) h0;rw[QM] at this;exact this
end
section
variable {st:AH}{Q:EK}{i j:Int}{n k:Nat}{xs ys:List PV}{x y v:PV}{b b':Bool}{s s':Str}{kB:Bool->Prop}{BQ:BK}
theorem F9:j7 .Add (.int i) (.int j) st Q=Q (.int (i+j)) st:=rfl
theorem FR:j7 .Sub (.int i) (.int j) st Q=Q (.int (i-j)) st:=rfl
theorem Fu:j7 .Mult (.int i) (.int j) st Q=(CMB i j/\Q (.int (i*j)) st):=rfl
theorem FE:j7 .FloorDiv (.int i) (.int j) st Q=(CBig j/\Q (.int (i/j)) st):=rfl
theorem E6:j7 .Mod (.int i) (.int j) st Q=(0<j/\Q (.int (i % j)) st):=rfl
theorem E7:j7 .Pow (.int i) (.int j) st Q=(D7 i j/\Q (.int (i ^ j.toNat)) st):=rfl
theorem Cv:j7 .Add (.ref n) (.ref k) st Q=∃xs ys,st[n]?=some (.lst xs)/\st[k]?=some (.lst ys)/\xs.length+ys.length<=100000/\Q (.ref st.length) (st++[.lst (xs++ys)]):=rfl
theorem Jp:eB .Eq x y st Q=eqW st x y fun k=>Q (.bl k) st:=rfl
theorem Ju:eB .NotEq x y st Q=eqW st x y fun k=>Q (.bl (!k)) st:=rfl
theorem F_:eB .Is x .non st Q=Q (.bl (gc x)) st:=rfl
theorem Fq:eB .Is x (.bl b) st Q=Q (.bl (k6 b x)) st:=rfl
theorem zK:eB .IsNot x .non st Q=Q (.bl (!gc x)) st:=rfl
theorem Cz:eB .IsNot x (.bl b) st Q=Q (.bl (!k6 b x)) st:=rfl
theorem JM:eB .Lt (.int i) (.int j) st Q=Q (.bl (decide (i<j))) st:=rfl
theorem K3:eB .Gt (.int i) (.int j) st Q=Q (.bl (decide (j<i))) st:=rfl
theorem KL:eB .GtE (.int i) (.int j) st Q=Q (.bl (decide (j<=i))) st:=rfl
theorem FA:eqW st (.int i) (.int j) kB=kB (decide (i=j)):=rfl
theorem GI:eqW st (.bl b) (.bl b') kB=kB (decide (b=b')):=rfl
theorem EY:eqW st (.str s) (.str s') kB=kB (decide (s=s')):=rfl
theorem pk:gc .non=true:=rfl
theorem rV:gc (.bl b)=false:=rfl
theorem oi:gc (.int i)=false:=rfl
theorem oX:gc (.str s)=false:=rfl
theorem ou:gc (.tup xs)=false:=rfl
theorem ph:gc (.ref n)=false:=rfl
theorem wu:k6 true (.bl true)=true:=rfl
theorem xb:k6 true (.bl false)=false:=rfl
theorem vQ:k6 false (.bl true)=false:=rfl
theorem wQ:k6 false (.bl false)=true:=rfl
theorem rM:k6 b (.int i)=false:=rfl
theorem tI:k6 b .non=false:=rfl
theorem tK:k6 b (.tup xs)=false:=rfl
theorem oB:b9 st (.tup xs)=some xs:=rfl
theorem og:b9 st (.rdl xs)=some xs:=rfl
theorem mK:bp st (.rdl xs)=some xs:=rfl
theorem cq (h:st[n]?=some (.lst xs)):bp st (.ref n)=some xs:=by simp[bp,h]
theorem ao (h:st[n]?=some (.lst xs)):b9 st (.ref n)=some xs:=by simp[b9,bp,h]
theorem n9:pq st .non=some "NoneType":=rfl
theorem tO:pq st (.bl b)=some "bool":=rfl
theorem oz:pq st (.int i)=some "int":=rfl
theorem oH:pq st (.str s)=some "str":=rfl
theorem oS:pq st (.tup xs)=some "tuple":=rfl
theorem pB:pq st (.rdl xs)=some "list":=rfl
theorem ES {z:Str}:ixW (.str z) (.int i) st Q=(z.length<=100000/\∃c,atI z.cps.toList i=some c/\Q (.str ⟨#[c]⟩) st):=rfl
theorem Ew:ixW (.tup xs) (.int i) st Q=∃v,atI xs i=some v/\Q v st:=propext ⟨fun ⟨ys,e,q⟩=>by cases e;exact q,fun q=>⟨xs,rfl,q⟩⟩
theorem GJ:ixW (.rdl xs) (.int i) st Q=∃v,atI xs i=some v/\Q v st:=propext ⟨fun ⟨ys,e,q⟩=>by cases e;exact q,fun q=>⟨xs,rfl,q⟩⟩
theorem Gf:ixW (.ref n) (.int i) st Q=∃xs,b9 st (.ref n)=some xs/\∃v,atI xs i=some v/\Q v st:=rfl
theorem ow:atI (x::xs) 0=some x:=dF (j:=0) rfl
theorem lS:atI (x::y::xs) 1=some y:=dF (j:=1) rfl
theorem vY:atI (x::y::v::xs) 2=some v:=dF (j:=2) rfl
theorem vK {u:PV}:atI (x::y::v::u::xs) 3=some u:=dF (j:=3) rfl
theorem FL:ixW (.tup (x::xs)) (.int 0) st Q=Q x st:=propext ⟨fun ⟨ys,e,w,e2,q⟩=>by cases e;rw[ow] at e2;cases e2;exact q,fun q=>⟨_,rfl,_,ow,q⟩⟩
theorem E5:ixW (.tup (x::y::xs)) (.int 1) st Q=Q y st:=propext ⟨fun ⟨ys,e,w,e2,q⟩=>by cases e;rw[lS] at e2;cases e2;exact q,fun q=>⟨_,rfl,_,lS,q⟩⟩
theorem Fe:ixW (.tup (x::y::v::xs)) (.int 2) st Q=Q v st:=propext ⟨fun ⟨ys,e,w,e2,q⟩=>by cases e;rw[vY] at e2;cases e2;exact q,fun q=>⟨_,rfl,_,vY,q⟩⟩
theorem Fg {u:PV}:ixW (.tup (x::y::v::u::xs)) (.int 3) st Q=Q u st:=propext ⟨fun ⟨ys,e,w,e2,q⟩=>by cases e;rw[vK] at e2;cases e2;exact q,fun q=>⟨_,rfl,_,vK,q⟩⟩
theorem Fl:slW (.tup xs) lo hi st Q=Q (.tup (rg xs lo hi)) st:=rfl
theorem FY:slW (.rdl xs) lo hi st Q=Q (.ref st.length) (st++[.lst (rg xs lo hi)]):=by simp[slW,bp]
theorem Gq {z:Str}:slW (.str z) lo hi st Q=(z.length<=100000/\Q (.str (Dx z lo hi)) st):=rfl
theorem Ey:slW (.ref n) lo hi st Q=∃xs,bp st (.ref n)=some xs/\Q (.ref st.length) (st++[.lst (rg xs lo hi)]):=rfl
theorem BV {z:Str}:eT .len [.str z] st Q=(z.length<=100000/\Q (.int z.length) st):=rfl
theorem Fj:smW .join (.str z) y st Q=∃ss:List Str,bp st y=some (ss.map PV.str)/\JoinOk z ss=true/\Q (.str (Txt.join z ss)) st:=rfl
theorem EC:eB .In (.str a) (.tup xs) st Q=∃ns:List Str,xs=ns.map PV.str/\Q (.bl (ns.any fun j=>j == a)) st:=rfl
theorem Fd:eB .NotIn (.str a) (.tup xs) st Q=∃ns:List Str,xs=ns.map PV.str/\Q (.bl (!(ns.any fun j=>j == a))) st:=rfl
theorem EB:eB .In (.str a) (.ref n) st Q=inR a n st fun k=>Q (.bl k) st:=rfl
theorem F4:eB .NotIn (.str a) (.ref n) st Q=inR a n st fun k=>Q (.bl (!k)) st:=rfl
theorem FS:ixW (.ref n) (.str z) st Q=∃kvs v,(st[n]?=some (.dk kvs)\/st[n]?=some (.fz kvs))/\bW kvs (.inr z)=some v/\Q v st:=rfl
theorem CM:pS (.ref n) (.str z) v st kS=∃kvs,st[n]?=some (.dk kvs)/\kvs.length<=1000/\kS (st.set n (.dk (ie kvs (.inr z) v))):=rfl
theorem Bu:eT .len [.tup xs] st Q=Q (.int xs.length) st:=propext ⟨fun ⟨ys,e,q⟩=>by cases e;exact q,fun q=>⟨xs,rfl,q⟩⟩
theorem AJ:eT .len [.rdl xs] st Q=Q (.int xs.length) st:=propext ⟨fun ⟨ys,e,q⟩=>by cases e;exact q,fun q=>⟨xs,rfl,q⟩⟩
theorem A3:eT .len [.ref n] st Q=∃xs,b9 st (.ref n)=some xs/\Q (.int xs.length) st:=rfl
theorem Gi:eT .max2 [.int i,.int j] st Q=Q (.int (if i<j then j else i)) st:=rfl
theorem tW:eT .divmod [.int i,.int j] st Q=(CBig j/\Q (.tup [.int (i/j),.int (i % j)]) st):=rfl
theorem BU:eT .tuple1 [.tup xs] st Q=Q (.tup xs) st:=propext ⟨fun ⟨ys,e,q⟩=>by cases e;exact q,fun q=>⟨xs,rfl,q⟩⟩
theorem AX:eT .tuple1 [.ref n] st Q=∃xs,b9 st (.ref n)=some xs/\Q (.tup xs) st:=rfl
theorem EL:eT .all1 [x] st Q=∃xs bs,bp st x=some xs/\iy xs=some bs/\Q (.bl (bs.all id)) st:=rfl
theorem v_:eT .sortD [.ref n] st Q=∃kvs,(st[n]?=some (.dk kvs)\/st[n]?=some (.fz kvs))/\∃ss:List Str,kvs.map (·.1)=ss.map Sum.inr/\ss.length<64/\∀ss':List Str,ss'.Perm ss->PyProof.Rows.sortedS ss'=true->Q (.ref st.length) (st++[.lst (ss'.map PV.str)]):=propext ⟨fun ⟨_,e,q⟩=>by cases e;exact q,fun q=>⟨_,rfl,q⟩⟩
theorem Ga:unW .isE x st Q=∃xs,bp st x=some xs/\Q (.bl xs.isEmpty) st:=rfl
theorem xc {x:PV}:eT .repr2 [x] st Q=sH st Q x:=rfl
theorem FI:vi .append (.ref n) [v] st Q=∃xs,st[n]?=some (.lst xs)/\xs.length<100000/\Q .non (st.set n (.lst (xs++[v]))):=rfl
theorem Kr:dZ (.bl b) st BQ=BQ b st:=rfl
theorem Kf:dZ .non st BQ=BQ false st:=rfl
theorem KG:dZ (.int i) st BQ=BQ (i != 0) st:=rfl
theorem K0:dZ (.tup xs) st BQ=BQ (!xs.isEmpty) st:=by simp[dZ,b9]
theorem I0:dZ (.ref n) st BQ=∃xs,b9 st (.ref n)=some xs/\BQ (!xs.isEmpty) st:=rfl
theorem FV:pS (.ref n) (.int j) v st kS=∃xs,st[n]?=some (.lst xs)/\∃q,ixN xs.length j=some q/\kS (st.set n (.lst (xs.set q v))):=rfl
theorem Cm:nE .Add (.int i) (.int j) st Q=Q (.int (i+j)) st:=rfl
theorem CD:nE .Add (.ref n) (.ref k) st Q=∃xs ys,st[n]?=some (.lst xs)/\st[k]?=some (.lst ys)/\xs.length+ys.length<=100000/\Q (.ref n) (st.set n (.lst (xs++ys))):=rfl
theorem CK:nE .Sub (.int i) (.int j) st Q=Q (.int (i-j)) st:=rfl
end
theorem AG:((0:Nat):Int)=0:=rfl
theorem Ct:((1:Nat):Int)=1:=rfl
theorem BW:((2:Nat):Int)=2:=rfl
theorem BF:((3:Nat):Int)=3:=rfl
theorem Bd:((4:Nat):Int)=4:=rfl
theorem BM:((5:Nat):Int)=5:=rfl
theorem B6:((6:Nat):Int)=6:=rfl
theorem eE {s g:AH}{k:Nat}:(s++g)[s.length+k]?=g[k]?:=by rw[MX (QD _ _),Nat.add_sub_cancel_left]
theorem cC {s g:AH}:(s++g)[s.length]?=g[0]?:=eE (k:=0)
theorem get_last {st:AH}{c:Cell}:(st++[c])[st.length]?=some c:=by simp
theorem aR {st g:AH}{n:Nat}(h:st[n]?=some c):(st++g)[n]?=some c:=by rw[MS (MC.mp h).1];exact h
theorem aB {st:AH}{n:Nat}(h:st[n]?=some c):n<st.length:=(MC.mp h).1
end FW
namespace FW
open L2 HX
theorem lW (f:Array Value->Array Value)(o:Obj):(Obj.mapFields f o).dict=o.dict:=by unfold Obj.mapFields;split <;> rfl
section
variable {M:Model}{A:Around}{E:Value->Shared->Prop}{s:Shared}
theorem sG {env:Env}{outer:List Env}{Q:Unit->Shared->Prop}(hfr:A.frames=some (env::outer))(hl:s.heap.FunFrames base (env::outer))(hf:env.frame=some L)(he:s.heap.get? e=some oe)(hd:oe.data=.fields vs)(hsz:1<vs.size)(h:∀h' T oe' vs' oT ts,(∀b o,b ∉ frs (env::outer)->b≠e->s.heap.get? b=some o->h'.get? b=some o)->(∀b o,b∈frs (env::outer)->s.heap.get? b=some o->∃sl,h'.get? b=some { o with slots:=sl }) ->
   s.heap.objs.size<=T->h'.get? e=some oe'->(oe'.cls=oe.cls/\oe'.dict=oe.dict)->oe'.data=.fields vs'->vs'[1]?=some (.ref T)->h'.get? T=some oT->oT.data=.fields ts->ts[3]?=some (rawInt L)->Q () { s with heap:=h' }) :
  wpAny M A (do let a <-frameOf env;let pl <-entryPlaceOf L hadNext;let b <-EntryCells.newEntry head a .none (rawInt L) .none pl;setField (.ref e) 1 b) Q E s:=by
 have hene:e ∉ (env::outer).filterMap (·.frame):=fun hm=>by obtain⟨_,o,ho,hnf⟩:=hl.mem hm;rw[he] at ho;injection ho with ho;subst ho;exact hnf vs hd
 refine MB (wpAny_frameOf_fun hfr hl hf fun h₁ hs₁=>?_);refine MB (wpAny_entryPlaceOf fun pl hpl=>?_);unfold EntryCells.newEntry newFields;refine MB (wpAny_newObj_type ?_ (hpl.sizeOk5 _ _ _ _ _));have he₁:h₁.get? e=some oe:=(hs₁.2.1 e hene).trans he;have he₂:=MD (h:=h₁) { cls:=.type "traceback",dict:=none,data:=.fields ([head,.ref L,.none,rawInt L,.none]++(if pl.isEmpty then List.replicate 6 Value.none else pl)).toArray } he₁;refine wpAny_setField he₂ hd hsz ?_;have hTe:h₁.objs.size≠e:=OS (MR he₁);have hd₃:=Obj.data_mapFields hd (·.setIfInBounds 1 (Value.ref h₁.objs.size));have he₃:=OB (Obj.mapFields (·.setIfInBounds 1 (Value.ref h₁.objs.size))) he₂ (Obj.isFreed_of_fields hd₃);have hT₃:=(NH (h₁.push { cls:=.type "traceback",dict:=none,data:=.fields ([head,.ref L,.none,rawInt L,.none]++(if pl.isEmpty then List.replicate 6 Value.none else pl)).toArray })
  (Obj.mapFields (·.setIfInBounds 1 (Value.ref h₁.objs.size))) (Ne.symm hTe)).trans (MZ h₁ rfl)
 have keep:∀b o,b≠e->h₁.get? b=some o ->
   ((h₁.push { cls:=.type "traceback",dict:=none,data:=.fields ([head,.ref L,.none,rawInt L,.none]++(if pl.isEmpty then List.replicate 6 Value.none else pl)).toArray }).update e (Obj.mapFields (·.setIfInBounds 1 (Value.ref h₁.objs.size)))).get? b=some o:=fun b o hbe hb=>by
  rw[NH _ _ (Ne.symm hbe)];exact MD _ hb
 refine h _ h₁.objs.size _ _ _ _ (fun b o hb hbe e=>keep b o hbe ((hs₁.2.1 b hb).trans e)) (fun b o hb e=>?_) (QR hs₁.1.symm) he₃ ⟨Obj.cls_mapFields _ _,lW _ _⟩ hd₃ (by simp[hsz]) hT₃ rfl ?_
 ·obtain⟨sl,hs⟩:=hs₁.2.2 b o e;exact⟨sl,keep b _ (fun q=>hene (q ▸ hb)) hs⟩
 ·first|rfl|(simp;done)|(rcases hpl with rfl|⟨_,_,_,_,_,_,_,rfl⟩ <;> simp)
end
noncomputable abbrev XC:=Addr × Option Addr
def XIs (o:Obj)(C:XC):Prop:=o.cls=.ref C.1/\o.dict=C.2
structure Fly (L:Option Addr)(h0:Heap)(H:Hp)(h:Heap)(a:Addr)(C:XC):Prop where
 obj:∃oe vs,h.get? a=some oe/\XIs oe C/\oe.data=.fields vs/\(vs[1]?=some .none\/∃T oT ts,vs[1]?=some (.ref T)/\h0.get? T=none/\T≠a/\H T=none/\h.get? T=some oT/\oT.data=.fields ts/\(∃v,ts[3]?=some v))
 ge:h0.get? a=none
 fr:H a=none
theorem Fly.up (f:Fly L h0 H h a C):Fly L' h0 H h a C:=⟨f.obj,f.ge,f.fr⟩
def Lm (h:Heap)(a:Addr):Prop:=∃oe vs T,h.get? a=some oe/\oe.data=.fields vs/\vs[1]?=some (.ref T)
structure Noted (L:Option Addr)(fs:List Addr)(n:Heap)(P:Program)(w:World)(H:Hp)(a:Addr)(C:XC)(h h':Heap):Prop where
 un:∃ch,(∀c∈ch,n.get? c=none/\H c=none/\(∀o,h.get? c=some o->∃vs,o.data=.fields vs))/\Un fs ch H H h h'
 hok:HOk P w H h'
 fly:Fly L n H h' a C
 sz:h.objs.size<=h'.objs.size
theorem Un.twice (a:Un fs c1 H H h h1)(b:Un fs c2 H H h1 h2):Un fs (c1++c2) H H h h2:=by
 have l:∀ {x},x ∉ c1++c2->x ∉ c1:=fun q z=>q (NT _ z);have r:∀ {x},x ∉ c1++c2->x ∉ c2:=fun q z=>q (M7 _ z);refine⟨fun x o e n hx q=>b.keep x o (a.keep x o e n hx (l q)) n hx (r q),fun x o e n hx q=>?_,fun x o e n q=>n,fun x o e q=>?_,fun _ _ q=>q,fun _ _ _ q=>q,fun _ ps q=>⟨#[],by rw[q];simp⟩⟩
 ·obtain⟨sl,z⟩:=a.slot x o e n hx (l q);obtain⟨sl',z'⟩:=b.slot x _ z n hx (r q);exact⟨sl',z'⟩
 ·obtain⟨o',z⟩:=a.there x o e (l q);exact b.there x o' z (r q)
section
variable {P:Program}{w:World}{A:Around}{E:Value->Shared->Prop}{s:Shared}
theorem wN {env:Env}{outer:List Env}{n:Heap}{M:Model}{Q:Unit->Shared->Prop}(hfr:A.frames=some (env::outer))(hl:s.heap.FunFrames base (env::outer))(hf:env.frame=some L)(frH:∀b∈frs (env::outer),H b=none)(ok:HOk P w H s.heap)(hns:n.objs.size<=s.heap.objs.size)(f:Fly (some L) n H s.heap a C)(h:∀h',Noted (some L) (frs (env::outer)) n P w H a C s.heap h'->Lm h' a->Q () { s with heap:=h' }) :
  wpAny M A (noteFrame (.ref a) env) Q E s:=by
 have f0:=f;obtain⟨⟨oe,vs,he,hc,hd,h1⟩,hge,hH⟩:=f;unfold noteFrame;simp only[hf];have nofs:∀b o vs,s.heap.get? b=some o->o.data=.fields vs->b ∉ frs (env::outer):=fun b o vs e d hm=>by obtain⟨_,o',ho,hnf⟩:=hl.mem hm;rw[e] at ho;injection ho with ho;subst ho;exact hnf vs d
 have fin:∀(ch:List Addr) (h':Heap) (T:Addr) oe' vs' oT ts,(∀c∈ch,n.get? c=none/\H c=none/\(∀o,s.heap.get? c=some o->∃vs,o.data=.fields vs))->(∀b o,b ∉ frs (env::outer)->b ∉ ch->s.heap.get? b=some o->h'.get? b=some o)->(∀b o,b∈frs (env::outer)->s.heap.get? b=some o->∃sl,h'.get? b=some { o with slots:=sl }) ->
   (∀b o,s.heap.get? b=some o->b ∉ ch->∃o',h'.get? b=some o') ->
   s.heap.objs.size<=T->T≠a->h'.get? a=some oe'->(oe'.cls=oe.cls/\oe'.dict=oe.dict)->oe'.data=.fields vs'->vs'[1]?=some (.ref T)->h'.get? T=some oT->oT.data=.fields ts->ts[3]?=some (rawInt L)->Q () { s with heap:=h' }:=by
  intro ch h' T oe' vs' oT ts hch hk hsl hth hT hTa e1 e2 e3 e4 e5 e6 e7;have hTH:H T=none:=ok.fresh hT;refine h h' ⟨⟨ch,hch,⟨fun b o e _ hb hx=>hk b o hb hx e,fun b o e _ hb hx=>hsl b o hb e,fun b o e hn _=>hn,fun b o e hx=>hth b o e hx,fun b xs e=>e,fun b o u e=>e,fun b ps e=>⟨#[],by rw[e];simp⟩⟩⟩,fun b o e=>?_,⟨⟨oe',vs',e1,⟨e2.1.trans hc.1,e2.2.trans hc.2⟩,e3,.inr ⟨T,oT,ts,e4,PC (MY hns hT),hTa,hTH,e5,e6,_,e7⟩⟩,hge,hH⟩,?_⟩ ⟨oe',vs',T,e1,e3,e4⟩
  ·have nn:∀c,H c≠none->c ∉ frs (env::outer)/\c ∉ ch:=fun c z=>⟨fun q=>z (frH c q),fun q=>z (hch c q).2.1⟩;refine(ok b o e).stay (fun c u hc q=>?_) (fun c q=>q) fun c xs q=>q;have:H c≠none:=by
    rcases hc with rfl|hc
    ·rw[e];exact Option.some_ne_none _
    ·rw[hc];exact Option.some_ne_none _
   exact hk c u (nn c this).1 (nn c this).2 q
  ·exact MY hT (NQ (MR e5))
 have ain:n.get? a=none/\H a=none/\(∀o,s.heap.get? a=some o->∃vs,o.data=.fields vs):=⟨hge,hH,fun o e=>by rw[he] at e;cases e;exact⟨vs,hd⟩⟩;rcases h1 with h1|⟨T,oT,ts,h1,hnT,hTa,hTH,hT,hdT,h3⟩
 ·refine MB (wpAny_field he hd h1 ?_);rw[ML (by decide)];refine sG hfr hl hf he hd (OH.mp h1).1 fun h' T oe' vs' oT ts k1 k2 hT e1 e2 e3 e4 e5 e6 e7=>?_;refine fin [a] h' T oe' vs' oT ts (fun c hc=>by cases M1.mp hc;exact ain) (fun b o hb hx e=>k1 b o hb (fun q=>hx (by simp[q])) e) k2 (fun b o e hx=>?_) hT (fun q=>by rw[q] at hT;exact absurd (MR he) (NW.mpr hT)) e1 e2 e3 e4 e5 e6 e7;by_cases hb:b∈frs (env::outer)
  ·obtain⟨sl,z⟩:=k2 b o hb e;exact⟨_,z⟩
  ·exact⟨_,k1 b o hb (fun q=>hx (by simp[q])) e⟩
 ·obtain⟨fv,h3⟩:=h3;cases hfv:(fv == rawInt L) with
  | false =>
   refine MB (wpAny_field he hd h1 ?_);rw[MN (show (Value.ref T != Value.none)=true from by simp)];refine MB (wpAny_field hT hdT h3 ?_);rw[ML (by rw[hfv];exact MA)];refine MB (wpAny_setField hT hdT (OH.mp h3).1 ?_);have other:∀b,b≠T->(s.heap.update T (Obj.mapFields (·.setIfInBounds 3 Value.none))).get? b=s.heap.get? b:=fun b hb=>NH _ _ (Ne.symm hb);have nT:∀b,b∈frs (env::outer)->b≠T:=fun b hb q=>nofs T oT ts hT hdT (q ▸ hb);have hl':(s.heap.update T (Obj.mapFields (·.setIfInBounds 3 Value.none))).FunFrames base (env::outer):=hl.of_keeps fun b o hb hnf=>⟨o,(other b fun q=>by rw[q,hT] at hb;injection hb with hb;subst hb;exact hnf ts hdT).trans hb,rfl⟩;refine sG (s:={ s with heap:=s.heap.update T (Obj.mapFields (·.setIfInBounds 3 Value.none)) }) hfr hl' hf ((other a (Ne.symm hTa)).trans he) hd (OH.mp h1).1 fun h' T' oe' vs' oT' ts' k1 k2 hT' e1 e2 e3 e4 e5 e6 e7=>?_;have hszu:(s.heap.update T (Obj.mapFields (·.setIfInBounds 3 Value.none))).objs.size=s.heap.objs.size:=Heap.size_after_update ..;have hT2:s.heap.objs.size<=T':=by rw[<-hszu];exact hT'
   have kk:∀b o,b ∉ frs (env::outer)->b ∉ [a,T]->s.heap.get? b=some o->h'.get? b=some o:=fun b o hb hx e=>k1 b o hb (fun q=>hx (by simp[q])) ((other b fun q=>hx (by simp[q])).trans e);have ks:∀b o,b∈frs (env::outer)->s.heap.get? b=some o->∃sl,h'.get? b=some { o with slots:=sl }:=fun b o hb e=>k2 b o hb ((other b (nT b hb)).trans e);refine fin [a,T] h' T' oe' vs' oT' ts' (fun c hc=>?_) kk ks (fun b o e hx=>?_) hT2 (fun q=>by rw[q] at hT2;exact absurd (MR he) (NW.mpr hT2)) e1 e2 e3 e4 e5 e6 e7
   ·rcases NB.mp hc with rfl|hc
    ·exact ain
    ·cases M1.mp hc;exact⟨hnT,hTH,fun o e=>by rw[hT] at e;cases e;exact⟨ts,hdT⟩⟩
   ·by_cases hb:b∈frs (env::outer)
    ·obtain⟨sl,z⟩:=ks b o hb e;exact⟨_,z⟩
    ·exact⟨_,kk b o hb hx e⟩
  | true =>refine MB (wpAny_field he hd h1 ?_);rw[MN (show (Value.ref T != Value.none)=true from by simp)];refine MB (wpAny_field hT hdT h3 ?_);rw[MN hfv];exact MU (h s.heap ⟨⟨[],fun c z=>(by cases z),Un.refl⟩,ok,f0,MJ _⟩ ⟨oe,vs,T,he,hd,h1⟩)
theorem jN {fs:List Addr}{M:Model}{Q:Unit->Shared->Prop}(hfs:∀b∈fs,∃o,s.heap.get? b=some o/\∀vs,o.data≠.fields vs)(ok:HOk P w H s.heap)(f:Fly L n H s.heap a C)(h:∀h',Noted fv fs n P w H a C s.heap h'->Q () { s with heap:=h' }):wpAny M A (setFlight (.ref a) fv) Q E s:=by
 obtain⟨⟨oe,vs,he,hc,hd,h1⟩,hge,hH⟩:=f;unfold setFlight;rcases h1 with h1|⟨T,oT,ts,h1,hnT,hTa,hTH,hT,hdT,h3⟩
 ·refine MB (wpAny_field he hd h1 ?_);rw[ML (by decide)];exact MU (h s.heap ⟨⟨[],fun c z=>(by cases z),Un.refl⟩,ok,⟨⟨oe,vs,he,hc,hd,.inl h1⟩,hge,hH⟩,MJ _⟩)
 ·refine MB (wpAny_field he hd h1 ?_);rw[MN (show (Value.ref T != Value.none)=true from by simp)];have hsz:3<ts.size:=by obtain⟨_,h3⟩:=h3;exact(OH.mp h3).1
  refine wpAny_setField hT hdT hsz ?_;have other:∀b,b≠T->(s.heap.update T (Obj.mapFields (·.setIfInBounds 3 (fv.elim Value.none fun f=>rawInt f)))).get? b=s.heap.get? b:=fun b hb=>NH _ _ (Ne.symm hb);have nT:∀b∈fs,b≠T:=fun b hb q=>by obtain⟨o,e,z⟩:=hfs b hb;rw[q,hT] at e;cases e;exact z ts hdT
  refine h _ ⟨⟨[T],fun c z=>(by cases M1.mp z;exact⟨hnT,hTH,fun o e=>by rw[hT] at e;cases e;exact⟨ts,hdT⟩⟩),⟨fun b o e _ _ hx=>(other b fun q=>hx (by simp[q])).trans e,fun b o e _ hb _=>⟨o.slots,(other b (nT b hb)).trans e⟩,fun b o e hn _=>hn,fun b o e hx=>⟨o,(other b fun q=>hx (by simp[q])).trans e⟩,fun b xs e=>e,fun b o u e=>e,fun b ps e=>⟨#[],by rw[e];simp⟩⟩⟩,fun b o e=>?_,⟨⟨oe,vs,(other a (Ne.symm hTa)).trans he,hc,hd,.inr ⟨T,_,_,h1,hnT,hTa,hTH,OB _ hT (Obj.isFreed_of_fields (Obj.data_mapFields hdT _)),Obj.data_mapFields hdT _,?_⟩⟩,hge,hH⟩,QR (Heap.size_after_update ..).symm⟩
  ·refine(ok b o e).stay (fun c u hc q=>(other c ?_).trans q) (fun c q=>q) fun c xs q=>q;rintro rfl;rcases hc with rfl|hc
   ·rw[hTH] at e;cases e
   ·rw[hTH] at hc;cases hc
  ·exact⟨(fv.elim Value.none fun f=>rawInt f),by simp[hsz]⟩
theorem Noted.twice (x:Noted L fs n P w H a C h h1)(y:Noted L' fs n P w H a C h1 h2):Noted L' fs n P w H a C h h2:=by
 obtain⟨c1,k1,u1⟩:=x.un;obtain⟨c2,k2,u2⟩:=y.un;refine⟨⟨c1++c2,fun c hc=>?_,Un.twice u1 u2⟩,y.hok,y.fly,MY x.sz y.sz⟩;rcases M9.mp hc with hc|hc
 ·exact k1 c hc
 ·obtain⟨p1,p2,p3⟩:=k2 c hc;refine⟨p1,p2,fun o e=>?_⟩;by_cases hc1:c∈c1
  ·exact(k1 c hc1).2.2 o e
  ·obtain⟨sl,z⟩:=u1.any e p2 hc1;obtain⟨vs,hv⟩:=p3 _ z;exact⟨vs,hv⟩
theorem tQ {env:Env}{outer:List Env}{n:Heap}{M:Model}{Q:Unit->Shared->Prop}(hfr:A.frames=some (env::outer))(hl:s.heap.FunFrames base (env::outer))(hf:env.frame=some L)(frH:∀b∈frs (env::outer),H b=none)(ok:HOk P w H s.heap)(hns:n.objs.size<=s.heap.objs.size)(f:Fly (some L) n H s.heap a C)(h:∀h',Noted fv (frs (env::outer)) n P w H a C s.heap h'->Q () { s with heap:=h' }) :
  wpAny M A (noteFrame (.ref a) env) (fun _ s'=>wpAny M A (setFlight (.ref a) fv) Q E s') E s:=by
 refine wN hfr hl hf frH ok hns f fun h1 nt _=>?_;refine jN (fs:=frs (env::outer)) (fun b hb=>?_) nt.hok nt.fly fun h2 nt2=>h h2 (nt.twice nt2);obtain⟨_,o,ho,hnf⟩:=hl.mem hb;obtain⟨ch,hch,un⟩:=nt.un;have hbc:b ∉ ch:=fun z=>by obtain⟨vs,hv⟩:=(hch b z).2.2 o ho;exact hnf vs hv
 obtain⟨sl,z⟩:=un.any ho (frH b hb) hbc;exact⟨_,z,fun vs q=>hnf vs q⟩
end
theorem Un.noted (a:Un fs [] H0 H1 h0 h1)(b:Un fs' ch H1 H1 h1 h2)(hfs:∀x o,h0.get? x=some o->x∈fs'->x∈fs)(hsf:∀x∈fs,x∈fs')(hch:∀c∈ch,h0.get? c=none):Un fs [] H0 H1 h0 h2:=by
 have nc:∀x o,h0.get? x=some o->x ∉ ch:=fun x o e z=>by rw[hch x z] at e;cases e
 have nx:∀x:Addr,x ∉ ([]:List Addr):=fun x z=>by cases z
 refine⟨fun x o e n hx _=>?_,fun x o e n hx _=>?_,fun x o e n _=>a.free x o e n (nx x),fun x o e _=>?_,a.tups,a.frzs,a.tbls⟩
 ·exact b.keep x o (a.keep x o e n hx (nx x)) (a.free x o e n (nx x)) (fun z=>hx (hfs x o e z)) (nc x o e)
 ·obtain⟨sl,z⟩:=a.slot x o e n hx (nx x);obtain⟨sl',z'⟩:=b.slot x _ z (a.free x o e n (nx x)) (hsf x hx) (nc x o e);exact⟨sl',z'⟩
 ·obtain⟨o',z⟩:=a.there x o e (nx x);exact b.there x o' z (nc x o e)
noncomputable def CXe (P:Program)(w:World):CXT:=fun outer H s E e s'=>∃a C H',e=.ref a/\s'.os=s.os/\AllBare s'.gens/\s.heap.objs.size<=s'.heap.objs.size/\Un (frs outer) [] H H' s.heap s'.heap/\HOk P w H' s'.heap/\Fly none s.heap H' s'.heap a C/\E (.ref C.1) C.2 H'
def xp (X:Cx)(Wx:XC->Hp->Prop)(e:Value)(s':Shared):Prop:=∃a C pins σ H',e=.ref a/\L2.Inv X pins σ H' s'/\Fly (some X.env.locals) X.s₀.heap H' s'.heap a C/\Wx C H'
theorem AQ {H:Hp}{E:XK}(h:xp (dv (CXe P w) P w K mg base N qual scope f cd A outer s H E) (fun C H'=>E (.ref C.1) C.2 H') e s'):(dv (CXe P w) P w K mg base N qual scope f cd A outer s H E).xe e s':=by
 obtain⟨a,C,pins,σ,H',rfl,I,fl,q⟩:=h;show wpAny _ _ (leaving _ _) _ _ _;unfold leaving;have I':=I;refine MB (tQ (P:=P) (w:=w) (n:=s.heap) (base:=base) (I.ok.frames) I.stack rfl I.stkFree I.hok I.sz fl fun h' nt=>?_);obtain⟨⟨ch,hch,un⟩,hok,fl',sz⟩:=nt;refine⟨a,C,H',rfl,I.os,I.bare,MY I.sz sz,?_,hok,fl',q⟩;have bs:Un (frs outer) [] H H' s.heap s'.heap:=I.base;refine Un.noted bs un (fun x o e hx=>?_) (fun x hx=>MM _ hx) fun c hc=>(hch c hc).1;rcases NB.mp hx with rfl|hx
 ·exact absurd (MR e) (NW.mpr I.ok.above)
 ·exact hx
theorem Inv.noted {σ:L2.St}(I:L2.Inv X pins σ H s)(hpn:X.pn=[])(hex:X.ex=[])(hst:X.stack=X.env::X.outer)(hfr:X.env.frame=some X.env.locals)(nt:Noted L (frs X.stack) X.s₀.heap X.prog X.w H a C s.heap h'):L2.Inv X [] σ H { s with heap:=h' }:=by
 obtain⟨ch,hch,un⟩:=nt.un;have bs:Un X.fs X.ex X.H₀ H X.s₀.heap h':=by
  have b0:=I.base;rw[hex] at b0 |-
  refine Un.noted b0 un (fun x o e hx=>?_) (fun x hx=>by rw[hst];exact NR.mpr (by obtain⟨v,z1,z2⟩:=NR.mp hx;exact⟨v,MM _ z1,z2⟩)) fun c hc=>(hch c hc).1;rw[hst] at hx;unfold frs at hx;rw[ND,hfr] at hx;rcases NB.mp hx with rfl|hx
  ·exact absurd (MR e) (NW.mpr I.ok.above)
  ·exact hx
 have cl:∀ {c:Addr}{v:Option Value},H c=none->s.heap.IsCell c v->h'.IsCell c v:=fun {c v} hc z=>by
  obtain⟨o,e,d⟩:=z;have hcc:c ∉ ch:=fun q=>by obtain⟨vs,hv⟩:=(hch c q).2.2 o e;rw[d] at hv;cases hv
  obtain⟨sl,e2⟩:=un.any e hc hcc;exact⟨_,e2,d⟩
 obtain⟨m,⟨o,es,ep,ho,hd,r⟩,lk⟩:=id I.loc;have hlc:X.env.locals ∉ ch:=fun q=>by obtain⟨vs,hv⟩:=(hch _ q).2.2 o ho;rw[hd] at hv;cases hv
 obtain⟨sl,hL⟩:=un.any ho I.free hlc;refine⟨I.ok,I.os,I.bare,bs,⟨m,⟨_,es,ep,hL,hd,r⟩,fun i x v e1 e2 e3=>?_⟩,fun x c e=>?_,I.free,I.freeC,(fun p hp=>by rw[hpn] at hp;cases hp),nt.hok,I.len⟩
 ·obtain⟨u,r1,q⟩:=lk i x v e1 e2 e3;refine⟨u,r1,?_⟩;rcases q with q|⟨k,c,e,z⟩
  ·exact .inl q
  ·exact .inr ⟨k,c,e,cl (I.freeC x c e) z⟩
 ·obtain⟨v,z⟩:=I.cell x c e;exact⟨v,cl (I.freeC x c e) z⟩
theorem HY {X:Cx}(hpn:X.pn=[])(hex:X.ex=[])(hst:X.stack=X.env::X.outer)(hfr:X.env.frame=some X.env.locals):PassesOwn (model X.prog X.w) X.A X.env (xp X W):=by rintro e s' ⟨a,C,pins,σ,H',rfl,I,fl,q⟩;have hns:X.s₀.heap.objs.size<=s'.heap.objs.size:=I.sz;show wpAny _ _ (noteFrame _ _) _ _ _;refine wN (P:=X.prog) (w:=X.w) (n:=X.s₀.heap) (base:=X.base) (outer:=X.outer) (by rw[<-hst];exact I.ok.frames) (by rw[<-hst];exact I.stack) hfr (by rw[<-hst];exact I.stkFree) I.hok hns fl fun h1 nt bn=>?_;rw[<-hst] at nt;have I1:=Inv.noted I hpn hex hst hfr nt;obtain⟨oe,vs,T,b1,b2,b3⟩:=bn;unfold cameBackBy;refine MB (wpAny_field b1 b2 b3 ?_);rw[ML (show ¬((Value.ref T == Value.none)=true) from MA)];rw[hfr];refine jN (P:=X.prog) (w:=X.w) (n:=X.s₀.heap) (s:={ s' with heap:=h1 }) (fs:=frs X.stack) (fv:=some X.env.locals) (fun b hb=>?_) nt.hok nt.fly fun h2 nt2=>⟨a,C,[],σ,H',rfl,Inv.noted I1 hpn hex hst hfr nt2,nt2.fly,q⟩;obtain⟨_,o,ho,hnf⟩:=I1.stack.mem hb;exact⟨o,ho,hnf⟩
end FW
namespace FW
open L2 HX
noncomputable abbrev ky:List Value:=[.type "ValueError",.type "Exception",.type "BaseException",.type "object"]
theorem wW {K:W.Frag}{mg:Str->Option Value}(X:K.In h)(m:mg x=some (.ref C))(q:W.excIn K C bmB newId=true):OwnCls x C bmB newId mg h:=by
 refine⟨m,?_⟩;unfold W.excIn at q;split at q
 ·rename_i dd cd sl ho;split at q
  ·rename_i C' bm k0 k1 k2 k3 n k5 hm hs;simp only[Bool.and_eq_true,beq_iff_eq,Bool.not_eq_true'] at q;obtain⟨⟨⟨⟨⟨rfl,rfl⟩,hdel⟩,ht⟩,hok⟩,hni⟩:=q;obtain⟨nm,bs,mro,ns,qn,hd,sn,sub,ab,col,del⟩:=cd;dsimp only at hm hdel hok hni;subst hm hdel;have hsl:sl=#[k0,k1,k2,k3,some (.builtin n),k5]:=by obtain⟨l⟩:=sl;simp only at hs;rw[hs]
   subst hsl;exact⟨bm,ns,nm,qn,bs,hd,sn,sub,ab,col,dd,k0,k1,k2,k3,k5,_,X _ _ ho,.of_isNs (W.isNs_of_in X hok),W.nsMap_none_of_in X hok hni,W.tail_of_in X ht⟩
  ·cases q
 ·cases q
section
variable {X:Cx}{pins:List (Addr × Obj)}{σ:L2.St}{H:Hp}{s:Shared}
end
end FW
namespace FW
open L2 HX
open PySem.W (Looks)
section
variable {P:Program}{w:World}{A:Around}{s:Shared}{C:Addr}{us:List Value}
noncomputable def Lk (P:Program)(w:World)(A:Around)(R:Result->Shared->Prop):PySem.Fin->Shared->Prop:=fun fin s'=>match fin with
 | .done f=>R (.ok f) s'
 | .again c=>c.quiet=true/\codeAny (model P w) A c R s'
theorem sD {id:String}{E:Value->Shared->Prop}{Q:PySem.Fin->Shared->Prop}(hC:s.heap.get? C=some oc)(hcd:oc.data=.cls cd)(hl:cd.mro.isEmpty=false)(lb:Looks (model P w) s.heap (Bind.madeBy (.ref C)) (some id))(h:wpAny (model P w) A (call (.builtin id) (.ref C::us)) (fun ob s1=>Looks (model P w) s1.heap (isInstance ob (.ref C)) true/\wpAny (model P w) A (callSpecial? ob "__init__" us []) (fun r s2=>r=some .none/\Q (.done (.ret ob)) s2) E s1) E s) :
  wpAny (model P w) A (Builtin.«type.__call__» ⟨.ref C::us,[]⟩) Q E s:=by
 obtain⟨hp,g,d,t,os⟩:=s;unfold Builtin.«type.__call__»
 wp_walk
 rw[hcd];refine MU (MU ?_);simp only[hl,Bool.false_eq_true,if_false];refine MB (lb.at (MB (MU (MB (N1 ?_)))));refine wpAny_mono h (fun ob s1 z=>?_) fun _ _ z=>z;obtain⟨hp1,g1,d1,t1,os1⟩:=s1;refine MB (z.1.at ?_);simp only[Bool.not_true,Bool.false_eq_true,if_false];refine MB (N1 (wpAny_mono z.2 (fun r s2 y=>?_) fun _ _ z=>z));obtain⟨rfl,y⟩:=y;exact MU y
theorem Bg {R:Result->Shared->Prop}(hC:s.heap.get? C=some oc)(hcd:oc.data=.cls cd)(lc:Looks (model P w) s.heap (specialOf (.ref C) "__call__") (some (.builtin "type.__call__")))(lt:Looks (model P w) s.heap (isInstance (.ref C) (.type "type")) true)(h:wpAny (model P w) (A.under (.builtin "type.__call__" ⟨.ref C::us,[]⟩)) (Builtin.«type.__call__» ⟨.ref C::us,[]⟩) (Lk P w A R) (fun e s'=>R (.error e) s') s) :
  codeAny (model P w) A (.call (.ref C) ⟨us,[]⟩) R s:=by
 obtain⟨hp,g,d,t,os⟩:=s;refine codeAny_of_tree ?_;change wpAny _ (A.under _) (callAny (.ref C) _) _ _ _;obtain⟨oc1,oc2,oc3,oc4⟩:=oc;obtain rfl:oc3=.cls cd:=hcd;refine W.nd_load hC ?_;change wpAny _ _ (callAny.viaDunder (.ref C) ⟨us,[]⟩) _ _ _;unfold callAny.viaDunder;refine MB (lc.at ?_);show wpAny _ _ (bindSpecial (.builtin "type.__call__") (.ref C) >>= _) _ _ _;rw[tc_bind];refine MB (MU (MB (MU (MU (a:=PySem.Fin.again (.call (.builtin "type.__call__") ⟨.ref C::us,[]⟩)) ⟨rfl,?_⟩))));exact codeAny_call_builtin_at (Code.quiet_builtin _ (by decide +kernel)) entry_typeCall (W.check_slot tc_kind tc_split lt (W.tc_args _ _ _) h)
noncomputable abbrev pT:List Value:=[.type "ValueError",.type "Exception",.type "BaseException",.type "object"]
noncomputable abbrev cA (C a:Addr)(dct:Option Addr):Obj:={ cls:=.ref C,dict:=dct,data:=.fields #[.ref a,.none,.none,.none,.bool false,.none] }
theorem AF {K:W.Frag}{R:Result->Shared->Prop}(X:K.In s.heap)(hC:s.heap.get? C=some (excClassObj nm q C N bs bm hdct sn sub ab col dd k0 k1 k2 k3 k5 "ValueError.__new__"))(T:OwnTail s.heap pT bm)(hi:W.findIn K (.ref C) "__init__"=some (some (.ref f)))(hf:W.typeIn K (.ref f)=some (.type "function"))(hc:W.specialIn K (.ref C) "__call__"=some (some (.builtin "type.__call__")))(ht:W.instIn K (.ref C) (.type "type")=some true)(hs:W.mroIn K C (.ref C)=some true)(hn:us.length<=sizeLine)(h:wpAny (model P w) (A.under (.builtin "type.__call__" ⟨.ref C::us,[]⟩)) (call (.ref f) (.ref (s.heap.objs.size+1)::us)) (fun v s'=>v=.none/\R (.ok (.ret (.ref (s.heap.objs.size+1)))) s') (fun e s'=>R (.error e) s')
   { s with heap:=(s.heap.push { cls:=.type "tuple",data:=.seq us.toArray }).push (cA C s.heap.objs.size none) }) :
  codeAny (model P w) A (.call (.ref C) ⟨us,[]⟩) R s:=by
 have FB:=PySem.F.excBase_ValueError;have lb:Looks (model P w) s.heap (Bind.madeBy (.ref C)) (some "ValueError.__new__"):=fun _ _ _ s' k z=>by obtain⟨_,_,_,_,_⟩:=s';exact wpAny_madeBy_exc (k _ _ hC) z
 refine Bg hC rfl (W.looks_specialIn X hc) (W.looks_instIn X ht) (sD hC rfl rfl lb ?_);obtain⟨hp,g,d,t,os⟩:=s;refine wpAny_call (codeAny_call_builtin_code (Code.quiet_builtin _ FB.quiet) (wpAny_check_new_subU FB (by decide) T hC (codeAny_exc_new_subU FB (by decide) FB T hC ?_ hn)));have k:∀b o,hp.get? b=some o->((hp.push { cls:=.type "tuple",data:=.seq us.toArray }).push (cA C hp.objs.size none)).get? b=some o:=fun b o e=>MD _ (MD _ e);have X':K.In ((hp.push { cls:=.type "tuple",data:=.seq us.toArray }).push (cA C hp.objs.size none)):=X.keeps k;have hx:((hp.push { cls:=.type "tuple",data:=.seq us.toArray }).push (cA C hp.objs.size none)).get? (hp.objs.size+1)=some (cA C hp.objs.size none):=by heap_get
 have I:W.InstAt ((hp.push { cls:=.type "tuple",data:=.seq us.toArray }).push (cA C hp.objs.size none)) (hp.objs.size+1) (cA C hp.objs.size none) C none:=⟨hx,rfl,rfl,True.intro⟩;refine⟨I.type.andThen (QO X' hs),W.special_fn X' I hi hf (wpAny_mono h (fun v s' z=>?_) fun _ _ z=>z)⟩;obtain⟨rfl,z⟩:=z;exact⟨rfl,z⟩
end
end FW
namespace FW
open L2 HX Builtin Builtin.ObjectAttr
open PySem.W (Looks)
section
variable {P:Program}{w:World}{A:Around}{E:Value->Shared->Prop}{s:Shared}{x C:Addr}{n:Str}{v:Value}
noncomputable abbrev noD:Obj:={ cls:=.type "dict",data:=.dict #[] }
noncomputable abbrev jO (h:Heap)(x:Addr):Heap:=(h.push noD).update x fun o=>{ o with dict:=some h.objs.size }
theorem Ai {h:Heap}(hx:h.get? x=some o)(hf:({ o with dict:=some h.objs.size }:Obj).isFreed=false):(jO h x).get? x=some { o with dict:=some h.objs.size }:=OB _ (MD noD hx) hf
theorem x9 {h:Heap}{x b:Addr}(hb:b≠x)(e:h.get? b=some o):(jO h x).get? b=some o:=(NH _ _ (Ne.symm hb)).trans (MD noD e)
theorem yi {h:Heap}(hx:h.get? x=some o):(jO h x).Ns1 h.objs.size fun _=>none:=by have e:(jO h x).get? h.objs.size=some noD:=(NH _ _ (M8 (MR hx))).trans (MZ h rfl);exact .of_empty ⟨noD,#[],0,e,rfl,fun y hy=>absurd hy (by simp),fun _=>rfl⟩
theorem xY {Q:PySem.Fin->Shared->Prop}(hd:s.heap.Ns1 d fun _=>none)(h:∀h' tk',h'.Ns1 d (fun y=>if y=n then some v else none)->Heap.SameBut d s.heap h'->Q (.done (.ret .none)) { s with heap:=h',toks:=tk' }) :
  wpAny (model P w) A (storeInDict d (.str n tk) n v) Q E s:=by
 refine MB (m:=newKeyGuard d n (.str n tk)) (MU (MB (wpAny_nsSet1 hd fun h' n' same=>?_)));obtain⟨o,es,ep,a1,a2,a3⟩:=n'.count (ns:=[n]) (Within.cons n v Within.nil);have small:es.size<=sizeLine+1:=MY a3 (by rw[sizeLine_eq];show 1<=16777216+1;decide);exact MB (wpAny_lookBehind a1 (by rw[a2];exact pastItsLine_dict small) (MU (h h' _ n' same)))
theorem xR {D:Addr}{Q:Unit->Shared->Prop}(hC:s.heap.get? C=some (excClassObj nm q C N bs (.ref D::pT) true sn sub ab col dd k0 k1 k2 k3 k5 "ValueError.__new__"))(hx:s.heap.get? x=some (cA C a none))(ls:Looks (model P w) s.heap (typeLookup (.ref C) "__setattr__") (some (.builtin "object.__setattr__")))(ln:Looks (model P w) s.heap (typeLookup (.ref C) n) none)(lo:Looks (model P w) s.heap (isSubtype (.ref C) (.type "object")) true)(h:∀h' tk',h'.Ns1 s.heap.objs.size (fun y=>if y=n then some v else none)->h'.get? x=some (cA C a (some s.heap.objs.size))->(∀b o,b≠x->s.heap.get? b=some o->h'.get? b=some o)->Q () { s with heap:=h',toks:=tk' }) :
  wpAny (model P w) A (setAttr (.ref x) n v) Q E s:=by
 have SF:=PySem.F.store_ValueError;have lt:Looks (model P w) s.heap (typeOf (.ref x)) (.ref C):=(Looks.ld hx).andThen .now;have lm:Looks (model P w) s.heap (mroOf (.ref C)) (.ref C::.ref D::pT):=((Looks.ld (part:=none) hC).andThen .now).andThen .now;obtain⟨hp,g,d,t,os⟩:=s;refine MB (wpAny_mkText (MB (MB ((lt.andThen ls).at (N1 ?_)))));refine MB (wpAny_of_eq (SF.slot.bind (.ref x)) (MB (wpAny_call ?_)));refine codeAny_call_builtin SF.slot.plain SF.entry ?_;change wpAny _ _ (checkBuiltinCall "object.__setattr__" ⟨.ref x::[.str n t,v],[]⟩) _ _ _;have hsub:Looks (model P w) hp (isInstance (.ref x) (.type "object")) true:=lt.andThen lo;have hok:=SF.args (.ref x) (.str n t) v;refine @W.check_slot (model P w) _ _ ⟨hp,g,d,t+1,os⟩ "object.__setattr__" "object" "__setattr__" (.ref x) [.str n t,v] [] _ SF.kind SF.split hsub hok ?_;change wpAny _ _ («object.__setattr__» ⟨[.ref x,.str n t,v],[]⟩) _ _ _;rw[W.osa_eq,refuse_eq];refine MB (MB (lt.at (MB (lm.at ?_))));rw[refuseLoop_ref,refuseLoop_ref,SF.passes];refine MU (MB (lt.at (MB (ln.at (MB (MU ?_))))));change wpAny _ _ (storeInOwnDict (.ref x) (.ref C) (.str n t) n v false) _ _ _;have ld:wpAny (model P w) A.in1 (ownDictForStores (.ref x)) (fun r s'=>r=some hp.objs.size/\s'=⟨jO hp x,g,d,t+1,os⟩) (fun _ _=>False) ⟨hp,g,d,t+1,os⟩:=by
  change wpAny _ _ (instanceDict x true) _ _ _;unfold instanceDict
  wp_walk
  exact⟨rfl,rfl⟩
 refine MB (MU (MB (wpAny_mono ld (fun r s' z=>?_) fun _ _ z=>z.elim)));obtain⟨rfl,rfl⟩:=z;refine xY (s:=⟨jO hp x,g,d,t+1,os⟩) (yi hx) fun h' tk' n1 same=>?_;have hxd:x≠hp.objs.size:=M8 (MR hx);exact MU (MU (h h' tk' n1 ((same.2 x hxd).trans (Ai hx rfl)) fun b o hb e=>(same.2 b (M8 (MR e))).trans (x9 hb e)))
end
end FW
namespace FW
open L2 HX
noncomputable def cE (K:W.Frag)(C f D:Addr)(ns:List Str):Bool :=
 (match K.lookup C with
 | some ⟨.type "type",_,.cls cd,sl⟩=>(match sl.toList with
  | [_,_,_,_,some (.builtin n),_]=>cd.mro == (.ref C::.ref D::pT) && n == "ValueError.__new__" && !cd.hasDel && cd.hasDict && W.tailIn K pT (.ref D::pT)
  | _=>false)
 | _=>false) &&
 W.keepIn K (.ref C) && W.mroIn K C (.type "BaseException") == some true && W.specialIn K (.ref C) "__call__" == some (some (.builtin "type.__call__")) && W.instIn K (.ref C) (.type "type") == some true && W.mroIn K C (.ref C) == some true && W.mroIn K C (.type "object") == some true && W.findIn K (.ref C) "__init__" == some (some (.ref f)) && W.typeIn K (.ref f) == some (.type "function") && W.findIn K (.ref C) "__setattr__" == some (some (.builtin "object.__setattr__")) &&
 W.findIn K (.ref C) "__getattribute__" == some (some (.builtin "BaseException.__getattribute__")) && W.findIn K (.ref C) "__getattr__" == some none && ns.all (fun n=>W.findIn K (.ref C) n == some none) &&
 W.specialIn K (.ref D) "__getattribute__" == some (some (.builtin "type.__getattribute__")) && W.readsIn K D (.type "type") && (match W.findCls K (.ref D) (.type "type") "__init__" with|some (.val (.builtin "ValueError.__init__"))=>true|_=>false)
structure InitAt (K:W.Frag)(C f D:Addr)(ns:List Str)(h:Heap):Prop where
 obj:∃nm q N bs sn sub ab col dd k0 k1 k2 k3 k5,h.get? C=some (excClassObj nm q C N bs (.ref D::pT) true sn sub ab col dd k0 k1 k2 k3 k5 "ValueError.__new__")
 tail:OwnTail h pT (.ref D::pT)
 kp:W.keepIn K (.ref C)=true
 be:W.mroIn K C (.type "BaseException")=some true
 ca:W.specialIn K (.ref C) "__call__"=some (some (.builtin "type.__call__"))
 ty:W.instIn K (.ref C) (.type "type")=some true
 se:W.mroIn K C (.ref C)=some true
 ob:W.mroIn K C (.type "object")=some true
 ini:W.findIn K (.ref C) "__init__"=some (some (.ref f))
 fn:W.typeIn K (.ref f)=some (.type "function")
 sa:W.findIn K (.ref C) "__setattr__"=some (some (.builtin "object.__setattr__"))
 ga:W.findIn K (.ref C) "__getattribute__"=some (some (.builtin "BaseException.__getattribute__"))
 gh:W.findIn K (.ref C) "__getattr__"=some none
 nm:∀n∈ns,W.findIn K (.ref C) n=some none
 dg:W.specialIn K (.ref D) "__getattribute__"=some (some (.builtin "type.__getattribute__"))
 dr:W.readsIn K D (.type "type")=true
 di:W.findCls K (.ref D) (.type "type") "__init__"=some (.val (.builtin "ValueError.__init__"))
theorem eD {K:W.Frag}{D:Addr}(X:K.In h)(q:cE K C f D ns=true):InitAt K C f D ns h:=by
 unfold cE at q;simp only[Bool.and_eq_true,beq_iff_eq,List.all_eq_true] at q;obtain⟨⟨⟨⟨⟨⟨⟨⟨⟨⟨⟨⟨⟨⟨⟨q1,kp⟩,be⟩,c1⟩,c2⟩,c3⟩,c4⟩,q2⟩,q3⟩,q4⟩,q5⟩,q6⟩,q7⟩,q8⟩,q9⟩,q10⟩:=q;have h10:W.findCls K (.ref D) (.type "type") "__init__"=some (.val (.builtin "ValueError.__init__")):=by
  split at q10
  ·assumption
  ·cases q10
 split at q1
 ·rename_i dd cd sl ho;split at q1
  ·rename_i k0 k1 k2 k3 n k5 hs;simp only[Bool.and_eq_true,beq_iff_eq,Bool.not_eq_true'] at q1;obtain⟨⟨⟨⟨a1,rfl⟩,a3⟩,a4⟩,a5⟩:=q1;obtain⟨nm,bs,mro,nsp,qn,hd,sn,sub,ab,col,del⟩:=cd;dsimp only at a1 a3 a4;subst a1 a3 a4;have hsl:sl=#[k0,k1,k2,k3,some (.builtin "ValueError.__new__"),k5]:=by obtain⟨l⟩:=sl;simp only at hs;rw[hs]
   subst hsl;exact⟨⟨nm,qn,nsp,bs,sn,sub,ab,col,dd,k0,k1,k2,k3,k5,X _ _ ho⟩,W.tail_of_in X a5,kp,be,c1,c2,c3,c4,q2,q3,q4,q5,q6,q7,q8,q9,h10⟩
  ·cases q1
 ·cases q1
noncomputable def ExO (e C:Addr)(dct:Option Addr):HO:=.ext fun h=>∃a:Addr,h.get? e=some (cA C a dct)
theorem ExO.ok {h:Heap}(x:h.get? e=some (cA C a dct)):ObjOk P w H h e (ExO e C dct) :=
 ⟨⟨a,x⟩,⟨_,x⟩,fun _ _ ⟨a,z⟩ k=>⟨a,k _ z⟩⟩
theorem ExO.get (x:ObjOk P w H h e (ExO e C dct)):∃a:Addr,h.get? e=some (cA C a dct):=x.1
end FW
namespace FW
open L2 HX
section
variable {X:Cx}{C f D:Addr}{ns:List Str}
theorem A4 {i:Nat}{ap pos:Pos}(q:cE X.K C f D ns=true)(hg:Gl X x)(hm:X.mg x=some (.ref D))(hN:X.N[i]?=some sf)(hv:Vis X.env.scope sf)(hdb:(x == ("__debug__":Str))=false)(hd:(sf == ("__debug__":Str))=false)(hcd:(sf == ("__classdict__":Str))=false)(hline:(ap.endLine == pos.line)=true) :
  PE X (.Call (.Attribute (.Name x p) "__init__" ap) [.Name sf p1,.Constant (.str t) j p2] [] pos) (fun σ H Q=>∃e,σ[i]?=some (some (.ref e))/\H e=some (ExO e C none)/\Q .non H):=by
 rintro pins s σ H Q I ⟨e,es,eh,hq⟩;have B:=eD I.kIn q;have hbase:attributeBase (.Name x p) "__init__" X.env (eval (.Name x p) X.env)=eval (.Name x p) X.env:=rfl;rw[arm_eval_Call,hbase];refine MB (dH I hg hm (MB (wpAny_standAt ?_)) hdb);have hform:methodCallForm (([.Name sf p1,.Constant (.str t) j p2]:List Expr).length+([]:List Keyword).length) (backTo pos (starEach [.Name sf p1,.Constant (.str t) j p2] X.env)) (backToKw pos (keywordEach [] X.env))=true:=rfl;have hpos:methodCallPos true (.Name x p) X.env ap pos=pure pos:=by unfold methodCallPos;simp[hline]
 unfold methodCall;rw[hform];refine MB (N1 ?_)
 ·refine W.method_cls I.kIn B.dg (W.cls_value I.kIn B.dr B.di (by decide +kernel) ?_);refine MB (wpAny_of_eq hpos ?_);have I1:L2.Inv X pins σ H { s with toks:=s.toks+1 }:=I.tok _;have hA:PA X [.Name sf p1,.Constant (.str t) j p2] (jz (Du i) (jz (tC (.str t)) sY)):=pac (dW hN hv hd hcd) (pac uR eX rfl) rfl;refine PyProof.Rows.callWith_builtin1 (thn (hA pos pins _ σ H (fun vs H'=>vs=[.ref e,.str t]/\H'=H) I1 ⟨.ref e,es,rfl,rfl⟩) fun us s1 ⟨vs,H1,I2,r,ev,eH⟩=>?_) (aO rfl) rfl;subst ev eH;cases r with
  | cons r1 r =>
  cases r with
  | cons r2 r =>
  cases r with
  | nil =>
  obtain rfl:=(show _=Value.ref e from r1);have B1:=eD I2.kIn q;obtain⟨nm,qn,N,bs,sn,sub,ab,col,dd,k0,k1,k2,k3,k5,hC⟩:=B1.obj;obtain⟨a,he⟩:=ExO.get (I2.hok e _ eh);have F:=PySem.F.excBase_ValueError;obtain⟨hp,g,d,tk,os⟩:=s1;refine wpAny_call (codeAny_call_builtin F.init.plain F.initEntry (wpAny_check_init_subU F B1.tail hC he rfl ?_))
  wp_walk
  rename_i bv _;have hx1:=MD (h:=hp) { cls:=.type "tuple",data:=.seq #[bv] } he;have hx2:=OB (Obj.mapFields (·.setIfInBounds 0 (Value.ref hp.objs.size))) hx1 rfl;have eH:upd H1 e (ExO e C none)=H1:=funext fun b=>by
   by_cases z:b=e
   ·rw[z,aw,eh]
   ·exact af z
  have I3:=I2.write (x:=e) (e:=e) (o:=ExO e C none) (h':=(hp.push { cls:=.type "tuple",data:=.seq #[bv] }).update e (Obj.mapFields (·.setIfInBounds 0 (Value.ref hp.objs.size)))) (t':=tk) (by rw [eh];exact True.intro) (.inl rfl)
   (fun b u hb z=>(NH _ _ (Ne.symm hb)).trans (MD _ z)) ⟨_,hx2⟩ (ExO.ok (a:=hp.objs.size) hx2)
  rw[eH] at I3;exact⟨.non,H1,I3,rfl,hq⟩
theorem En {i:Nat}{nx:Str}{pos:Pos}(q:cE X.K C f D ns=true)(hnx:nx∈ns)(hN:X.N[i]?=some sf)(hv:Vis X.env.scope sf)(hd:(sf == ("__debug__":Str))=false)(hcd:(sf == ("__classdict__":Str))=false)(hval:PE X value tv)(hs:swapsWith value (some (.Attribute (.Name sf p1) nx pos')) pos.line X.env=pure false) :
  PS X (.Assign [.Attribute (.Name sf p1) nx pos'] value pos) (fun D σ H=>tv σ H fun y H1=>∃e,σ[i]?=some (some (.ref e))/\H1 e=some (ExO e C none)/\∀d,H1 d=none->d≠e->D.nx σ (upd (upd H1 d (.xd [(nx,y)])) e (ExO e C (some d)))):=by
 intro pins s σ H D I h;refine plainObj_wpAny_Assign_Attribute (thn (hval pins s σ H _ I h) fun u s1 ⟨y,H1,I1,ry,e,es,eh,hq⟩=>thn (dW (X:=X) (i:=i) (x:=sf) (pos:=p1) hN hv hd hcd pins s1 σ H1 (fun v H'=>v=.ref e/\H'=H1) I1 ⟨.ref e,es,rfl,rfl⟩) fun ov s2 ⟨x,H2,I2,rx,ex,eH⟩=>?_) hs;subst ex eH;obtain rfl:ov=Value.ref e:=rx;have B:=eD I2.kIn q;obtain⟨nm,qn,N,bs,sn,sub,ab,col,dd,k0,k1,k2,k3,k5,hC⟩:=B.obj;obtain⟨a,he⟩:=ExO.get (I2.hok e _ eh);obtain⟨hp,g,d,tk,os⟩:=s2;refine xR hC he (W.looks_findIn I2.kIn B.sa) (W.looks_findIn I2.kIn (B.nm nx hnx)) (QO I2.kIn B.ob) fun h' tk' n1 hx hk=>?_;have hdn:H2 hp.objs.size=none:=I2.hok.fresh (MJ _);have hde:hp.objs.size≠e:=fun z=>by rw[z,eh] at hdn;cases hdn
 refine⟨σ,_,?_,hq _ hdn hde⟩;have hA1:=OB (h:=h') (fun _=>cA C a none) hx rfl;have hA2:∀b,b≠e->(h'.update e (fun _=>cA C a none)).get? b=h'.get? b:=fun b hb=>NH _ _ (Ne.symm hb);have Ia:=I2.laid (t':=tk') (a:=hp.objs.size) (o:=.xd [(nx,y)]) (h':=h'.update e (fun _=>cA C a none)) (fun b ub z=>by
   by_cases hb:b=e
   ·rw[hb] at z |-;rw[he] at z;cases z;exact hA1
   ·rw[hA2 b hb];exact hk b ub hb z) (MJ _) (by
   obtain⟨o1,e1,e2,z1,z2⟩:=n1;refine⟨_,⟨o1,e1,e2,(hA2 _ hde).trans z1,z2⟩,fun fx=>?_⟩;by_cases hf:fx=nx
   ·subst hf;simp only[List.lookup,beq_self_eq_true,if_true];exact ry
   ·rw[ML hf];simp only[List.lookup,beq_eq_false_iff_ne.mpr hf];exact True.intro)
 have Ib:=Ia.write (x:=e) (e:=e) (o:=ExO e C (some hp.objs.size)) (h':=h') (t':=tk') (by rw[af (Ne.symm hde),eh];exact True.intro) (.inl rfl) (fun b ub hb z=>(hA2 b hb).symm.trans z) ⟨_,hx⟩ (ExO.ok (a:=a) hx);exact Ib
end
end FW
namespace FW
open L2 HX
open PySem.W (Looks)
theorem zE {A:Around}{E:Value->Shared->Prop}(hh:A.handled=none)(h:wpAny (model P w) A x (fun v s1=>∃e C a dct,v=.ref e/\s1.heap.get? e=some (cA C a dct)/\(∃oc,s1.heap.get? C=some oc/\oc.cls=.type "type")/\Looks (model P w) s1.heap (isSubtype (.ref C) (.type "BaseException")) true/\E (.ref e) s1) E s):wpAny (model P w) A (raiseStmt env (some x) none) Q E s:=by
 unfold raiseStmt;refine MB (wpAny_mono h (fun v s1 z=>?_) fun _ _ z=>z);obtain⟨e,C,a,dct,rfl,he,⟨oc,hC,hoc⟩,lb,hE⟩:=z;obtain⟨hp,g,d,t,os⟩:=s1
 wp_walk
 refine lb.at ?_
 wp_walk
 exact wpAny_raiseNew_none hh hE
structure qj (P:Program)(w:World)(K:W.Frag)(mg:Str->Option Value)(base:Heap)(k:Nat)(C:Addr)(ns:List Str):Prop where
 ex:∃f D,cE K C f D ns=true/\∀(A:Around) (outer:List Env) (s:Shared) (H:Hp) (e:Addr) (us:List Value) (vs:List V),Room k A->Env0 P w K mg base A outer s H->Vals vs us->vs.length=ns.length->H e=some (ExO e C none) ->
  codeAny (model P w) A (.call (.ref f) ⟨.ref e::us,[]⟩) (CR CX0 outer P w H s (fun v H'=>v=.non/\∃d,H d=none/\d≠e/\H'=upd (upd H d (.xd (ns.zip vs))) e (ExO e C (some d))) E0) s
section
variable {X:Cx}{pins:List (Addr × Obj)}{σ:L2.St}{H:Hp}{s:Shared}
theorem Ek {Wx:XC->Hp->Prop}{D:L2.Ends}{e0:Expr}{es:List Expr}(I:L2.Inv X pins σ H s)(hc:X.calm=true)(hex:X.ex=[])(hg:Gl X x)(hdb:(x == ("__debug__":Str))=false)(hm:X.mg x=some (.ref C))(O:qj X.prog X.w X.K X.mg X.base k C ns)(hr:Room (k+1) X.A)(hA:PA X.nox (e0::es) ta)(hst:starEach (e0::es) X.env=(false,eval e0 X.env)::starEach es X.env)(hpl:(backTo cp (starEach es X.env)).any (·.1)=false)(hns:ns.length<=100)(w:ta σ H fun vs H1=>vs.length=ns.length/\∀d,H1 d=none->Wx (C,some d) (upd H1 d (.xd (ns.zip vs)))) :
  wpAny (model X.prog X.w) X.A (exec (.Raise (some (.Call (.Name x np) (e0::es) [] cp)) none pos) X.env) (SP X pins D) (xp X Wx) s:=by
 obtain⟨f,DC,q,run⟩:=O.ex;have B0:=eD I.kIn q;rw[arm_exec_Raise];refine MB (wpAny_standAt (zE (I.ok.hd hc) (MB ?_)));refine wpAny_mono (Q:=fun v s1=>∃e C' a dct,v=.ref e/\s1.heap.get? e=some (cA C' a dct)/\(∃oc,s1.heap.get? C'=some oc/\oc.cls=.type "type")/\Looks (model X.prog X.w) s1.heap (isSubtype (.ref C') (.type "BaseException")) true/\xp X Wx (.ref e) s1)
  (E:=xp X Wx) ?_ (fun v s3 z=>MB (wpAny_standAt (MU z))) fun _ _ z=>z
 refine wpAny_Call_Name_kw (dH I hg hm ?_ hdb);refine PY (h₀:=X.base) I.ok.mod.kin B0.kp (wpAny_mono (hA cp pins s σ H _ (I.wish _) w) (fun us s1 ⟨vs,H1,I1,r,hl,hq⟩=>⟨I1.kIn,?_⟩) fun _ _ z=>False.elim z) hst hpl;replace I1:=I1.unwish;have B:=eD I1.kIn q;obtain⟨nm,qn,N,bs,sn,sub,ab,col,dd,k0,k1,k2,k3,k5,hC⟩:=B.obj;have hn:us.length<=sizeLine:=by rw[<-r.length,hl,sizeLine_eq];omega
 refine wpAny_call (AF I1.kIn hC B.tail B.ini B.fn B.ca B.ty B.se hn ?_);have kp:∀b o,s1.heap.get? b=some o->((s1.heap.push { cls:=.type "tuple",data:=.seq us.toArray }).push (cA C s1.heap.objs.size none)).get? b=some o:=fun b o e=>MD _ (MD _ e);have hx:((s1.heap.push { cls:=.type "tuple",data:=.seq us.toArray }).push (cA C s1.heap.objs.size none)).get? (s1.heap.objs.size+1)=some (cA C s1.heap.objs.size none):=by heap_get
 have he1:H1 (s1.heap.objs.size+1)=none:=I1.hok.fresh (PF _);have I2:=I1.laid (t':=s1.toks) (a:=s1.heap.objs.size+1) (o:=ExO (s1.heap.objs.size+1) C none) kp (PF _) (ExO.ok (a:=s1.heap.objs.size) hx);refine wpAny_call (codeAny_mono (run _ X.stack _ _ (s1.heap.objs.size+1) us vs (hr.make C us []) (I2.env0.make C us []) r hl aw) fun rs s' z=>?_);generalize hE:s1.heap.objs.size+1=e at *;cases rs with
 | error _=>exact False.elim z
 | ok fl =>
 cases fl with
 | next=>exact False.elim z
 | brk=>exact False.elim z
 | cont=>exact False.elim z
 | ret u =>
 obtain⟨v,H',os,bare,un,hok,rv,rfl,d,hd,hde,rfl⟩:=z;obtain rfl:u=Value.none:=rv;have hd1:H1 d=none:=by rw[<-hd,af hde]
 have ge:∀b o,s1.heap.get? b=some o->b≠e:=fun b o z q=>by have y:=MR z;rw[q,<-hE] at y;exact absurd y (NW.mpr (PF _))
 have hHd:upd (upd (upd H1 e (ExO e C none)) d (.xd (ns.zip vs))) e (ExO e C (some d)) d=some (.xd (ns.zip vs)):=(af hde).trans aw;have oth:∀b,b≠e->b≠d->upd (upd (upd H1 e (ExO e C none)) d (.xd (ns.zip vs))) e (ExO e C (some d)) b=H1 b:=fun b h1 h2=>(af h1).trans ((af h2).trans (af h1));have ned:∀ {b:Addr}{o:HO},H1 b=some o->b≠d:=fun {b o} z q=>by rw[q,hd1] at z;cases z
 have nee:∀ {b:Addr}{o:HO},H1 b=some o->b≠e:=fun {b o} z q=>by rw[q,he1] at z;cases z
 have un':Un (frs X.stack) [] H1 (upd H1 d (.xd (ns.zip vs))) s1.heap s'.heap:=by
  refine⟨fun b o z n hb hx=>un.keep b o (kp b o z) ((af (ge b o z)).trans n) hb hx,fun b o z n hb hx=>un.slot b o (kp b o z) ((af (ge b o z)).trans n) hb hx,fun b o z n hx=>?_,fun b o z hx=>un.there b o (kp b o z) hx,
   fun b xs z=>(af (ned z)).trans z,fun b o y z=>(af (ned z)).trans z,fun b ps z=>⟨#[],by rw[af (ned z),z];simp⟩⟩
  have y:=un.free b o (kp b o z) ((af (ge b o z)).trans n) hx;have hbd:b≠d:=fun q=>by rw[q,hHd] at y;cases y
  exact(af hbd).trans n
 have hok':HOk X.prog X.w (upd H1 d (.xd (ns.zip vs))) s'.heap:=fun b o z=>by
  by_cases hb:b=d
  ·subst hb;rw[aw] at z;cases z;exact hok _ _ hHd
  ·rw[af hb] at z;refine(hok b o ((oth b (nee z) hb).trans z)).stay (fun _ _ _ q=>q) (fun c q=>?_) fun c xs q=>?_
   ·have h1:c≠e:=fun y=>by rw[y,aw] at q;cases q
    have h2:c≠d:=fun y=>by rw[y,hHd] at q;cases q
    rw[oth c h1 h2] at q;exact(af h2).trans q
   ·have h1:c≠e:=fun y=>by rw[y,aw] at q;cases q
    have h2:c≠d:=fun y=>by rw[y,hHd] at q;cases q
    rw[oth c h1 h2] at q;exact(af h2).trans q
 have I3:L2.Inv X pins σ (upd H1 d (.xd (ns.zip vs))) s':=I1.call' (ch:=[]) os un' hok' bare fun b z=>by cases z
 have B3:=eD I3.kIn q;obtain⟨_,_,_,_,_,_,_,_,_,_,_,_,_,_,hC3⟩:=B3.obj;obtain⟨a,hea⟩:=ExO.get (hok e _ aw);refine⟨rfl,e,C,a,some d,rfl,hea,⟨_,hC3,rfl⟩,QO I3.kIn B3.be,e,(C,some d),pins,σ,_,rfl,I3,⟨⟨_,_,hea,⟨rfl,rfl⟩,rfl,.inl rfl⟩,?_,?_⟩,hq d hd1⟩
 ·exact PC (MY I1.sz (by rw[<-hE];exact PF _))
 ·exact(af (Ne.symm hde)).trans he1
end
end FW
namespace FW
open L2 HX
noncomputable abbrev XW:=Nat->PV->AH->Prop
noncomputable abbrev okR (v:PV):PV:=.tup [.bl true,v]
noncomputable abbrev exV (k:Nat)(v:PV):PV:=.tup [.bl false,.int k,v]
noncomputable def jL (Q:EK)(Wx:XW):EK:=fun r st=>match r with
 | .tup [.bl true,v]=>Q v st
 | .tup [.bl false,.int k,v]=>Wx k.toNat v st
 | _=>False
theorem wV:jL Q Wx (okR v) st=Q v st:=rfl
theorem D5:jL Q Wx (exV k v) st=Wx k v st:=rfl
theorem gU {Q':EK}{W':XW}(hq:∀v st,Q v st->Q' v st)(hw:∀k v st,Wx k v st->W' k v st):∀r st,jL Q Wx r st->jL Q' W' r st:=by
 intro r st h;unfold jL at h |-
 split at h
 ·exact hq _ _ h
 ·exact hw _ _ _ h
 ·exact h.elim
mutual
inductive XS where
 | st (s:S)|ifX (t:E) (a b:XSs)|raiV (k n:Nat) (es:Es)|forX (t:Tg) (it:It) (b:XSs)
inductive XSs where
 | nil|cons (s:XS) (ss:XSs)
end
mutual
noncomputable def wpX (Γ ΓR:Nat->FSp):XS->Fr->AH->aC->XW->Prop
 | .st s,ρ,st,D,_=>wpS Γ s ρ st D
 | .ifX t a b,ρ,st,D,Wx=>wpT Γ t ρ st fun k st1=>if k=true then bN Γ ΓR a ρ st1 D Wx else bN Γ ΓR b ρ st1 D Wx
 | .raiV k n es,ρ,st,_,Wx=>a9 Γ es ρ st fun vs st1=>vs.length=n/\Wx k (.tup vs) st1
 | .forX t it b,ρ,st,D,Wx=>iJ Γ it ρ st fun xs chk st1=>gk chk (fun x ρ' st' D'=>bt Γ t x ρ' st' fun ρ2 st2=>bN Γ ΓR b ρ2 st2 D' Wx) D xs ρ st1
noncomputable def bN (Γ ΓR:Nat->FSp):XSs->Fr->AH->aC->XW->Prop
 | .nil,ρ,st,D,_=>D.nx ρ st
 | .cons s ss,ρ,st,D,Wx=>wpX Γ ΓR s ρ st { D with nx:=fun ρ1 st1=>bN Γ ΓR ss ρ1 st1 D Wx } Wx
end
section
variable {Γ ΓR:Nat->FSp}
mutual
theorem tV (G:aJ Γ)(G':aJ ΓR):∀(s:XS) {ρ:Fr}{st:AH}{D D':aC}{Wx W':XW},gD D D'->(∀k v st,Wx k v st->W' k v st)->wpX Γ ΓR s ρ st D Wx->wpX Γ ΓR s ρ st D' W'
 | .st s,ρ,st,D,D',Wx,W',hD,hW,h=>by
  rw[wpX] at h |-
  exact ej G s hD h
 | .ifX t a b,ρ,st,D,D',Wx,W',hD,hW,h=>by
  rw[wpX] at h |-
  refine aM G t (fun k st1 z=>?_) h;cases k with
  | true=>rw[MN rfl] at z |-;exact bJ G G' a hD hW z
  | false=>rw[ML MA] at z |-;exact bJ G G' b hD hW z
 | .raiV k n es,ρ,st,D,D',Wx,W',hD,hW,h=>by
  rw[wpX] at h |-
  exact au G es (fun vs st1 z=>⟨z.1,hW _ _ _ z.2⟩) h
 | .forX t it b,ρ,st,D,D',Wx,W',hD,hW,h=>by
  rw[wpX] at h |-
  exact cX G it (fun xs chk st1 z=>fF hD (fun x ρ st D D' hD q=>aG G t (fun ρ2 st2 q=>bJ G G' b hD hW q) q) z) h
theorem bJ (G:aJ Γ)(G':aJ ΓR):∀(s:XSs) {ρ:Fr}{st:AH}{D D':aC}{Wx W':XW},gD D D'->(∀k v st,Wx k v st->W' k v st)->bN Γ ΓR s ρ st D Wx->bN Γ ΓR s ρ st D' W'
 | .nil,ρ,st,D,D',Wx,W',hD,hW,h=>by
  rw[bN] at h |-
  exact hD.nx _ _ h
 | .cons s ss,ρ,st,D,D',Wx,W',hD,hW,h=>by
  rw[bN] at h |-
  exact tV G G' s (D:={ D with nx:=fun ρ1 st1=>bN Γ ΓR ss ρ1 st1 D Wx }) (D':={ D' with nx:=fun ρ1 st1=>bN Γ ΓR ss ρ1 st1 D' W' }) ⟨fun _ _ z=>bJ G G' ss hD hW z,hD.rt,hD.bk,hD.ct⟩ hW h
end
end
structure Xf where
 xs:List Str
 rz:List Nat
 iv:List (Nat × Nat):=[]
noncomputable def HZ (x:Stmt)(f:Expr->Bool):Bool:=match x with | .Raise (some e) none _=>f e|_=>false
theorem Bv (h:HZ x f=true):∃e p,x=.Raise (some e) none p/\f e=true:=by
 unfold HZ at h;split at h
 ·exact⟨_,_,rfl,h⟩
 ·cases h
noncomputable def lD (x:Expr)(f:Str->List Expr->Bool):Bool:=onCall x fun g as _=>aA g fun y _=>f y as
theorem gB (h:lD x f=true):∃g gp as p,x=.Call (.Name g gp) as [] p/\f g as=true:=by replace h:=aP h;obtain⟨g,as,p,rfl,h⟩:=h;replace h:=ai h;obtain⟨y,q,rfl,h⟩:=h;exact⟨_,_,_,_,rfl,h⟩
mutual
noncomputable def yu (c:Cfg)(F:Xf):XS->Stmt->Bool
 | .st s,x=>IF c s x
 | .ifX t a b,x=>Hz x fun y ys zs=>vz c t y && iz c F a ys && iz c F b zs
 | .raiV k n es,x=>HZ x fun e=>lD e fun y as=>onCons as fun a r=>F.xs[k]? == some y && c.glb y && F.iv.contains (k,n) && decide (2<=c.lim) && ar a && r.all ar && cG c es (a::r)
 | .forX t it b,x=>wZ x fun tg x ys=>vZ it tg && iA x && jj c t tg && xj c it x && iz c F b ys
noncomputable def iz (c:Cfg)(F:Xf):XSs->List Stmt->Bool
 | .nil,x=>x.isEmpty
 | .cons s ss,x=>onCons x fun y ys=>yu c F s y && iz c F ss ys
end
noncomputable abbrev CA:=Nat->Addr × List Str
def Pay (K:W.Frag)(m:List Addr)(H:Hp)(ns:List Str)(dx:Option Addr)(v:PV):Prop:=match v,dx with
 | .tup vs,some d=>∃xs,H d=some (.xd (ns.zip xs))/\Rs K m H vs xs
 | .non,none=>True
 | _,_=>False
noncomputable def EJ (K:W.Frag)(m:List Addr)(H:Hp)(ca:CA)(E:XK):XW:=fun k v st'=>∀m' H' dx,Ext K m H m' H'->RH K m' H' st'->Pay K m' H' (ca k).2 dx v->E (.ref (ca k).1) dx H'
noncomputable def j_ (K:W.Frag)(ca:CA)(sp:FSp):Sp:=fun vs H Q E=>∃m st as,Rs K m H as vs/\RH K m H st/\sp as st (jL (post K m H Q) (EJ K m H ca E))
structure HasX (P:Program)(w:World)(K:W.Frag)(mg:Str->Option Value)(base:Heap)(k:Nat)(x:Str)(ps:List Str)(sp:Sp):Prop where
 ex:∃(f:Addr) (fd:FuncData),kW P w K mg base (CXe P w) k f fd ps sp/\mg x=some (.ref f)/\W.keepIn K (.ref f)=true/\Binds K fd ps []
structure XG (P:Program)(w:World)(K:W.Frag)(mg:Str->Option Value)(base:Heap)(c:Cfg)(F:Xf)(ΓR:Nat->FSp)(ca:CA):Prop where
 fn:∀f x,f<c.lim->c.fns[f]?=some x->F.rz.contains f=true->∃ps,HasX P w K mg base (f+1) x ps (j_ K ca (ΓR f))
 cls:∀k x,F.xs[k]?=some x->F.iv.all (fun p=>p.1 != k)=true->mg x=some (.ref (ca k).1)/\W.excIn K (ca k).1 ky "ValueError.__new__"=true
 ini:∀k n x,F.xs[k]?=some x->F.iv.contains (k,n)=true->mg x=some (.ref (ca k).1)/\qj P w K mg base 1 (ca k).1 (ca k).2/\(ca k).2.length=n/\n<=100
 mono:aJ ΓR
noncomputable def postW (K:W.Frag)(m:List Addr)(H:Hp)(ca:CA)(Wx:XC->Hp->Prop):XW:=fun k v st'=>∀m' H' dx,Ext K m H m' H'->RH K m' H' st'->Pay K m' H' (ca k).2 dx v->Wx ((ca k).1,dx) H'
theorem postW.ext (x:Ext K m H m1 H1)(q:postW K m H ca Wx k v st):postW K m1 H1 ca Wx k v st:=fun m' H' dx e r y=>q m' H' dx (x.trans e) r y
noncomputable abbrev TX:=L2.Ends->(XC->Hp->Prop)->L2.St->Hp->Prop
noncomputable def TXx (K:W.Frag)(ca:CA)(w:Fr->AH->aC->XW->Prop):TX:=fun D Wx σ H=>∃m ρ st,RF K m H ρ σ/\RH K m H st/\w ρ st (AE K m H D) (postW K m H ca Wx)
def PX (X:Cx)(st:Stmt)(t:TX):Prop :=
 ∀(pins:List (Addr × Obj)) (s:Shared) (σ:L2.St) (H:Hp) (D:L2.Ends) (Wx:XC->Hp->Prop),L2.Inv X pins σ H s->t D Wx σ H->wpAny (model X.prog X.w) X.A (exec st X.env) (SP X pins D) (xp X Wx) s
def PXs (X:Cx)(st:List Stmt)(t:TX):Prop :=
 ∀(pins:List (Addr × Obj)) (s:Shared) (σ:L2.St) (H:Hp) (D:L2.Ends) (Wx:XC->Hp->Prop),L2.Inv X pins σ H s->t D Wx σ H->wpAny (model X.prog X.w) X.A (execs st X.env) (SP X pins D) (xp X Wx) s
section
variable {X:Cx}{c:Cfg}{F:Xf}{Γ ΓR:Nat->FSp}{ca:CA}
theorem PA.to {E:Value->Shared->Prop}(h:PA X.nox es t):PA (X.wish E) es t:=fun pos pins s σ H Q I w =>
 wpAny_mono (h pos pins s σ H Q (I.unwish.wish _) w) (fun _ _ ⟨v,H',I',r,q⟩=>⟨v,H',I'.unwish.wish _,r,q⟩) fun _ _ z=>False.elim z
theorem PI.to {E:Value->Shared->Prop}(h:PI X.nox tg iter wi):PI (X.wish E) tg iter wi:=fun pins s σ H R I w =>
 wpAny_mono (h pins s σ H R (I.unwish.wish _) w) (fun _ _ z=>wpAny_mono z (fun _ _ ⟨it,fp,tn,J,H',e,I',T,z1,z2,z3⟩=>⟨it,fp,tn,J,H',e,I'.unwish.wish _,T,z1,z2,z3⟩) fun _ _ z=>False.elim z) fun _ _ z=>False.elim z
theorem PG.to {E:Value->Shared->Prop}(h:PG X.nox tg t):PG (X.wish E) tg t:=fun pins s σ H v u Q I r w =>
 wpAny_mono (h pins s σ H v u Q (I.unwish.wish _) r w) (fun _ _ ⟨σ',H',I',q⟩=>⟨σ',H',I'.unwish.wish _,q⟩) fun _ _ z=>False.elim z
theorem CQ (G:aJ Γ)(G':aJ ΓR){D:L2.Ends}(h:TXx X.K ca (wpX Γ ΓR (.forX t it b)) D Wx σ H):DP (TIx X.K (iJ Γ it)) (TGx X.K (bt Γ t)) (fun D σ H=>TXx X.K ca (bN Γ ΓR b) D Wx σ H) D σ H:=by
 obtain⟨m,ρ,st,rf,rh,w⟩:=h;rw[wpX] at w;refine⟨m,ρ,st,rf,rh,cX G it (fun xs chk st1 k m1 H1 J e1 r1 W=>?_) w⟩;refine⟨fun i n σ' H'=>n+i=xs.length/\∃m' ρ' st',Ext X.K m1 H1 m' H'/\RH X.K m' H' st'/\RF X.K m' H' ρ' σ'/\gk chk (fun x ρ' st' D'=>bt Γ t x ρ' st' fun ρ2 st2=>bN Γ ΓR b ρ2 st2 D' (postW X.K m H ca Wx)) (AE X.K m H D) (xs.drop i) ρ' st',
  ⟨xs.length,rfl,m1,ρ,st1,Ext.refl _ _ _,r1,rf.mono e1,by simpa using k⟩,?_⟩
 rintro i n σ' H' ⟨hn,m',ρ',st',x',rh',rf',k'⟩;cases q:xs.drop i with
 | nil =>
  rw[q] at k';have hi:i=xs.length:=by have:=NC List.length q;simp at this;omega
  subst hi;exact .inl ⟨W.stop m' H' st' x' rh' k'.1,k'.2 m' H' σ' (e1.trans x') rh' rf'⟩
 | cons v rest =>
  rw[q] at k';have hi:i<xs.length:=by have:=NC List.length q;simp at this;omega
  have ev:xs[i]?=some v:=by have:=NC List.head? q;rw[OY] at this;exact this
  have er:rest=xs.drop (i+1):=by have:=NC List.tail q;rw[O6] at this;exact this.symm
  subst er;obtain⟨kc,k'⟩:=k';obtain⟨go,yl⟩:=W.item i v m' H' st' x' rh' kc ev;refine .inr ⟨go,fun σ'' H''=>(n-1+(i+1)=xs.length/\∃m' ρ' st',Ext X.K m1 H1 m' H''/\RH X.K m' H'' st'/\RF X.K m' H'' ρ' σ''/\gk chk (fun x ρ' st' D'=>bt Γ t x ρ' st' fun ρ2 st2=>bN Γ ΓR b ρ2 st2 D' (postW X.K m H ca Wx)) (AE X.K m H D) (xs.drop (i+1)) ρ' st'),fun σ'' H'' z=>⟨n-1,by omega,z⟩,fun y H2 hy=>?_⟩;obtain⟨x2,r2,rv⟩:=yl y H2 hy;refine⟨m',ρ',st',v,rf'.mono x2,r2,rv,aG G t (fun ρ3 st3 k3 m3 H3 σ3 x3 r3 f3=>?_) k'⟩;have xx:Ext X.K m H m3 H3:=((e1.trans x').trans x2).trans x3;refine⟨m3,ρ3,st3,f3,r3,bJ G G' b ?_ (fun _ _ _ q=>q.ext xx) k3⟩;refine⟨fun ρ4 st4 k4 m4 H4 σ4 x4 r4 f4=>⟨by omega,m4,ρ4,st4,((x'.trans x2).trans x3).trans x4,r4,f4,k4⟩,fun v4 st4 k4=>k4.ext xx,fun ρ4 st4 k4=>k4.ext xx,fun ρ4 st4 k4 m4 H4 σ4 x4 r4 f4=>⟨by omega,m4,ρ4,st4,((x'.trans x2).trans x3).trans x4,r4,f4,k4⟩⟩
section
variable {X:Cx}{Γ ΓR:Nat->FSp}{ca:CA}{pins:List (Addr × Obj)}{σ:L2.St}{H:Hp}{s:Shared}
variable {f:Nat}
end
section
variable {Y:Cx}{CX:CXT}{k:Nat}{f:Addr}{fd:FuncData}{ps:List Str}{sp:Sp}{dvs:List V}{ds:List Value}{Ex:XK}{x:Str}{p pos:Pos}{e:Expr}{es:List Expr}{t:TA}{σ:L2.St}
theorem BJ (F:kW Y.prog Y.w Y.K Y.mg Y.base CX k f fd ps sp)(hr:Room k Y.A)(hg:Gl Y x)(hm:Y.mg x=some (.ref f))(hk:W.keepIn Y.K (.ref f)=true)(hb:Binds Y.K fd ps ds)(hd:Vals dvs ds)
  (hx:∀pins H s e s',L2.Inv Y pins σ H s->CX Y.stack H s Ex e s'->Y.xe e s')
  (ha:PA Y (e::es) t) (hdb:(x == ("__debug__":Str))=false) (he:starEach (e::es) Y.env=(false,eval e Y.env)::starEach es Y.env) (hpl:(backTo pos (starEach es Y.env)).any (·.1)=false) :
  PE Y (.Call (.Name x p) (e::es) [] pos) (fun σ' H Q=>σ'=σ/\kK sp dvs Ex t σ' H Q):=by
 rintro pins s σ' H Q I ⟨rfl,h⟩;refine wpAny_Call_Name_kw (dH I hg hm ?_ hdb);refine PY (h₀:=Y.base) I.ok.mod.kin hk (thn (ha pos pins s σ' H _ I h) fun us s1 ⟨vs,H1,I1,r,q⟩=>⟨I1.kIn,?_⟩) he hpl;have r2:Vals (vs++dvs) (us++ds):=r.append hd;have hl:(us++ds).length=ps.length:=by rw[<-r2.length];exact F.len _ _ _ _ q
 refine wpAny_call (codeAny_mono (F.run Y.A Y.stack s1 H1 ⟨us,[]⟩ (us++ds) (vs++dvs) Q Ex hr I1.env0 (hb s1 us I1.kIn hl) r2 q) fun r s' hq=>?_);cases r with
 | error e=>exact hx pins H1 s1 e s' I1 hq
 | ok fl =>
  cases fl with
  | ret u=>exact I1.after hq
  | next=>exact False.elim hq
  | brk=>exact False.elim hq
  | cont=>exact False.elim hq
end
mutual
theorem Lj (C:COk X.nox c Γ)(G:XG X.prog X.w X.K X.mg X.base c F ΓR ca)(hex:X.ex=[])(hc:X.calm=true)(hpn:X.pn=[])(hst:X.stack=X.env::X.outer)(hfr:X.env.frame=some X.env.locals):∀(e:XS) (x:Stmt),yu c F e x=true->PX X x (TXx X.K ca (wpX Γ ΓR e))
 | .st e,x,h=>by rw[yu] at h;rintro pins s σ H D Wx I ⟨m,ρ,st,rf,rh,w⟩;rw[wpX] at w;exact wpAny_mono (K1 C e x h pins s σ H D (I.wish _) ⟨m,ρ,st,rf,rh,w⟩) (fun _ _ q=>q.unwish) fun _ _ z=>False.elim z
 | .ifX t a b,x,h=>by
  rw[yu] at h;replace h:=tG h;obtain⟨x,ys,zs,p,rfl,h⟩:=h;simp only[Bool.and_eq_true] at h;obtain⟨⟨h1,h2⟩,h3⟩:=h;rintro pins s σ H D Wx I ⟨m,ρ,st,rf,rh,w⟩;rw[wpX] at w;refine wpAny_If (wpAny_mono (lY t C _ h1 pins s σ H (fun k H1=>if k=true then TXx X.K ca (bN Γ ΓR a) D Wx σ H1 else TXx X.K ca (bN Γ ΓR b) D Wx σ H1) (I.wish _) ⟨m,ρ,st,rf,rh,aM C.mono t (fun k st1 z m1 H1 e1 r1=>?_) w⟩) (fun d s1 ⟨H1,I1,q1⟩=>?_) fun _ _ z=>False.elim z)
  ·cases k with
   | true=>rw[MN rfl] at z |-;exact⟨m1,ρ,st1,rf.mono e1,r1,bJ C.mono G.mono a (AE.ext e1) (fun _ _ _ q=>q.ext e1) z⟩
   | false=>rw[ML MA] at z |-;exact⟨m1,ρ,st1,rf.mono e1,r1,bJ C.mono G.mono b (AE.ext e1) (fun _ _ _ q=>q.ext e1) z⟩
  ·cases d with
   | true=>exact tF C G hex hc hpn hst hfr a _ h2 pins s1 σ H1 D Wx I1.unwish q1
   | false=>exact tF C G hex hc hpn hst hfr b _ h3 pins s1 σ H1 D Wx I1.unwish q1
 | .raiV k n es,x,h=>by rw[yu] at h;replace h:=Bv h;obtain⟨e,p,rfl,h⟩:=h;replace h:=gB h;obtain⟨y,gp,as,cp,rfl,h⟩:=h;replace h:=aq h;obtain⟨a,r,rfl,h⟩:=h;simp only[Bool.and_eq_true,beq_iff_eq,decide_eq_true_eq] at h;obtain⟨⟨⟨⟨⟨⟨h1,h2⟩,h3⟩,h4⟩,h5⟩,h6⟩,h7⟩:=h;obtain⟨g1,g2,g3⟩:=C.glbx h2;obtain⟨o1,o2,o3,o4⟩:=G.ini k n y h1 h3;rintro pins s σ H D Wx I ⟨m,ρ,st,rf,rh,w⟩;rw[wpX] at w;refine Ek I hc hex g1 g2 o1 o2 (C.room.mono h4) (fK es C _ h7) (aO h5) (d_ h6) (by rw[o3];exact o4) ⟨m,ρ,st,rf,rh,au C.mono es (fun vs st1 z m1 H1 xs1 e1 r1 r2=>?_) w⟩;refine⟨by rw[o3,<-z.1];exact r2.len.symm,fun d hd=>z.2 m1 _ (some d) (e1.trans (Ext.newT r1 hd)) (r1.newT hd) ⟨xs1,aw,r2.mono (Ext.newT r1 hd)⟩⟩
 | .forX t it b,x,h=>by
  rw[yu] at h;replace h:=j6 h;obtain⟨tg,x,ys,p,rfl,h⟩:=h;simp only[Bool.and_eq_true] at h;obtain⟨⟨⟨⟨h0,h1⟩,h2⟩,h3⟩,h4⟩:=h;intro pins s σ H D Wx I w;have hb:PSs (X.wish (xp X Wx)) ys (fun D σ H=>TXx X.K ca (bN Γ ΓR b) D Wx σ H):=fun pins s σ H D I w=>wpAny_mono (tF C G hex hc hpn hst hfr b _ h4 pins s σ H D Wx I.unwish w) (fun f s' q=>by
   cases f with
   | next=>obtain⟨σ',H',I,q⟩:=q;exact⟨σ',H',I.wish _,q⟩
   | brk=>obtain⟨σ',H',I,q⟩:=q;exact⟨σ',H',I.wish _,q⟩
   | cont=>obtain⟨σ',H',I,q⟩:=q;exact⟨σ',H',I.wish _,q⟩
   | ret u=>obtain⟨v,σ',H',I,r,q⟩:=q;exact⟨v,σ',H',I.wish _,r,q⟩) fun _ _ q=>q
  exact wpAny_mono (vd (X:=X.wish (xp X Wx)) (HY hpn hex hst hfr) hc (PI.to (wH it C _ h0 h3)) (PG.to (kA t C _ h2)) hb (i_ h1) pins s σ H D (I.wish _) (CQ C.mono G.mono w)) (fun _ _ q=>q.unwish) fun _ _ q=>q
theorem tF (C:COk X.nox c Γ)(G:XG X.prog X.w X.K X.mg X.base c F ΓR ca)(hex:X.ex=[])(hc:X.calm=true)(hpn:X.pn=[])(hst:X.stack=X.env::X.outer)(hfr:X.env.frame=some X.env.locals):∀(e:XSs) (x:List Stmt),iz c F e x=true->PXs X x (TXx X.K ca (bN Γ ΓR e))
 | .nil,x,h=>by
  rw[iz] at h;cases x with
  | nil =>rintro pins s σ H D Wx I ⟨m,ρ,st,rf,rh,w⟩;rw[bN] at w;exact wpAny_execs_nil ⟨_,_,I,postF.here w rh rf⟩
  | cons _ _=>cases h
 | .cons e es,x,h=>by
  rw[iz] at h;replace h:=aq h;obtain⟨y,ys,rfl,h⟩:=h;simp only[Bool.and_eq_true] at h;rintro pins s σ H D Wx I ⟨m,ρ,st,rf,rh,w⟩;rw[bN] at w;refine wpAny_execs_cons (thn (Lj C G hex hc hpn hst hfr e _ h.1 pins s σ H { D with nx:=fun σ1 H1=>TXx X.K ca (bN Γ ΓR es) D Wx σ1 H1 } Wx I ⟨m,ρ,st,rf,rh,tV C.mono G.mono e (D:={ AE X.K m H D with nx:=fun ρ1 st1=>bN Γ ΓR es ρ1 st1 (AE X.K m H D) (postW X.K m H ca Wx) }) (D':=AE X.K m H { D with nx:=fun σ1 H1=>TXx X.K ca (bN Γ ΓR es) D Wx σ1 H1 }) ⟨fun ρ1 st1 k m1 H1 σ1 e1 r1 f1=>⟨m1,ρ1,st1,f1,r1,bJ C.mono G.mono es (AE.ext e1) (fun _ _ _ q=>q.ext e1) k⟩,fun _ _ q=>q,fun _ _ q=>q,fun _ _ q=>q⟩ (fun _ _ _ q=>q) w⟩) fun f s1 q=>?_);cases f with
  | next =>obtain⟨σ',H',I',q⟩:=q;exact tF C G hex hc hpn hst hfr es _ h.2 pins s1 σ' H' D Wx I' q
  | ret v=>exact q
  | brk=>exact q
  | cont=>exact q
end
end
end FW
namespace FW
open L2 HX
noncomputable def oI (st:AH)(Q:EK):aC:={ nx:=fun _ st'=>Ret st (fun v s=>Q (okR v) s) .non st',rt:=Ret st (fun v s=>Q (okR v) s) }
noncomputable def wm (st:AH)(Q:EK):XW:=fun k v st'=>Ret st (fun u s=>Q (exV k u) s) v st'
theorem Pay.cut {m m':List Addr}{v:PV}(hm:m'.take m.length=m)(hb:v.bel m.length=true)(p:Pay K m' H' ns dx v):Pay K m H' ns dx v:=by
 unfold Pay at p |-
 split at p
 ·obtain⟨xs,p1,p2⟩:=p;rw[PV.bel] at hb;have p3:=Rs.cutm p2 (PV.bels_becs (MJ _) hb);rw[hm] at p3;exact⟨xs,p1,p3⟩
 ·exact p
 ·exact p.elim
def okO (sp:FSp):FSp:=fun as st Q=>sp as st (jL Q fun _ _ _=>False)
section
variable {P:Program}{w:World}{K:W.Frag}{mg:Str->Option Value}{base:Heap}{c:Cfg}{F:Xf}{Γ ΓR:Nat->FSp}{ca:CA}
theorem DR {code:XSs}(A0:At K mg x st ps)(S:ak N ps (ae st))(hN:c.N=N)(hn:c.names=(ae st).names)(hc:iz c F code (ah st)=true)(G:GOk P w K mg base c Γ)(GX:XG P w K mg base c F ΓR ca)(len:∀as st Q,sp as st Q->as.length=ps.length)(ms:∀as st Q Q',(∀v st,Q v st->Q' v st)->sp as st Q->sp as st Q')(h:∀as st Q,sp as st Q->bN Γ ΓR code (frame N.length as) st (oI st Q) (wm st Q))(hpc:c.pc=false:=by rfl)(hhm:c.hm=none:=by rfl):HasX P w K mg base (c.lim+1) x ps (j_ K ca sp):=by
 obtain⟨f,fd,Ff,fm,fb⟩:=A0.ex;have kp:=Ff.kp;obtain⟨oc,od,kV,doc,pm,an,cdv,ct,osl,rfl,lk,hcd⟩:=Ff.ex;refine⟨f,_,y9 lk hcd S (fun vs H Q E ⟨m,st,as,r1,r2,q⟩=>by rw[<-r1.len];exact len as st _ q) fun A outer s H vs Q E hr ⟨m,st',as,r1,r2,q⟩=>?_,fm,kp,fb⟩;have C:COk (dv (CXe P w) P w K mg base N x (ae st) f cdv A outer s H E).nox c Γ:=j5 (E:=E) (H:=H) (outer:=outer) (Γ:=Γ) S hN hn hr G (fun z=>by rw[hpc] at z;cases z) fun k z=>by rw[hhm] at z;cases z
 refine⟨fun D σ H1=>TXx K ca (bN Γ ΓR code) D (fun C H'=>E (.ref C.1) C.2 H') σ H1,fun pins s1 σ H1 D I w=>wpAny_mono (tF C GX rfl rfl rfl rfl rfl code _ hc pins s1 σ H1 D _ I w) (fun _ _ q=>q) fun e s' q=>AQ q,m,frame N.length as,st',fE r1,r2,bJ G.mono GX.mono code ?_ ?_ (h as st' _ q)⟩
 ·exact⟨fun ρ st2 k m' H' σ' e r f=>bQ r2 k m' H' .non e r (R_non.mpr rfl),fun v st2 k=>bQ r2 k,fun _ _ k=>k.elim,fun _ _ k=>k.elim⟩
 ·intro k v st2 z m' H' dx e r y;rcases z with z|⟨st1,g,z1,z2,z3,z4,z⟩
  ·exact z m' H' dx e r y
  ·obtain⟨st1,q,e2,r3,_⟩:=lr (Q:=fun _ s=>jL (post K m H Q) (EJ K m H ca E) (exV k v) s) (v:=.non) r2 e r (R_non.mpr rfl) ⟨st1,g,z1,z2,z3,by rw[PV.bel],z⟩;have hm:m'.take m.length=m:=by obtain⟨t,ht⟩:=e.pre;rw[<-ht,List.take_left]
   exact q m H' dx e2 r3 (Pay.cut hm (by rw[r2.len];exact z4) y)
theorem HasX.ok {sp:FSp}(ms:∀as st Q Q',(∀v st,Q v st->Q' v st)->sp as st Q->sp as st Q')(h:HasX P w K mg base k x ps (j_ K ca sp)):Has P w K mg base k x ps (bj K (okO sp)):=by
 obtain⟨f,fd,Fn,fm,fk,fb⟩:=h.ex;have imp:∀vs H Q E,bj K (okO sp) vs H Q E->j_ K ca sp vs H Q E0:=fun vs H Q E ⟨m,st,as,r1,r2,q⟩=>⟨m,st,as,r1,r2,ms _ _ _ _ (gU (fun _ _ z=>z) fun _ _ _ z=>z.elim) q⟩;refine⟨f,fd,⟨fun vs H Q E q=>Fn.len vs H Q E0 (imp _ _ _ _ q),fun A outer s H args us vs Q E hr he hb hv hs=>codeAny_mono (Fn.run A outer s H args us vs Q E0 hr he hb hv (imp _ _ _ _ hs)) fun r s' z=>?_⟩,fm,fk,fb⟩;cases r with
 | error e =>obtain⟨_,_,_,_,_,_,_,_,_,_,z⟩:=z;exact z
 | ok fl=>cases fl <;> exact z
end
end FW
namespace FW
open L2 HX
noncomputable abbrev Cx.pin (X:Cx)(pins:List (Addr × Obj))(E:Value->Shared->Prop):Cx:={ X with pn:=X.pn++pins,xe:=E }
section
variable {X:Cx}{pins:List (Addr × Obj)}{σ:L2.St}{H:Hp}{s:Shared}{E:Value->Shared->Prop}
theorem Inv.pinned (I:L2.Inv X pins σ H s)(E:Value->Shared->Prop):L2.Inv (Cx.pin X pins E) [] σ H s :=
 ⟨⟨I.ok.mod,I.ok.kind,I.ok.glob,I.ok.blt,I.ok.above,I.ok.inj,I.ok.has,I.ok.cab,I.ok.hd,I.ok.frames,I.ok.stk,I.ok.exf,I.ok.bs,I.ok.bsz,I.ok.noex,I.ok.exfs,I.ok.funs,I.ok.frf⟩,I.os,I.bare,I.base,I.loc,I.cell,I.free,I.freeC,fun p hp=>I.pin p (by rw[OE] at hp;exact hp),I.hok,I.len⟩
theorem Inv.unpin (I:L2.Inv (Cx.pin X pins E) ps σ H s):L2.Inv X pins σ H s :=
 ⟨⟨I.ok.mod,I.ok.kind,I.ok.glob,I.ok.blt,I.ok.above,I.ok.inj,I.ok.has,I.ok.cab,I.ok.hd,I.ok.frames,I.ok.stk,I.ok.exf,I.ok.bs,I.ok.bsz,I.ok.noex,I.ok.exfs,I.ok.funs,I.ok.frf⟩,I.os,I.bare,I.base,I.loc,I.cell,I.free,I.freeC,fun p hp=>I.pin p (NT _ hp),I.hok,I.len⟩
theorem SP.unpin {D:L2.Ends}(h:SP (Cx.pin X pins E) ps D f s'):SP X pins D f s':=by
 cases f with
 | next=>obtain⟨σ',H',I,q⟩:=h;exact⟨σ',H',Inv.unpin I,q⟩
 | brk=>obtain⟨σ',H',I,q⟩:=h;exact⟨σ',H',Inv.unpin I,q⟩
 | cont=>obtain⟨σ',H',I,q⟩:=h;exact⟨σ',H',Inv.unpin I,q⟩
 | ret u=>obtain⟨v,σ',H',I,r,q⟩:=h;exact⟨v,σ',H',Inv.unpin I,r,q⟩
noncomputable abbrev Cx.hnd (X:Cx)(pins:List (Addr × Obj))(a:Addr)(o:Obj):Cx:={ X with A:=X.A.mark (some (.ref a)),calm:=false,pn:=(a,o)::(X.pn++pins),xe:=fun _ _=>False }
theorem Inv.hnd (I:L2.Inv X pins σ H s)(e:s.heap.get? a=some o)(n:H a=none)(hl:a≠X.env.locals)(hf:a ∉ X.fs)(hd:∀v,o.data≠.cell v):L2.Inv (Cx.hnd X pins a o) [] σ H s :=
 ⟨⟨I.ok.mod,I.ok.kind,I.ok.glob,I.ok.blt,I.ok.above,I.ok.inj,I.ok.has,I.ok.cab,(fun z=>by cases z),I.ok.frames,I.ok.stk,I.ok.exf,I.ok.bs,I.ok.bsz,I.ok.noex,I.ok.exfs,I.ok.funs,I.ok.frf⟩,I.os,I.bare,I.base,I.loc,I.cell,I.free,I.freeC,fun p hp=>by
  rw[OE] at hp;rcases NB.mp hp with rfl|hp
  ·exact⟨e,n,hl,hf,hd⟩
  ·exact I.pin p hp,I.hok,I.len⟩
theorem Inv.unhnd (ok:X.Ok)(I:L2.Inv (Cx.hnd X pins a o) ps σ H s):L2.Inv X pins σ H s :=
 ⟨ok,I.os,I.bare,I.base,I.loc,I.cell,I.free,I.freeC,fun p hp=>I.pin p (NT _ (MM _ hp)),I.hok,I.len⟩
theorem wX {M:Model}{i:Nat}{Q:Unit->Shared->Prop}(I:L2.Inv X pins σ H s)(hN:X.N.Nodup)(hi:X.N[i]?=some x)(hk:X.env.scope.names.lookup x=some .local)(hkk:X.env.kindOf x=some .local)(h:∀s',L2.Inv X pins (σ.set i none) H s'->Q () s'):wpAny M A (do bindName X.env x .none;unbindBehindTheSuite X.env x pos) Q E s:=by
 obtain⟨m,hn,hl⟩:=id I.loc;have hcls:(X.env.scope.kind == .class || (X.env.scope.kind == .module && X.env.locals != X.env.globals))=false:=by rw[I.ok.kind];rfl
 have cne:=I.cne;have tracked:∀ {a:Addr}{h':Heap},(∃o,s.heap.get? a=some o/\H a=none)->Heap.SameBut a s.heap h'->HOk X.prog X.w H h':=fun {a h'} ha hs b ob e=>by
  obtain⟨_,_,hfree⟩:=ha;refine(I.hok b ob e).stay (fun c w' hc q=>(hs.2 c ?_).trans q) (fun _ q=>q) fun _ _ q=>q;rintro rfl;rcases hc with rfl|hc
  ·rw[hfree] at e;cases e
  ·rw[hfree] at hc;cases hc
 refine wpAny_nameGoes_keeps hkk hn hcls fun h' v hn' hs=>?_;obtain⟨oL,_,_,hoL,_⟩:=id hn;refine h _ ⟨I.ok,I.os,I.bare,⟨fun b o e n hb hx=>?_,fun b o e n hb hx=>?_,I.base.free,fun b o e hx=>?_,I.base.tups,I.base.frzs,I.base.tbls⟩,⟨_,hn',fun j y v' e1 e2 e3=>?_⟩,fun y c e=>?_,I.free,I.freeC,fun p hp=>?_,tracked ⟨oL,hoL,I.free⟩ hs,by simpa using I.len⟩
 ·exact(hs.2 b (M8 (MK (MR e) I.ok.above))).trans (I.base.keep b o e n hb hx)
 ·obtain⟨sl,e1⟩:=I.base.slot b o e n hb hx;exact⟨sl,(hs.2 b (M8 (MK (MR e) I.ok.above))).trans e1⟩
 ·obtain⟨o',e1⟩:=I.base.there b o e hx;exact⟨o',(hs.2 b (M8 (MK (MR e) I.ok.above))).trans e1⟩
 ·by_cases hj:j=i
  ·subst hj;rw[P9] at e2;split at e2
   ·split at e2 <;> cases e2
   ·rename_i z;exact absurd rfl z
  ·rw[MH (Ne.symm hj)] at e2;obtain⟨u',r',q⟩:=hl j y v' e1 e2 e3;refine⟨u',r',?_⟩;rcases q with⟨k,e⟩|⟨k,c,e,z⟩
   ·refine .inl ⟨k,?_⟩;have:y≠x:=fun e=>hj (lQ hN e1 (e ▸ hi));simp[this,e]
   ·exact .inr ⟨k,c,e,z.sameBut hs (cne y c e)⟩
 ·obtain⟨w',z⟩:=I.cell y c e;exact⟨w',z.sameBut hs (cne y c e)⟩
 ·obtain⟨e,n,ne,nf,d⟩:=I.pin p hp;exact⟨(hs.2 p.1 ne).trans e,n,ne,nf,d⟩
end
def A6 (h:Heap)(C:Addr):Prop:=∃nm q N bs bm hdct sn sub ab col dd k0 k1 k2 k3 k5 id,h.get? C=some (excClassObj nm q C N bs bm hdct sn sub ab col dd k0 k1 k2 k3 k5 id)
theorem OwnCls.clsX (O:OwnCls x C ky "ValueError.__new__" mg h):A6 h C:=by obtain⟨bm,N,nm,qn,bs,hdct,sn,sub,ab,col,dd,k0,k1,k2,k3,k5,mN,hC,_⟩:=O.obj;exact⟨nm,qn,N,bs,bm,hdct,sn,sub,ab,col,dd,k0,k1,k2,k3,k5,_,hC⟩
theorem InitAt.clsX {D:Addr}(B:InitAt K C f D ns h):A6 h C:=by obtain⟨nm,qn,N,bs,sn,sub,ab,col,dd,k0,k1,k2,k3,k5,hC⟩:=B.obj;exact⟨nm,qn,N,bs,_,_,sn,sub,ab,col,dd,k0,k1,k2,k3,k5,_,hC⟩
theorem sT {M:Model}{E:Value->Shared->Prop}{K:W.Frag}{s:Shared}{Q:Bool->Shared->Prop}(O:A6 s.heap C)(O':OwnCls y C' ky "ValueError.__new__" mg s.heap)(he:s.heap.get? a=some oe)(hcls:oe.cls=.ref C)(hin:∀o cd,s.heap.get? C=some o->o.data=.cls cd->cd.mro.contains (.ref C')=true)(hq:Q true s):wpAny M A (excMatches (.ref a) (.ref C')) Q E s:=by
 obtain⟨nm,qn,N,bs,bm,hdct,sn,sub,ab,col,dd,k0,k1,k2,k3,k5,cid,hC⟩:=O;obtain⟨bm',N',nm',qn',bs',hdct',sn',sub',ab',col',dd',l0,l1,l2,l3,l5,mN',hC',hN',hni',T'⟩:=O'.obj;have hcC:=hin _ _ hC rfl;dsimp only at hcC;have hcB:(Value.ref C'::bm').contains (.type "BaseException")=true:=by rw [List.contains_cons,T'.hasType PySem.F.excBase_ValueError.hasBase,Bool.or_true]
 have f:=tc_notTuple;obtain⟨h,g,d,t,os⟩:=s;unfold excMatches
 repeat (first|(with_reducible refine wpAny_loadPart_at he ?_;rw[hcls])|with_reducible refine wpAny_loadPart_at hC' ?_|(with_reducible refine wpAny_isSubtype_exc hC' ?_;rw[hcB])|(with_reducible refine wpAny_isSubtype_exc hC ?_;rw[hcC])|wp_step)
 exact hq
theorem A2 {σ:L2.St}{Wx:XC->Hp->Prop}{D:L2.Ends}{j:Nat}{b₀:Stmt}{suite:List Stmt}{rest:List ExceptHandler}(I:L2.Inv X pins σ H1 s1)(q:CXe X.prog X.w X.stack H1 s1 (fun v dx H'=>∃C,v=.ref C/\Wx (C,dx) H') e s')(hst:X.stack=X.env::X.outer)(hfr:X.env.frame=some X.env.locals)(hg:Gl X y)(hdb:(y == ("__debug__":Str))=false)(hy:X.mg y=some (.ref C'))(hy2:W.excIn X.K C' ky "ValueError.__new__"=true)(hW:∀C H',Wx C H'->(∀h,X.K.In h->A6 h C.1)/\∃o cd,X.K.lookup C.1=some o/\o.data=.cls cd/\cd.mro.contains (.ref C')=true)(hN:X.N.Nodup)(hj:X.N[j]?=some n)(hk:X.env.scope.names.lookup n=some .local)(hkk:X.env.kindOf n=some .local)(hs:∀a C H' o s2,Wx C H'->XIs o C->(∃vs,o.data=.fields vs)->L2.Inv (Cx.hnd X pins a o) [] (σ.set j (some (.ref a))) H' s2->wpAny (model X.prog X.w) (X.A.mark (some (.ref a))) (execs (b₀::suite) X.env) (SP (Cx.hnd X pins a o) [] { nx:=fun σ' H''=>D.nx (σ'.set j none) H'',rt:=D.rt }) (fun _ _=>False) s2) :
  wpAny (model X.prog X.w) X.A (noteFrame e X.env) (fun _ s₂=>wpAny (model X.prog X.w) X.A (setFlight e none) (fun _ s₃=>wpAny (model X.prog X.w) X.A (handleBy e X.env (.ExceptHandler (some (.Name y np)) (some n) (b₀::suite) pos::rest)) (SP X pins D) Ex s₃) Ex s₂) Ex s':=by
 obtain⟨a,C,H',rfl,os,bare,sz,un,hok,fl,C0,hC0,wq⟩:=q;cases hC0;have I':L2.Inv X pins σ H' s':=I.call' (ch:=[]) os un hok bare fun b z=>by cases z
 have aL:a≠X.env.locals:=fun z=>by obtain⟨m,⟨o,_,_,ho,_⟩,_⟩:=I.loc;have:=fl.ge;rw[z,ho] at this;cases this
 have aF:a ∉ frs X.stack:=fun z=>by obtain⟨_,o,ho,_⟩:=I.stack.mem z;have:=fl.ge;rw[ho] at this;cases this
 have aF':a ∉ X.fs:=fun z=>aF (by rw[hst];exact NR.mpr (by obtain⟨v,h1,h2⟩:=NR.mp z;exact⟨v,MM _ h1,h2⟩));refine tQ (P:=X.prog) (w:=X.w) (n:=s1.heap) (base:=X.base) (env:=X.env) (outer:=X.outer) (fv:=none) (by rw[<-hst];exact I'.ok.frames) (by rw[<-hst];exact I'.stack) hfr (by rw[<-hst];exact I'.stkFree) hok sz fl.up fun h2 nt=>?_;obtain⟨⟨ch,hch,un2⟩,hok2,fl2,sz2⟩:=nt;rw[<-hst] at un2;have un3:Un (frs X.stack) [] H1 H' s1.heap h2:=Un.noted un un2 (fun _ _ _ z=>z) (fun _ z=>z) fun c hc=>(hch c hc).1;have I2:L2.Inv X pins σ H' { s' with heap:=h2 }:=I.call' (s':={ s' with heap:=h2 }) (ch:=[]) os un3 hok2 bare fun b z=>by cases z
 obtain⟨oe,vs,he,hc,hd,_⟩:=id fl2.obj;have nc:∀v,oe.data≠.cell v:=fun v z=>by rw[hd] at z;cases z
 have J2:=Inv.hnd I2 he fl2.fr aL aF' nc;obtain⟨hx,o,cd,hKl,hcd,hmro⟩:=hW _ H' wq;refine wpAny_handleBy_cons (codeAny_handlers_test (dH (X:=Cx.hnd X pins a oe) J2 hg hy ?_ hdb)) (by intro q;cases q);refine sT (K:=X.K) (mg:=X.mg) (y:=y) (hx _ I2.kIn) (wW I2.kIn hy hy2) he hc.1 (fun o' cd' e1 e2=>?_) ?_
 ·have:=I2.kIn _ _ hKl;rw[this] at e1;cases e1;rw[hcd] at e2;cases e2;exact hmro
 show codeAny _ _ _ _ _;refine codeAny_handlers_suite_as ?_;refine jN (P:=X.prog) (w:=X.w) (fs:=frs X.stack) (n:=s1.heap) (fv:=none) (fun b z=>?_) hok2 fl2 fun h3 nt3=>?_
 ·obtain⟨_,o,ho,hnf⟩:=I2.stack.mem z;exact⟨o,ho,hnf⟩
 obtain⟨⟨ch3,hch3,un4⟩,hok3,fl3,sz3⟩:=nt3;have un5:Un (frs X.stack) [] H1 H' s1.heap h3:=Un.noted un3 un4 (fun _ _ _ z=>z) (fun _ z=>z) fun c hc=>(hch3 c hc).1;have I3:L2.Inv X pins σ H' { s' with heap:=h3 }:=I.call' (s':={ s' with heap:=h3 }) (ch:=[]) os un5 hok3 bare fun b z=>by cases z
 obtain⟨oe3,vs3,he3,hc3,hd3,_⟩:=id fl3.obj;have nc3:∀v,oe3.data≠.cell v:=fun v z=>by rw[hd3] at z;cases z
 have J3:=Inv.hnd I3 he3 fl3.fr aL aF' nc3;refine de (X:=Cx.hnd X pins a oe3) (v:=.ref a) J3 hN hj (.inl hk) rfl (fun s4 J4=>?_) (.inr hk);refine wpAny_mono (hs a _ H' oe3 s4 wq hc3 ⟨vs3,hd3⟩ J4) (fun f s5 z=>?_) fun _ _ z=>False.elim z;cases f with
 | next =>obtain⟨σ5,H5,J5,z⟩:=z;exact wX (Inv.unhnd I3.ok J5) hN hj hk hkk fun s6 I6=>⟨_,_,I6,z⟩
 | brk=>obtain⟨_,_,_,z⟩:=z;exact False.elim z
 | cont=>obtain⟨_,_,_,z⟩:=z;exact False.elim z
 | ret u =>obtain⟨v5,σ5,H5,J5,r5,z⟩:=z;exact wX (Inv.unhnd I3.ok J5) hN hj hk hkk fun s6 I6=>⟨v5,_,_,I6,r5,z⟩
end FW
namespace FW
open L2 HX
open PySem.W (findIn mroIn typeIn clsIn looks_findIn looks_mroIn looks_typeIn)
structure XCl (K:W.Frag)(C:Addr):Prop where
 ga:findIn K (.ref C) "__getattribute__"=some (some (.builtin "BaseException.__getattribute__"))
 gt:findIn K (.ref C) "__getattr__"=some none
 cl:findIn K (.ref C) "__class__"=some (some (.builtin "object.__class__"))
 ob:mroIn K C (.type "object")=some true
 be:mroIn K C (.type "BaseException")=some true
 ty:typeIn K (.ref C)=some (.type "type")
 cd:∃cd,clsIn K C=some cd
section
variable {prog:Program}{w:World}{A:Around}{E:Value->Shared->Prop}{h:Heap}{g:Array GenState}{d:Drawn}{t:Nat}{os:OsState}{a C:Addr}{o:Obj}{K:W.Frag}
theorem DE {R:Result->Shared->Prop}(X:K.In h)(F:XCl K C)(hx:h.get? a=some o)(hc:o.cls=.ref C)(hq:R (.ok (.ret (.ref C))) ⟨h,g,d,t,os⟩) :
  codeAny (model prog w) A (.call (.builtin "getset_descriptor.__get__") ⟨[.builtin "object.__class__",.ref a,.ref C],[]⟩) R ⟨h,g,d,t,os⟩:=by
 have hT5:(⟨h,g,d,t,os⟩:Shared).TypeIs (.builtin "object.__class__") "getset_descriptor":=OP;have L:W.Looks (model prog w) h (isSubtype (.ref C) (.type (".".intercalate ("object.__class__".cutAt '.').dropLast))) true:=by rw [PySem.F.owner_object_class];exact looks_mroIn X F.ob
 refine codeAny_call_builtin PySem.F.slot_gs_get.plain PySem.F.entry_gs_get (PySem.F.slot_gs_get.check _ _ _ _ _ _ _ _ hT5 (PySem.F.args_gs_get _ _ _) ?_)
 repeat (any_goals (first|assumption|(with_reducible refine wpAny_loadPart_at hx ?_;rw[hc])|with_reducible refine N4 L ?_|wp_step))
 refine⟨Code.quiet_builtin _ (by decide +kernel),codeAny_builtin PySem.F.entry_object_class ?_⟩
 repeat (any_goals (first|assumption|(with_reducible refine wpAny_loadPart_at hx ?_;rw[hc])|wp_step))
theorem yW {Q:Fin->Shared->Prop}(X:K.In h)(F:XCl K C)(hx:h.get? a=some o)(hc:o.cls=.ref C)(hq:Q (.done (.ret (.ref C))) ⟨h,g,d,t,os⟩) :
  wpAny (model prog w) A (Builtin.«object.__getattribute__» ⟨[.ref a,.str "__class__" tk],[]⟩) Q E ⟨h,g,d,t,os⟩:=by
 have hT5:(⟨h,g,d,t,os⟩:Shared).TypeIs (.builtin "object.__class__") "getset_descriptor":=OP;have L:=looks_findIn (M:=model prog w) X F.cl;have f5:=OP;have f6:=PySem.F.slot_gs_get.lookup;have f7:=PySem.F.slot_gs_set.lookup
 repeat (any_goals (first|assumption|(with_reducible refine wpAny_loadPart_at hx ?_;rw[hc])|with_reducible refine N4 L ?_|wp_step))
 refine DE X F hx hc ?_
 repeat (any_goals (first|assumption|wp_step))
theorem oQ {M:Model}{Q:Unit->Shared->Prop}(X:K.In h)(F:XCl K C)(hx:h.get? a=some o)(hc:o.cls=.ref C)(hq:Q () ⟨h,g,d,t,os⟩):wpAny M A (checkBuiltinCall "BaseException.__getattribute__" ⟨[.ref a,nameV],[]⟩) Q E ⟨h,g,d,t,os⟩:=by
 have hk:builtinKind "BaseException.__getattribute__"=some .slot:=by decide +kernel
 have hsplit:splitId "BaseException.__getattribute__"=some ("BaseException","__getattribute__"):=by decide +kernel
 have L:=looks_mroIn (M:=M) X F.be;have ha:=PySem.F.args_bexc_ga (.ref a) nameV;simp only[checkBuiltinCall,hk,hsplit];refine MB ?_;unfold isInstance
 repeat (first|(with_reducible refine wpAny_loadPart_at hx ?_;rw[hc])|with_reducible refine N4 L ?_|wp_step)
 exact hq
theorem Ag {R:Result->Shared->Prop}(X:K.In h)(F:XCl K C)(hx:h.get? a=some o)(hc:o.cls=.ref C)(hq:R (.ok (.ret (.ref C))) ⟨h,g,d,t,os⟩) :
  codeAny (model prog w) A (.call (.builtin "BaseException.__getattribute__") ⟨[.ref a,.str "__class__" tk],[]⟩) R ⟨h,g,d,t,os⟩ :=
 codeAny_call_builtin PySem.F.attrBase_ValueError.ga.plain PySem.F.entry_bexc_ga (oQ X F hx hc (yW X F hx hc hq))
theorem GT {Q:Value->Shared->Prop}(X:K.In h)(F:XCl K C)(hx:h.get? a=some o)(hc:o.cls=.ref C)(hq:Q (.ref C) ⟨h,g,d,t,os⟩) :
  wpAny (model prog w) A (getAttrBy (.ref a) (.str "__class__" tk) false) Q E ⟨h,g,d,t,os⟩:=by
 have f3:=PySem.F.attrBase_ValueError.ga.bind (.ref a);have hx2:(Value.builtin "BaseException.__getattribute__" == Value.builtin "object.__getattribute__")=false:=by decide +kernel
 have hx1:(onTheHeap (Value.ref C) && Value.builtin "BaseException.__getattribute__" == Value.builtin "object.__getattribute__")=false:=by rw [hx2];rfl
 have L1:=looks_findIn (M:=model prog w) X F.ga;have L2:=looks_findIn (M:=model prog w) X F.gt
 repeat (any_goals (first|assumption|(with_reducible refine wpAny_loadPart_at hx ?_;rw[hc])|with_reducible refine N4 L1 ?_|with_reducible refine N4 L2 ?_|wp_step))
 refine Ag X F hx hc ?_
 repeat (any_goals (first|assumption|wp_step))
theorem Cu {Q:Option Value->Shared->Prop}(X:K.In h)(F:XCl K C)(hx:h.get? a=some o)(hc:o.cls=.ref C)(hq:Q (some (.ref C)) ⟨h,g,d,t+1,os⟩):wpAny (model prog w) A (getAttr? (.ref a) "__class__") Q E ⟨h,g,d,t,os⟩:=by
 unfold getAttr? getAttrBy?
 repeat (any_goals (first|assumption|with_reducible apply GT X F hx hc|wp_step))
theorem yM {Q:Fin->Shared->Prop}(X:K.In h)(F:XCl K C)(F':XCl K C')(hx:h.get? a=some o)(hc:o.cls=.ref C)(hn:mroIn K C (.ref C')=some false)(hne:C≠C')(hq:Q (.done (.ret (.bool false))) ⟨h,g,d,t+1,os⟩) :
  wpAny (model prog w) A (Builtin.«isinstance.nested» ⟨[.ref a,.ref C',.int dep tk],[]⟩) Q E ⟨h,g,d,t,os⟩:=by
 have hne':(Value.ref C == Value.ref C')=false:=by simpa using hne
 have L1:=looks_typeIn (M:=model prog w) X F'.ty;have L2:=looks_mroIn (M:=model prog w) X hn;obtain⟨cd',e'⟩:=F'.cd;obtain⟨cd,e⟩:=F.cd;unfold clsIn at e e';split at e'
 rotate_left
 ·cases e'
 split at e
 rotate_left
 ·cases e
 rename_i c1 d1 k1 sl1 hl1 _ c2 d2 k2 sl2 hl2;have ho1:=X _ _ hl1;have ho2:=X _ _ hl2
 repeat (any_goals (first|assumption|(with_reducible refine wpAny_loadPart_at hx ?_;rw[hc])|with_reducible refine N4 L1 ?_|with_reducible refine N4 L2 ?_|with_reducible apply Cu X F hx hc|wp_step))
theorem Ae {Q:Fin->Shared->Prop}(X:K.In h)(F':XCl K C')(hx:h.get? a=some o)(hc:o.cls=.ref C)(hn:mroIn K C (.ref C')=some true)(hq:Q (.done (.ret (.bool true))) ⟨h,g,d,t,os⟩) :
  wpAny (model prog w) A (Builtin.«isinstance.nested» ⟨[.ref a,.ref C',.int dep tk],[]⟩) Q E ⟨h,g,d,t,os⟩:=by
 have L1:=looks_typeIn (M:=model prog w) X F'.ty;have L2:=looks_mroIn (M:=model prog w) X hn;obtain⟨cd',e'⟩:=F'.cd;unfold clsIn at e';split at e'
 rotate_left
 ·cases e'
 rename_i c1 d1 k1 sl1 hl1;have ho1:=X _ _ hl1;by_cases hne:C=C'
 ·subst hne;have hne':(Value.ref C == Value.ref C)=true:=by simp
  repeat (any_goals (first|assumption|(with_reducible refine wpAny_loadPart_at hx ?_;rw[hc])|wp_step))
 ·have hne':(Value.ref C == Value.ref C')=false:=by simpa using hne
  repeat (any_goals (first|assumption|(with_reducible refine wpAny_loadPart_at hx ?_;rw[hc])|with_reducible refine N4 L1 ?_|with_reducible refine N4 L2 ?_|wp_step))
theorem zV {Q:Fin->Shared->Prop}(X:K.In h)(hx:h.get? a=some o)(hc:o.cls=.ref C)(hn:mroIn K C (.type T)=some true)(hty:typeOf (.type T)=pure (.type "type"))(hq:Q (.done (.ret (.bool true))) ⟨h,g,d,t,os⟩) :
  wpAny (model prog w) A (Builtin.«isinstance.nested» ⟨[.ref a,.type T,.int dep tk],[]⟩) Q E ⟨h,g,d,t,os⟩:=by
 have L2:=looks_mroIn (M:=model prog w) X hn;have hne':(Value.ref C == Value.type T)=false:=by simp
 repeat (any_goals (first|assumption|(with_reducible refine wpAny_loadPart_at hx ?_;rw[hc])|with_reducible refine N4 L2 ?_|wp_step))
variable {s:Shared}{Q:Value->Shared->Prop}
theorem pV (X:K.In s.heap)(F':XCl K C')(hx:s.heap.get? a=some o)(hc:o.cls=.ref C)(hn:mroIn K C (.ref C')=some true)(hq:Q (.bool true) s):wpAny (model prog w) A (call (.builtin "isinstance") [.ref a,.ref C']) Q E s :=
 call_isinstance (S:=fun _ R s=>(K.In s.heap/\s.heap.get? a=some o)/\R (.ok (.ret (.bool true))) s) (fun _ _ _ _ s hs=>by obtain⟨h,g,d,t,os⟩:=s;exact isinstance_outer (Ae hs.1.1 F' hs.1.2 hc hn hs.2) (by intro e;cases e)) ⟨⟨X,hx⟩,hq⟩
theorem nj (X:K.In s.heap)(hx:s.heap.get? a=some o)(hc:o.cls=.ref C)(hn:mroIn K C (.type T)=some true)(hty:typeOf (.type T)=pure (.type "type"))(hq:Q (.bool true) s):wpAny (model prog w) A (call (.builtin "isinstance") [.ref a,.type T]) Q E s :=
 call_isinstance (S:=fun _ R s=>(K.In s.heap/\s.heap.get? a=some o)/\R (.ok (.ret (.bool true))) s) (fun _ _ _ _ s hs=>by obtain⟨h,g,d,t,os⟩:=s;exact isinstance_outer (zV hs.1.1 hs.1.2 hc hn hty hs.2) (by intro e;cases e)) ⟨⟨X,hx⟩,hq⟩
def PIs (K:W.Frag)(a:Addr)(o:Obj)(s:Shared):Prop:=K.In s.heap/\s.heap.get? a=some o
end
end FW
namespace FW
open L2 HX
open PySem.W (findIn mroIn typeIn clsIn)
structure XT (K:W.Frag)(mg:Str->Option Value)(xs ys:List Str)(ca da:Nat->Addr)(rel:Nat->Nat->Bool):Prop where
 y:∀i x,ys[i]?=some x->mg x=some (.ref (da i))/\XCl K (da i)
 x:∀k,k<xs.length->XCl K (ca k)/\mroIn K (ca k) (.type "ValueError")=some true
 rl:∀k i,k<xs.length->i<ys.length->mroIn K (ca k) (.ref (da i))=some (rel k i)/\(rel k i=false->ca k≠da i)
inductive HA where
 | isv|iso (i:Nat)
inductive HT where
 | is (a:HA)|no (a:HA)|both (a b:HA)
inductive HS where
 | set (i:Nat) (a:HA)|setT (i:Nat) (as:List HA)|guard (t:HT) (a:HS)
noncomputable def hv (rel:Nat->Bool)(ρ:Fr):HA->Option PV
 | .isv=>some (.bl true)
 | .iso i=>some (.bl (rel i))
noncomputable def hvs (rel:Nat->Bool)(ρ:Fr):List HA->Option (List PV)
 | []=>some []
 | a::as=>match hv rel ρ a,hvs rel ρ as with
  | some v,some vs=>some (v::vs)
  | _,_=>none
noncomputable def hb (rel:Nat->Bool):HA->Bool
 | .isv=>true
 | .iso i=>rel i
noncomputable def isT:HA->Bool
 | .isv=>true
 | .iso _=>true
noncomputable def ht (rel:Nat->Bool):HT->Bool
 | .is a=>hb rel a
 | .no a=>!hb rel a
 | .both a b=>hb rel a && hb rel b
theorem KA {rel:Nat->Bool}(h:isT a=true):hv rel ρ a=some (.bl (hb rel a)):=by cases a <;> first|rfl|cases h
noncomputable def FG (rel:Nat->Bool):HS->Fr->Option Fr
 | .set i a,ρ=>match hv rel ρ a with
  | some v=>some (ρ.set i (some v))
  | none=>none
 | .setT i as,ρ=>match hvs rel ρ as with
  | some vs=>some (ρ.set i (some (.tup vs)))
  | none=>none
 | .guard t a,ρ=>if ht rel t=true then FG rel a ρ else some ρ
noncomputable def ID (rel:Nat->Bool):List HS->Fr->Option Fr
 | [],ρ=>some ρ
 | a::r,ρ=>match FG rel a ρ with
  | some ρ'=>ID rel r ρ'
  | none=>none
noncomputable def Al (x:Expr)(f:Str->Str->Expr->Bool):Bool:=lD x fun g as=>on2 as fun e r=>aA e fun y _=>f g y r
theorem gM (h:Al x f=true):∃g gp e ep r p,x=.Call (.Name g gp) [.Name e ep,r] [] p/\f g e r=true:=by replace h:=gB h;obtain⟨g,gp,as,cp,rfl,h⟩:=h;replace h:=fP h;obtain⟨a,r,rfl,h⟩:=h;replace h:=ai h;obtain⟨y,q,rfl,h⟩:=h;exact⟨_,_,_,_,_,_,rfl,h⟩
noncomputable def Bt (c:Cfg)(ys:List Str)(j:Nat):HA->Expr->Bool
 | .isv,x=>Al x fun g e r=>aA r fun z _=>g == ("isinstance":Str) && c.blt g && c.N[j]? == some e && c.vis e && z == ("ValueError":Str) && c.blt z
 | .iso i,x=>Al x fun g e r=>aA r fun z _=>g == ("isinstance":Str) && c.blt g && c.N[j]? == some e && c.vis e && ys[i]? == some z && c.glb z
noncomputable def wL (c:Cfg)(ys:List Str)(j:Nat):List HA->List Expr->Bool
 | [],xs=>xs.isEmpty
 | a::as,xs=>onCons xs fun x r=>ar x && Bt c ys j a x && wL c ys j as r
section
variable {X:Cx}{c:Cfg}{Γ:Nat->FSp}{xs ys:List Str}{ca da:Nat->Addr}{rel:Nat->Nat->Bool}{k j:Nat}{pins:List (Addr × Obj)}{ad:Addr}{o:Obj}
theorem JC:typeOf (.type "ValueError")=pure (.type "type"):=by first|rfl|(simp[typeOf];rfl)|kernel_rfl
theorem D1:bootBuiltins ("ValueError":Str)=some (.type "ValueError"):=by decide +kernel
noncomputable def THx (K:W.Frag)(j:Nat)(ad:Addr)(f:Fr->Option PV):TE:=fun σ H Q=>σ[j]?=some (some (.ref ad))/\∃m ρ st v,RF K m H ρ σ/\RH K m H st/\f ρ=some v/\post K m H Q v st
noncomputable def THs (K:W.Frag)(j:Nat)(ad:Addr)(f:Fr->Option (List PV)):TA:=fun σ H Q=>σ[j]?=some (some (.ref ad))/\∃m ρ st v,RF K m H ρ σ/\RH K m H st/\f ρ=some v/\EN K m H Q v st
theorem EH (C:COk X.nox c Γ)(T:XT X.K X.mg xs ys ca da rel)(hk:k<xs.length)(hc:o.cls=.ref (ca k)):∀(a:HA) (x:Expr),Bt c ys j a x=true->PE (Cx.hnd X pins ad o) x (THx X.K j ad fun ρ=>hv (rel k) ρ a)
 | .isv,x,h=>by
  replace h:=gM h;obtain⟨g,gp,e,ep,r,p,rfl,h⟩:=h;replace h:=ai h;obtain⟨z,zp,rfl,h⟩:=h;simp only[Bool.and_eq_true,beq_iff_eq] at h;obtain⟨⟨⟨⟨⟨h1,h2⟩,h3⟩,h4⟩,h5⟩,h6⟩:=h;subst h1 h5;obtain⟨a1,a2,a3,a4⟩:=C.bltx h2;obtain⟨b1,b2,b3,b4⟩:=C.bltx h6;obtain⟨v1,v2,v3⟩:=C.visx h4;rintro ps s σ H Q I ⟨hj,m,ρ,st,v,rf,rh,e,w⟩;cases e;have hA:PA (Cx.hnd X pins ad o) [.Name _ ep,.Name ("ValueError":Str) zp] (jz (Du j) (jz (tC (.ty "ValueError")) sY)):=pac (dW (X:=Cx.hnd X pins ad o) (by have:=C.N;exact (NC (fun l=>l[j]?) this).trans h3) v1 v2 v3) (pac (DM (X:=Cx.hnd X pins ad o) b1 b4 D1 rfl b3 b2) eX rfl) rfl;have hC:gi (Cx.hnd X pins ad o) (.builtin "isinstance") (fun xs H Q=>xs=[.ref ad,.ty "ValueError"]/\Q (.bl true) H):=by rintro ps s σ H xs us Q I r ⟨rfl,q⟩;obtain⟨u,v,rfl,ru,rv⟩:=xa r;cases (show u=Value.ref ad from ru);cases (show v=Value.type "ValueError" from rv);exact nj (K:=X.K) I.kIn (I.pin (ad,o) (.head _)).1 hc (T.x k hk).2 JC ⟨.bl true,H,I,rfl,q⟩
  refine jY (X:=Cx.hnd X pins ad o) hC a1 a4 kq hA a3 a2 rfl rfl ps s σ H Q I ?_;exact⟨.ref ad,hj,rfl,w.here rh (R_bl.mpr rfl)⟩
 | .iso i,x,h=>by
  replace h:=gM h;obtain⟨g,gp,e,ep,r,p,rfl,h⟩:=h;replace h:=ai h;obtain⟨z,zp,rfl,h⟩:=h;simp only[Bool.and_eq_true,beq_iff_eq] at h;obtain⟨⟨⟨⟨⟨h1,h2⟩,h3⟩,h4⟩,h5⟩,h6⟩:=h;subst h1;obtain⟨a1,a2,a3,a4⟩:=C.bltx h2;obtain⟨b1,b2,b3⟩:=C.glbx h6;obtain⟨v1,v2,v3⟩:=C.visx h4;have hi:=(MC.mp h5).1;rintro ps s σ H Q I ⟨hj,m,ρ,st,v,rf,rh,e,w⟩;cases e;have hA:PA (Cx.hnd X pins ad o) [.Name _ ep,.Name z zp] (jz (Du j) (jz (tC (.ref (da i))) sY)):=pac (dW (X:=Cx.hnd X pins ad o) (by have:=C.N;exact(NC (fun l=>l[j]?) this).trans h3) v1 v2 v3) (pac (wM (X:=Cx.hnd X pins ad o) (v:=.ref (da i)) b1 (T.y i z h5).1 rfl b2) eX rfl) rfl;have hC:gi (Cx.hnd X pins ad o) (.builtin "isinstance") (fun xs H Q=>xs=[.ref ad,.ref (da i)]/\Q (.bl (rel k i)) H):=by
   rintro ps s σ H xs us Q I r ⟨rfl,q⟩;obtain⟨u,v,rfl,ru,rv⟩:=xa r;cases (show u=Value.ref ad from ru);cases (show v=Value.ref (da i) from rv);obtain⟨e1,e2⟩:=T.rl k i hk hi;cases hr:rel k i with
   | true=>rw[hr] at e1 q;exact pV (K:=X.K) I.kIn (T.y i z h5).2 (I.pin (ad,o) (.head _)).1 hc e1 ⟨.bl true,H,I,rfl,q⟩
   | false =>
    rw[hr] at e1 q;exact call_isinstance (S:=fun _ R s=>PIs X.K ad o s/\∀tk,R (.ok (.ret (.bool false))) { s with toks:=tk }) (fun _ _ _ _ s hs=>by obtain⟨h,g,d,t,os⟩:=s;exact isinstance_outer (yM hs.1.1 (T.x k hk).1 (T.y i z h5).2 hs.1.2 hc e1 (e2 hr) (hs.2 (t+1))) (by intro e;cases e)) ⟨⟨I.kIn,(I.pin (ad,o) (.head _)).1⟩,fun tk=>⟨.bl false,H,I.tok tk,rfl,q⟩⟩
  refine jY (X:=Cx.hnd X pins ad o) hC a1 a4 kq hA a3 a2 rfl rfl ps s σ H Q I ?_;exact⟨.ref ad,hj,rfl,w.here rh (R_bl.mpr rfl)⟩
theorem uG (C:COk X.nox c Γ)(T:XT X.K X.mg xs ys ca da rel)(hk:k<xs.length)(hc:o.cls=.ref (ca k)):∀(as:List HA) (zs:List Expr),wL c ys j as zs=true->PA (Cx.hnd X pins ad o) zs (THs X.K j ad fun ρ=>hvs (rel k) ρ as)
 | [],zs,h=>by
  have h:zs.isEmpty=true:=h;cases zs with
  | nil =>rintro pos ps s σ H Q I ⟨_,m,ρ,st,v,rf,rh,e,w⟩;cases e;exact eX pos ps s σ H Q I (w m H [] (Ext.refl _ _ _) rh (Rs_nil.mpr rfl))
  | cons _ _=>cases h
 | a::as,zs,h=>by
  replace h:=aq h;obtain⟨x,r,rfl,h⟩:=h;simp only[Bool.and_eq_true] at h;obtain⟨⟨h1,h2⟩,h3⟩:=h;rintro pos ps s σ H Q I ⟨hj,m,ρ,st,v,rf,rh,e,w⟩;have e:(match hv (rel k) ρ a,hvs (rel k) ρ as with
   | some v,some vs=>some (v::vs)
   | _,_=>none)=some v:=e
  cases e1:hv (rel k) ρ a with
  | none=>rw[e1] at e;cases e
  | some u =>
   cases e2:hvs (rel k) ρ as with
   | none=>rw[e1,e2] at e;cases e
   | some us =>rw[e1,e2] at e;cases e;refine pac (EH C T hk hc a x h2) (uG C T hk hc as r h3) h1 pos ps s σ H Q I ⟨hj,m,ρ,st,u,rf,rh,e1,fun m1 H1 y x1 r1 r2=>⟨hj,m1,ρ,st,us,rf.mono x1,r1,e2,fun m2 H2 ys x2 r3 r4=>?_⟩⟩;exact w m2 H2 _ (x1.trans x2) r3 (Rs_cons'.mpr ⟨r2.mono x2,r4⟩)
theorem CL (h:isT a=true)(h2:Bt c ys j a x=true)(env:Env):∀whole,isTrue x env whole=(do let v <-whole;standAt x.pos;holding [v] (truthy v)):=by
 cases a with
 | isv=>obtain⟨g,gp,e,ep,r,p,rfl,_⟩:=gM h2;intro _;rfl
 | iso i=>obtain⟨g,gp,e,ep,r,p,rfl,_⟩:=gM h2;intro _;rfl
noncomputable def THt (K:W.Frag)(j:Nat)(ad:Addr)(b:Bool):TT:=fun σ H Q=>σ[j]?=some (some (.ref ad))/\∃m ρ st,RF K m H ρ σ/\RH K m H st/\∀m' H',Ext K m H m' H'->RH K m' H' st->Q b H'
theorem JZ (C:COk X.nox c Γ)(T:XT X.K X.mg xs ys ca da rel)(hk:k<xs.length)(hc:o.cls=.ref (ca k))(h1:isT a=true)(h2:Bt c ys j a x=true):PT (Cx.hnd X pins ad o) x (THt X.K j ad (hb (rel k) a)):=by rintro ps s σ H Q I ⟨hj,m,ρ,st,rf,rh,w⟩;refine Io (X:=Cx.hnd X pins ad o) (EH C T hk hc a x h2) (CL h1 h2 _) ps s σ H Q I ?_;refine⟨hj,m,ρ,st,_,rf,rh,KA h1,fun m1 H1 y e1 r1 r2=>⟨_,R_bl.mp r2,w m1 H1 e1 r1⟩⟩
end
end FW
namespace FW
open L2 HX
open PySem.W (findIn mroIn typeIn clsIn)
inductive TSs where
 | nil|st (s:S) (r:TSs)|tr (i:Nat) (w:Str) (f:Nat) (es:Es) (j:Nat) (hs:List HS) (r:TSs)
 | trE (f:Nat) (es:Es) (i:Nat) (b:Bool) (r:TSs)
noncomputable def iY (Γ ΓR:Nat->FSp)(n:Nat)(rel:Nat->Nat->Bool):TSs->Fr->AH->aC->Prop
 | .nil,ρ,st,D=>D.nx ρ st
 | .st s r,ρ,st,D=>wpS Γ s ρ st { D with nx:=fun ρ1 st1=>iY Γ ΓR n rel r ρ1 st1 D }
 | .tr i w f es j hs r,ρ,st,D=>a9 Γ es ρ st fun vs st1=>ΓR f vs st1 (jL (fun v st2=>iY Γ ΓR n rel r (ρ.set i (some (.tup [.str w,v]))) st2 D)
   fun k _ st2=>k<n/\rel k 0=true/\∃ρ',ID (rel k) hs (ρ.set j none)=some ρ'/\iY Γ ΓR n rel r (ρ'.set j none) st2 D)
 | .trE f es i b r,ρ,st,D=>a9 Γ es ρ st fun vs st1=>ΓR f vs st1 (jL (fun v st2=>iY Γ ΓR n rel r ρ st2 D) fun k _ st2=>k<n/\rel k 0=true/\iY Γ ΓR n rel r (ρ.set i (some (.bl b))) st2 D)
noncomputable def BX (x:Stmt)(f:List Stmt->List ExceptHandler->Bool):Bool:=match x with | .Try b hs [] [] _=>f b hs|_=>false
theorem yJ (h:BX x f=true):∃b hs p,x=.Try b hs [] [] p/\f b hs=true:=by
 unfold BX at h;split at h
 ·exact⟨_,_,_,rfl,h⟩
 ·cases h
noncomputable def Hd (x:ExceptHandler)(f:Expr->Option Str->List Stmt->Bool):Bool:=match x with | .ExceptHandler (some e) n ss _=>f e n ss|_=>false
theorem Az (h:Hd x f=true):∃e n ss p,x=.ExceptHandler (some e) n ss p/\f e n ss=true:=by
 unfold Hd at h;split at h
 ·exact⟨_,_,_,_,rfl,h⟩
 ·cases h
noncomputable def Ge (x:Stmt)(f:Stmt->Expr->Str->Stmt->List Stmt->Bool):Bool:=BX x fun b hs=>on1 b fun b=>on1 hs fun k=>Hd k fun e n ss=>du n fun n=>onCons ss fun s₀ s=>f b e n s₀ s
theorem yZ (h:Ge x f=true):∃b e n s₀ s hp pos,x=.Try [b] [.ExceptHandler (some e) (some n) (s₀::s) hp] [] [] pos/\f b e n s₀ s=true:=by replace h:=yJ h;obtain⟨b,hs,p,rfl,h⟩:=h;replace h:=bL h;obtain⟨b,rfl,h⟩:=h;replace h:=bL h;obtain⟨k,rfl,h⟩:=h;replace h:=Az h;obtain⟨e,n,ss,q,rfl,h⟩:=h;replace h:=bg h;obtain⟨n,rfl,h⟩:=h;replace h:=aq h;obtain⟨s,r,rfl,h⟩:=h;exact⟨_,_,_,_,_,_,_,rfl,h⟩
noncomputable def wG (x:Expr)(f:Str->Expr->List Expr->Bool):Bool:=lD x fun g as=>onCons as fun a r=>f g a r
theorem rH (h:wG x f=true):∃g gp a as p,x=.Call (.Name g gp) (a::as) [] p/\f g a as=true:=by replace h:=gB h;obtain⟨g,gp,as,cp,rfl,h⟩:=h;replace h:=aq h;obtain⟨a,r,rfl,h⟩:=h;exact⟨_,_,_,_,_,rfl,h⟩
section
variable {X:Cx}{c:Cfg}{F:Xf}{Γ ΓR:Nat->FSp}{ca:CA}{da:Nat->Addr}{rel:Nat->Nat->Bool}{ys:List Str}{pins:List (Addr × Obj)}{E:Value->Shared->Prop}
theorem XG.clsX (G:XG P w K mg base c F ΓR ca){k:Nat}(e:F.xs[k]?=some x):∀h,K.In h->A6 h (ca k).1:=fun h X=>by
 by_cases q:F.iv.all (fun p=>p.1 != k)=true
 ·obtain⟨e1,e2⟩:=G.cls k x e q;exact OwnCls.clsX (wW X e1 e2)
 ·have:∃p∈F.iv,p.1=k:=NY fun z=>q (QE.mpr fun p hp=>bne_iff_ne.mpr fun y=>z ⟨p,hp,y⟩);obtain⟨⟨k',n⟩,hp,rfl⟩:=this;obtain⟨f,D,z,_⟩:=(G.ini _ n x e (List.contains_iff_mem.mpr hp)).2.1.ex;exact(eD X z).clsX
theorem Inv.pinTo {σ:L2.St}(I:L2.Inv (Cx.pin X pins E) ps σ H s):L2.Inv X.nox (pins++ps) σ H s :=
 ⟨⟨I.ok.mod,I.ok.kind,I.ok.glob,I.ok.blt,I.ok.above,I.ok.inj,I.ok.has,I.ok.cab,I.ok.hd,I.ok.frames,I.ok.stk,I.ok.exf,I.ok.bs,I.ok.bsz,I.ok.noex,I.ok.exfs,I.ok.funs,I.ok.frf⟩,I.os,I.bare,I.base,I.loc,I.cell,I.free,I.freeC,fun p hp=>I.pin p (by rw[N0];exact hp),I.hok,I.len⟩
theorem Inv.pinOf {ps:List (Addr × Obj)}{σ:L2.St}(I:L2.Inv X.nox (pins++ps) σ H s):L2.Inv (Cx.pin X pins E) ps σ H s :=
 ⟨⟨I.ok.mod,I.ok.kind,I.ok.glob,I.ok.blt,I.ok.above,I.ok.inj,I.ok.has,I.ok.cab,I.ok.hd,I.ok.frames,I.ok.stk,I.ok.exf,I.ok.bs,I.ok.bsz,I.ok.noex,I.ok.exfs,I.ok.funs,I.ok.frf⟩,I.os,I.bare,I.base,I.loc,I.cell,I.free,I.freeC,fun p hp=>I.pin p (by rw[<-N0];exact hp),I.hok,I.len⟩
theorem PA.pin (h:PA X.nox es t):PA (Cx.pin X pins E) es t:=fun pos ps s σ H Q I w =>
 wpAny_mono (h pos (pins++ps) s σ H Q (Inv.pinTo I) w) (fun _ _ ⟨v,H',I',r,q⟩=>⟨v,H',Inv.pinOf I',r,q⟩) fun _ _ z=>False.elim z
theorem RF.setN (h:RF K m H ρ σ)(j:Nat)(x:Option V):RF K m H (ρ.set j none) (σ.set j x):=by
 refine⟨by simp[h.len],fun i v e=>?_⟩;by_cases hj:j=i
 ·subst hj;rw[P9] at e;split at e
  ·split at e <;> cases e
  ·rename_i z;exact absurd rfl z
 ·rw[MH hj] at e |-
  exact h.at_ i v e
end
end FW
namespace FW
open L2 HX
open PySem.W (findIn mroIn typeIn clsIn)
structure JX (P:Program)(w:World)(K:W.Frag)(mg:Str->Option Value)(base:Heap)(c:Cfg)(F:Xf)(Γ ΓR:Nat->FSp)(ca:CA):Prop where
 g:GOk P w K mg base c Γ
 x:XG P w K mg base c F ΓR ca
section
variable {P:Program}{w:World}{K:W.Frag}{mg:Str->Option Value}{base h:Heap}{Γ ΓR:Nat->FSp}{c c':Cfg}{F:Xf}{ca:CA}{da:Nat->Addr}{rel:Nat->Nat->Bool}{ys:List Str}{x:Str}{st:Stmt}{N ps:List Str}{sp:FSp}
theorem XG.skip (G:XG P w K mg base c F ΓR ca)(h1:c'.fns=c.fns)(h2:c'.lim=c.lim+1)(hr:F.rz.contains c.lim=false):XG P w K mg base c' F ΓR ca :=
 ⟨fun f x hf e r=>by
  rw[h2] at hf;rw[h1] at e;by_cases z:f=c.lim
  ·subst z;rw[hr] at r;cases r
  ·exact G.fn f x (by omega) e r,G.cls,G.ini,G.mono⟩
theorem XG.next (G:XG P w K mg base c F ΓR ca)(h1:c'.fns=c.fns)(h2:c'.lim=c.lim+1)(hx:c.fns[c.lim]?=some x)(H:HasX P w K mg base (c.lim+1) x ps (j_ K ca (ΓR c.lim))):XG P w K mg base c' F ΓR ca :=
 ⟨fun f y hf e r=>by
  rw[h2] at hf;rw[h1] at e;by_cases z:f=c.lim
  ·subst z;rw[hx] at e;cases e;exact⟨ps,H⟩
  ·exact G.fn f y (by omega) e r,G.cls,G.ini,G.mono⟩
theorem JX.nx {code:Ss}(J:JX P w K mg base c F Γ ΓR ca)(X:K.In h)(Gn:h.Ns mainGlobals mg)(d:DI K x st)(S:ak N ps (ae st))(hc:aD c code (ah st)=true)
  (len:∀ {as st Q},sp as st Q->as.length=ps.length) (hw:∀ {as st Q},sp as st Q->az Γ code (frame N.length as) st (aj st Q))
  (hb:∀(kV doc pm:Value) (an:Option Addr) (cdv ct:Value) (us:List Value),us.length=ps.length->bindArgs (W.fnOf x x (aY st) (ah st) (ae st) .none kV doc pm an cdv ct) ⟨us,[]⟩=pure (ps.zip us))
  (hN:c.N=N:=by rfl) (hn:c.names=(ae st).names:=by rfl) (hpc:c.pc=false:=by rfl) (hhm:c.hm=none:=by rfl) (h1:c'.fns=c.fns:=by rfl) (h2:c'.lim=c.lim+1:=by rfl) (h3:c'.blts=c.blts:=by rfl) (h4:c'.gl=c.gl:=by rfl) (hx:c.fns[c.lim]?=some x:=by rfl) (hs:Γ c.lim=sp:=by rfl) (hr:F.rz.contains c.lim=false:=by rfl):JX P w K mg base c' F Γ ΓR ca :=
 ⟨J.g.nx X Gn d S hc len hw hb hN hn hpc hhm h1 h2 h3 h4 hx hs,J.x.skip h1 h2 hr⟩
theorem JX.nxX {code:XSs}(J:JX P w K mg base c F Γ ΓR ca)(X:K.In h)(Gn:h.Ns mainGlobals mg)(d:DI K x st)(S:ak N ps (ae st))(hc:iz c F code (ah st)=true)
  (len:∀ {as st Q},sp as st Q->as.length=ps.length) (ms:∀ {as st Q Q'},(∀v st,Q v st->Q' v st)->sp as st Q->sp as st Q') (hw:∀ {as st Q},sp as st Q->bN Γ ΓR code (frame N.length as) st (oI st Q) (wm st Q))
  (hb:∀(kV doc pm:Value) (an:Option Addr) (cdv ct:Value) (us:List Value),us.length=ps.length->bindArgs (W.fnOf x x (aY st) (ah st) (ae st) .none kV doc pm an cdv ct) ⟨us,[]⟩=pure (ps.zip us))
  (hN:c.N=N:=by rfl) (hn:c.names=(ae st).names:=by rfl) (hpc:c.pc=false:=by rfl) (hhm:c.hm=none:=by rfl) (h1:c'.fns=c.fns:=by rfl) (h2:c'.lim=c.lim+1:=by rfl) (h3:c'.blts=c.blts:=by rfl) (h4:c'.gl=c.gl:=by rfl) (hx:c.fns[c.lim]?=some x:=by rfl) (hs:Γ c.lim=okO sp:=by rfl) (hs2:ΓR c.lim=sp:=by rfl):JX P w K mg base c' F Γ ΓR ca:=by
 obtain⟨f,oc,od,kV,dc,pm,an,cd,ct,sl,a,l,cc,k⟩:=d;have HX:=DR (sp:=sp) (At.mk' X Gn hb a l cc k) S hN hn hc J.g J.x (fun as st Q z=>len z) (fun as st Q Q' z z2=>ms z z2) (fun as st Q z=>hw z) hpc hhm;refine⟨J.g.next h1 h2 h3 h4 hx (by rw[hs];exact HX.ok fun _ _ _ _ z z2=>ms z z2),J.x.next h1 h2 hx (by rw[hs2];exact HX)⟩
theorem JX.nxG (J:JX P w K mg base c F Γ ΓR ca)(H:Has P w K mg base (c.lim+1) x ps (bj K sp))(h1:c'.fns=c.fns:=by rfl)(h2:c'.lim=c.lim+1:=by rfl)(h3:c'.blts=c.blts:=by rfl)(h4:c'.gl=c.gl:=by rfl)(hx:c.fns[c.lim]?=some x:=by rfl)(hs:Γ c.lim=sp:=by rfl)(hr:F.rz.contains c.lim=false:=by rfl):JX P w K mg base c' F Γ ΓR ca :=
 ⟨J.g.next h1 h2 h3 h4 hx (by rw[hs];exact H),J.x.skip h1 h2 hr⟩
abbrev CI (K:W.Frag)(x:Str)(C:Addr):Prop:=W.nsIn K mainGlobals x=some (some (.ref C))/\findIn K (.ref C) "__getattribute__"=some (some (.builtin "BaseException.__getattribute__"))/\findIn K (.ref C) "__getattr__"=some none/\findIn K (.ref C) "__class__"=some (some (.builtin "object.__class__"))/\mroIn K C (.type "object")=some true/\mroIn K C (.type "BaseException")=some true/\typeIn K (.ref C)=some (.type "type")/\(∃cd,clsIn K C=some cd)
theorem CI_mk (a:W.nsIn K mainGlobals x=some (some (.ref C)))(b:findIn K (.ref C) "__getattribute__"=some (some (.builtin "BaseException.__getattribute__")))(c:findIn K (.ref C) "__getattr__"=some none)(d:findIn K (.ref C) "__class__"=some (some (.builtin "object.__class__")))(e:mroIn K C (.type "object")=some true)(f:mroIn K C (.type "BaseException")=some true)(g:typeIn K (.ref C)=some (.type "type"))(h:clsIn K C=some cd):CI K x C:=⟨a,b,c,d,e,f,g,cd,h⟩
theorem CI.cl (c:CI K x C):XCl K C:=⟨c.2.1,c.2.2.1,c.2.2.2.1,c.2.2.2.2.1,c.2.2.2.2.2.1,c.2.2.2.2.2.2.1,c.2.2.2.2.2.2.2⟩
end
end FW
namespace FW
open L2 HX
open PySem.W (findIn looks_findIn Looks)
theorem Er {E:Value->Shared->Prop}{K:W.Frag}{os:OsState}{n:Str}{Q:Value->Shared->Prop}(X:K.In hp)(F:XCl K C){D:Addr}(B:InitAt K C f D ns hp)(hn:n∈ns)(hx:hp.get? x=some o)(hc:o.cls=.ref C)(hnc:∃vs,o.data=.fields vs)(hdx:o.dict=some dx)(hs:hp.Ns1 dx mA)(hv:mA n=some v)(hh:handedOut v=pure v)(hq:Q v ⟨hp,g,d,t+1,os⟩):wpAny (model P w) A (getAttr (.ref x) n ex) Q E ⟨hp,g,d,t,os⟩:=by
 obtain⟨_,_,_,_,_,_,_,_,_,_,_,_,_,_,hC⟩:=B.obj;have f3:=PySem.F.attrBase_ValueError.ga.bind (.ref x);have hx0:(ex && onTheHeap (Value.builtin "BaseException.__getattribute__"))=false:=by cases ex <;> rfl
 have hx1:(onTheHeap (Value.ref C) && Value.builtin "BaseException.__getattribute__" == Value.builtin "object.__getattribute__")=false:=by rw [show (Value.builtin "BaseException.__getattribute__" == Value.builtin "object.__getattribute__")=false from by decide +kernel,P0]
 have L1:=looks_findIn (M:=model P w) X F.ga;have L2:=looks_findIn (M:=model P w) X F.gt;have L3:=looks_findIn (M:=model P w) X (B.nm n hn);unfold getAttr
 repeat (any_goals (first|assumption|(with_reducible refine wpAny_loadPart_at hx ?_;rw[hc])|with_reducible refine N4 L1 ?_|with_reducible refine N4 L2 ?_|wp_step))
 refine codeAny_call_builtin PySem.F.attrBase_ValueError.ga.plain PySem.F.entry_bexc_ga (oQ X F hx hc ?_);change wpAny _ _ (Builtin.«object.__getattribute__» ⟨[.ref x,.str n t],[]⟩) _ _ _;unfold Builtin.«object.__getattribute__»
 repeat (any_goals (first|assumption|(with_reducible refine wpAny_loadPart_at hx ?_;rw[hc])|with_reducible refine N4 L3 ?_|wp_step))
 obtain⟨vs,hvs⟩:=hnc;rw[hvs];change wpAny _ _ (instanceDict x false) _ _ _;unfold instanceDict
 repeat (first|with_reducible refine wpAny_loadPart_at hC ?_|(with_reducible refine wpAny_loadPart_at hx ?_;rw[hc])|wp_step)
 rw[hdx]
 repeat (first|(with_reducible refine wpAny_nsGet hs.ns ?_;rw[hv])|wp_step)
 exact hq
section
variable {X:Cx}{pins:List (Addr × Obj)}{ad C f D:Addr}{o:Obj}{ns:List Str}
theorem Iw {j:Nat}{nm:Str}(q:cE X.K C f D ns=true)(F:XCl X.K C)(ho:o.cls=.ref C)(hd:∃vs,o.data=.fields vs)(hnm:nm∈ns)(hN:X.N[j]?=some n)(hv:Vis X.env.scope n)(h1:(n == ("__debug__":Str))=false)(h2:(n == ("__classdict__":Str))=false) :
  PE (Cx.hnd X pins ad o) (.Attribute (.Name n p) nm pos) (fun σ H Q=>σ[j]?=some (some (.ref ad))/\∃dx fs z,o.dict=some dx/\H dx=some (.xd fs)/\fs.lookup nm=some (.str z)/\Q (.str z) H):=by
 rintro ps s σ H Q I ⟨es,dx,fs,z,ed,eh,el,hq⟩;refine Eg rfl (thn (dW (X:=Cx.hnd X pins ad o) (i:=j) (x:=n) (pos:=p) hN hv h1 h2 ps s σ H (fun v H'=>v=.ref ad/\H'=H) I ⟨.ref ad,es,rfl,rfl⟩) fun u s1 ⟨v,H1,I1,rv,ev,eH⟩=>?_);subst ev eH;obtain rfl:u=Value.ref ad:=rv;have hx:s1.heap.get? ad=some o:=(I1.pin (ad,o) (NT _ MQ)).1;obtain⟨mA,hns,hrel⟩:=I1.hok dx _ eh;have hr:=hrel nm;rw[el] at hr;cases hm:mA nm with
 | none=>rw[hm] at hr;exact False.elim hr
 | some u =>
 rw[hm] at hr;obtain⟨tk,rfl⟩:=hr;obtain⟨hp,g,d,t,os⟩:=s1;exact Er I1.kIn F (eD I1.kIn q) hnm hx ho hd ed hns hm (W.handedOut_of rfl) ⟨.str z,H1,I1.tok _,⟨tk,rfl⟩,hq⟩
end
end FW
namespace FW
open L2 HX
open PySem.W (findIn mroIn typeIn clsIn)
theorem RH.mem_xd (h:RH K m H st)(z:H a=some (.xd fs)):a ∉ m:=fun e=>by
 obtain⟨n,hn,rfl⟩:=PD.mp e;have:n<st.length:=by rw[<-h.len];exact hn
 have c:=h.at_ n st[n] m[n] (by simp[this]) (by simp[hn]);cases q:st[n] with
 | lst xs=>rw[q] at c;obtain⟨ys,h1,_⟩:=c;rw[h1] at z;cases z
 | dk xs=>rw[q] at c;obtain⟨ys,h1,_⟩:=c;rw[h1] at z;cases z
 | fz xs=>rw[q] at c;obtain⟨o,ys,h1,_⟩:=c;rw[h1] at z;cases z
 | od xs=>rw[q] at c;obtain⟨o,ks,vs,h1,_⟩:=c;rw[h1] at z;cases z
theorem RH.xd (h:RH K m H st)(z:H a=some (.xd fs))(x:Ext K m H m' H'):H' a=some (.xd fs):=x.fr a _ (h.mem_xd z) z fun _ q=>by cases q
structure HR where
 i:Nat
 a1:List HA
 a2:List HA
 t:HA
 nm:Str
noncomputable def Gs (c:Cfg)(ys:List Str)(j:Nat)(n:Str)(r:HR)(ss:List Stmt):Bool :=
 onCons ss fun s1 q1=>onCons q1 fun s2 q2=>on1 q2 fun s3=>r.i != j && isT r.t &&
  oj s1 (fun t v=>aA t (fun y _=>c.N[r.i]? == some y && c.loc y) && jQ v fun zs=>wL c ys j r.a1 zs) &&
  oj s2 (fun t v=>aA t (fun y _=>c.N[r.i]? == some y && c.loc y) && Au v fun l o w=>o == .Add && aA l (fun y _=>c.N[r.i]? == some y && c.vis y) && jQ w fun zs=>wL c ys j r.a2 zs) &&
  rQ s3 fun v=>du v fun v=>eO v fun vs=>on2 vs fun l w=>aA l (fun y _=>c.N[r.i]? == some y && c.vis y) && Ad w fun t u z=>Bt c ys j r.t t && vT z (fun _=>true) && iG u fun y m _=>m == r.nm && aA y fun y _=>y == n && c.vis y
section
variable {X:Cx}{c:Cfg}{Γ:Nat->FSp}{xs ys:List Str}{ca da:Nat->Addr}{rel:Nat->Nat->Bool}{k j:Nat}{pins:List (Addr × Obj)}{ad:Addr}{o:Obj}{ns:List Str}{n:Str}
theorem JE (C:COk X.nox c Γ)(T:XT X.K X.mg xs ys ca da rel)(hk:k<xs.length)(hc:o.cls=.ref (ca k))(hod:∃vs,o.data=.fields vs){D:Addr}(q:cE X.K (ca k) f D ns=true){r:HR}(hnm:r.nm∈ns)(hb1:hb (rel k) r.t=true)(hn:c.N[j]?=some n)(h:Gs c ys j n r ss=true) :
  PSs (Cx.hnd X pins ad o) ss (fun D σ H=>σ[j]?=some (some (.ref ad))/\∃m ρ st b1 b2 dx fs z,RF X.K m H ρ σ/\RH X.K m H st/\r.i<ρ.length/\(∀ρ,hvs (rel k) ρ r.a1=some b1)/\(∀ρ,hvs (rel k) ρ r.a2=some b2)/\b1.length+b2.length<=100/\o.dict=some dx/\H dx=some (.xd fs)/\fs.lookup r.nm=some (.str z) /\
   post X.K m H D.rt (.tup [.ref (st.length+2),.str z]) (st++[.lst b1]++[.lst b2]++[.lst (b1++b2)])):=by
 replace h:=aq h;obtain⟨s1,q1,rfl,h⟩:=h;replace h:=aq h;obtain⟨s2,q2,rfl,h⟩:=h;replace h:=bL h;obtain⟨s3,rfl,h⟩:=h;simp only[Bool.and_eq_true] at h;obtain⟨⟨⟨⟨hij,hit⟩,h1⟩,h2⟩,h3⟩:=h;replace h1:=fG h1;obtain⟨t1,v1,p1,rfl,h1⟩:=h1;rw[MG] at h1;obtain⟨h1,h1'⟩:=h1;replace h1:=ai h1;obtain⟨y1,yp1,rfl,h1⟩:=h1;rw[MG,NZ] at h1;replace h1':=dP h1';obtain⟨z1,zp1,rfl,h1'⟩:=h1';replace h2:=fG h2;obtain⟨t2,v2,p2,rfl,h2⟩:=h2;rw[MG] at h2;obtain⟨h2,h2'⟩:=h2;replace h2:=ai h2;obtain⟨y2,yp2,rfl,h2⟩:=h2;rw[MG,NZ] at h2;replace h2':=oO h2';obtain⟨l2,o2,w2,bp2,rfl,h2'⟩:=h2';simp only[Bool.and_eq_true,beq_iff_eq] at h2';obtain⟨⟨rfl,h4⟩,h5⟩:=h2';replace h4:=ai h4;obtain⟨y4,yp4,rfl,h4⟩:=h4;rw[MG,NZ] at h4;replace h5:=dP h5;obtain⟨z2,zp2,rfl,h5⟩:=h5;replace h3:=gS h3;obtain⟨v3,p3,rfl,h3⟩:=h3;replace h3:=bg h3;obtain⟨v3,rfl,h3⟩:=h3;replace h3:=bw h3;obtain⟨vs3,k3,tp3,rfl,h3⟩:=h3;replace h3:=fP h3;obtain⟨l3,w3,rfl,h3⟩:=h3;rw[MG] at h3;obtain⟨h6,h3⟩:=h3;replace h6:=ai h6;obtain⟨y6,yp6,rfl,h6⟩:=h6;rw[MG,NZ] at h6;replace h3:=oq h3;obtain⟨tt,tu,tz,tp,rfl,h3⟩:=h3;simp only[Bool.and_eq_true] at h3;obtain⟨⟨h7,h8⟩,h9⟩:=h3;replace h8:=jS h8;obtain⟨dz,dk,dp,rfl,_⟩:=h8;replace h9:=cP h9;obtain⟨ay,am,ap,rfl,h9⟩:=h9;rw[MG,NZ] at h9;obtain⟨rfl,h9⟩:=h9;replace h9:=ai h9;obtain⟨yn,yq,rfl,h9⟩:=h9;rw[MG,NZ] at h9;obtain⟨rfl,h9⟩:=h9;have hN:X.N=c.N:=C.N;have NN:∀ {i:Nat}{y:Str},c.N[i]?=some y->X.N[i]?=some y:=fun z=>by rw[hN];exact z
 obtain⟨g1,g2⟩:=C.locx h1.2;obtain⟨g3,g4⟩:=C.locx h2.2;obtain⟨u1,u2,u3⟩:=C.visx h4.2;obtain⟨v1,v2,v3⟩:=C.visx h6.2;obtain⟨w1,w2,w3⟩:=C.visx h9;have S1:=pN (X:=Cx.hnd X pins ad o) (i:=r.i) (pos:=p1) (pos':=yp1) C.ndX (NN h1.1) g1 (mh (pos:=zp1) (uG (pins:=pins) (ad:=ad) C T hk hc r.a1 z1 h1')) (bP rfl) g2;have S2:=pN (X:=Cx.hnd X pins ad o) (i:=r.i) (pos:=p2) (pos':=yp2) C.ndX (NN h2.1) g3 (ED (pos:=bp2) (CF .Add) (dW (X:=Cx.hnd X pins ad o) (pos:=yp4) (NN h4.1) u1 u2 u3) (mh (pos:=zp2) (uG (pins:=pins) (ad:=ad) C T hk hc r.a2 z2 h5))) (bP rfl) g4;have S3:=vq (X:=Cx.hnd X pins ad o) (pos:=p3) (BC (pos:=tp3) (x1:=k3) (pac (dW (X:=Cx.hnd X pins ad o) (pos:=yp6) (NN h6.1) v1 v2 v3) (pac (t4 (pos:=tp) (JZ (pins:=pins) (ad:=ad) C T hk hc hit h7) (Iw (pins:=pins) (ad:=ad) (p:=yq) (pos:=ap) q (T.x k hk).1 hc hod hnm (NN hn) w1 w2 w3) (uR (x:=dz) (j:=dk) (pos:=dp))) eX rfl) rfl));intro ps s σ H D I hh;refine fB S1 (fB S2 (fB S3 qT)) ps s σ H D I ?_;obtain⟨hj,m,ρ,st,b1,b2,dx,fs,z,rf,rh,hl,e1,e2,hlen,ed,eh,el,w⟩:=hh;have small:∀ {l:Nat},l<=100->l<=sizeLine:=fun z=>MY z (by rw[sizeLine_eq];decide);have hji:r.i≠j:=bne_iff_ne.mp hij;have jset:∀ {σ:L2.St}{v:V},σ[j]?=some (some (.ref ad))->(σ.set r.i (some v))[j]?=some (some (.ref ad)):=fun z=>by rw[MH hji];exact z
 have iset:∀ {σ:L2.St}{v:V},r.i<σ.length->(σ.set r.i (some v))[r.i]?=some (some v):=fun z=>by rw[MW z]
 have lσ:r.i<σ.length:=by rw[<-rf.len];exact hl
 refine⟨hj,m,ρ,st,b1,rf,rh,e1 ρ,fun m1 H1 xs1 x1 r1 q1=>⟨by rw[<-q1.len];exact small (by omega),fun p hp=>?_⟩⟩;have eh1:=rh.xd eh x1;have r2:=r1.newL hp q1;have x2:=Ext.new1 (o:=.lst xs1) r1 hp;have f2:=((rf.mono x1).mono x2).set r.i (R.last (p:=p) r1.len);have eh2:=r1.xd eh1 x2;refine⟨.ref p,iset lσ,jset hj,m1++[p],_,st++[.lst b1],b2,f2,r2,e2 _,fun m3 H3 xs3 x3 r3 q3=>⟨by rw[<-q3.len];exact small (by omega),fun p4 hp4=>?_⟩⟩;have eh3:=r2.xd eh2 x3;have r4:=r3.newL hp4 q3;have x4:=Ext.new1 (o:=.lst xs3) r3 hp4;have eh4:=r3.xd eh3 x4;have rp:R X.K (m3++[p4]) (upd H3 p4 (.lst xs3)) (.ref st.length) (.ref p):=((R.last (K:=X.K) (H:=upd H1 p (.lst xs1)) (p:=p) r1.len).mono x3).mono x4;have rp4:R X.K (m3++[p4]) (upd H3 p4 (.lst xs3)) (.ref (st.length+1)) (.ref p4):=R.last (by rw[r3.len];simp);refine⟨m3++[p4],st++[.lst b1]++[.lst b2],.ref st.length,.ref (st.length+1),r4,rp,rp4,b1,b2,by simp,by simp,by omega,fun m5 H5 x5 y5 r5 q5=>?_⟩;have eh5:=r4.xd eh4 y5;have f5:=(((f2.mono x3).mono x4).mono y5).set r.i q5;have ln:(st++[Cell.lst b1]++[Cell.lst b2]).length=st.length+2:=by simp
 rw[ln] at q5;refine⟨x5,iset (by simpa using lσ),jset (jset hj),m5,_,_,f5,r5,fun m6 H6 x6 r6=>?_⟩;rw[hb1];dsimp only;rw[MN rfl];refine⟨jset (jset hj),dx,fs,z,ed,r5.xd eh5 x6,el,show 2<=sizeLine from small (by decide),fun p7 hp7=>?_⟩;have x7:=Ext.newT (o:=.tup [x5,.str z]) r6 hp7;exact w m6 _ _ (((((x1.trans x2).trans x3).trans x4).trans y5).trans (x6.trans x7)) (r6.newT hp7) (R_tup.mpr ⟨p7,_,rfl,SqT.of aw,Rs_cons'.mpr ⟨(q5.mono x6).mono x7,Rs_cons'.mpr ⟨R_str.mpr rfl,Rs_nil.mpr rfl⟩⟩⟩)
end
theorem zj:∀ {ns:List Str}{us:List PV}{xs:List V},Rs K m H us xs->(ns.zip us).lookup nm=some u->∃y,(ns.zip xs).lookup nm=some y/\R K m H u y
 | [],us,xs,_,e=>by simp at e
 | n::ns,[],xs,_,e=>by simp at e
 | n::ns,a::us,xs,h,e=>by
  rw[aK] at h;obtain⟨y,r,rfl,h1,h2⟩:=h;simp only[List.zip_cons_cons,List.lookup] at e |-
  split at e
  ·cases e;exact⟨y,rfl,h1⟩
  ·exact zj h2 e
theorem Eb (h:mroIn K C v=some true):∃o cd,K.lookup C=some o/\o.data=.cls cd/\cd.mro.contains v=true:=by
 unfold mroIn at h;obtain⟨cd,e,e2⟩:=Option.bind_eq_some_iff.mp h;unfold clsIn at e;split at e
 ·rename_i ho;cases e;refine⟨_,_,ho,rfl,?_⟩;split at e2
  ·cases e2
  ·exact NL e2
 ·cases e
def vk (Γ ΓR:Nat->FSp)(an:Nat->List Str)(n:Nat)(rel:Nat->Nat->Bool)(f:Nat)(es:Es)(r:HR)(ρ:Fr)(st:AH)(D:EK):Prop :=
 a9 Γ es ρ st fun vs st1=>ΓR f vs st1 (jL D fun k v st2=>k<n/\rel k 0=true/\hb (rel k) r.t=true/\r.nm∈an k/\r.i<ρ.length/\∃b1 b2 us z,(∀ρ,hvs (rel k) ρ r.a1=some b1)/\(∀ρ,hvs (rel k) ρ r.a2=some b2)/\b1.length+b2.length<=100/\v=.tup us/\((an k).zip us).lookup r.nm=some (.str z) /\
  D (.tup [.ref (st2.length+2),.str z]) (st2++[.lst b1]++[.lst b2]++[.lst (b1++b2)]))
noncomputable def wO (c:Cfg)(F:Xf)(ys:List Str)(f:Nat)(es:Es)(j:Nat)(r:HR)(x:List Stmt):Bool :=
 on1 x fun y=>Ge y fun b e n s₀ s=>aA e (fun q _=>ys[0]? == some q && c.glb q) && c.N[j]? == some n && c.names.lookup n == some .local && Gs c ys j n r (s₀::s) &&
  rQ b fun v=>du v fun v=>wG v fun g a as=>c.fn f g && F.rz.contains f && ar a && as.all ar && cG c es (a::as)
section
variable {X:Cx}{c:Cfg}{F:Xf}{Γ ΓR:Nat->FSp}{ca:CA}{da:Nat->Addr}{rel:Nat->Nat->Bool}{ys:List Str}
theorem CV (C:COk X.nox c Γ)(G:XG X.prog X.w X.K X.mg X.base c F ΓR ca)(T:XT X.K X.mg F.xs ys (fun k=>(ca k).1) da rel)(hE:W.excIn X.K (da 0) ky "ValueError.__new__"=true)(hst:X.stack=X.env::X.outer)(hfr:X.env.frame=some X.env.locals)(hI:∀k,k<F.xs.length->∃f D,cE X.K (ca k).1 f D (ca k).2=true)(h:wO c F ys f es j r x=true):PSs X.nox x (TSx X.K fun ρ st D=>vk Γ ΓR (fun k=>(ca k).2) F.xs.length rel f es r ρ st D.rt):=by
 replace h:=bL h;obtain⟨y,rfl,h⟩:=h;replace h:=yZ h;obtain⟨b,e,n,s₀,sr,hp,pos,rfl,h⟩:=h;simp only[Bool.and_eq_true,beq_iff_eq] at h;obtain⟨⟨⟨⟨h1,h2⟩,h3⟩,h4⟩,h5⟩:=h;replace h1:=ai h1;obtain⟨q,qp,rfl,h1⟩:=h1;rw[MG,NZ] at h1;replace h5:=gS h5;obtain⟨v,rp,rfl,h5⟩:=h5;replace h5:=bg h5;obtain⟨v,rfl,h5⟩:=h5;replace h5:=rH h5;obtain⟨g,gp,a,as,cp,rfl,h5⟩:=h5;simp only[Bool.and_eq_true] at h5;obtain⟨⟨⟨⟨a1,a2⟩,a3⟩,a4⟩,a5⟩:=h5;rintro pins s σ H D I ⟨m,ρ,st,rf,rh,wq⟩;obtain⟨k1',k2,k3,_⟩:=C.fnx a1;have a1':=a1;unfold Cfg.fn at a1';simp only[Bool.and_eq_true,beq_iff_eq,decide_eq_true_eq] at a1';obtain⟨ps,HF⟩:=G.fn f g a1'.1.2 a1'.1.1 a2;obtain⟨fa,fd,Fn,fm,fk,fb⟩:=HF.ex;obtain⟨q1,q2,q3⟩:=C.glbx h1.2;let Wx:XC->Hp->Prop:=fun Cl H'=>∃k v m' st',Cl.1=(ca k).1/\k<F.xs.length/\rel k 0=true/\Ext X.K m H m' H'/\RH X.K m' H' st'/\Pay X.K m' H' (ca k).2 Cl.2 v/\hb (rel k) r.t=true/\r.nm∈(ca k).2/\r.i<ρ.length/\∃b1 b2 us z,(∀ρ,hvs (rel k) ρ r.a1=some b1)/\(∀ρ,hvs (rel k) ρ r.a2=some b2)/\b1.length+b2.length<=100/\v=.tup us/\((ca k).2.zip us).lookup r.nm=some (.str z) /\
  post X.K m H D.rt (.tup [.ref (st'.length+2),.str z]) (st'++[.lst b1]++[.lst b2]++[.lst (b1++b2)])
 let Xe:Value->Shared->Prop:=fun e s'=>∃s1 H1,L2.Inv X.nox pins σ H1 s1/\CXe X.prog X.w X.stack H1 s1 (fun v dx H'=>∃C,v=.ref C/\Wx (C,dx) H') e s';have hy:=T.y 0 q h1.1;have hN:X.N=c.N:=C.N;refine wpAny_execs_cons (thn (Q:=SP X.nox pins D) (E:=X.nox.xe) ?_ fun fl s1 z=>?_)
 rotate_left
 ·cases fl with
  | next=>exact wpAny_execs_nil z
  | brk=>exact z
  | cont=>exact z
  | ret u=>exact z
 refine wpAny_Try_except (wpAny_mono (wpAny_execs_cons (thn (Q:=SP (Cx.pin X.nox pins Xe) [] D) (E:=Xe) ?_ fun fl s1 z=>?_)) (fun _ _ z=>z) fun e s1 z=>?_)
 ·have hE1:PE (Cx.pin X.nox pins Xe) (.Call (.Name g gp) (a::as) [] cp) (fun σ' H Q=>σ'=σ/\kK (j_ X.K ca (ΓR f)) [] (fun v dx H'=>∃C,v=.ref C/\Wx (C,dx) H') (TAx X.K (a9 Γ es)) σ' H Q) :=
   BJ (Y:=Cx.pin X.nox pins Xe) Fn k3 k1' fm fk fb .nil (fun ps H1 s1 e s' I1 z=>⟨s1,H1,Inv.unpin I1,z⟩) (PA.pin (X:=X.nox) (fK es C _ a5)) k2 (aO a3) (d_ a4)
  refine vq (X:=Cx.pin X.nox pins Xe) hE1 [] s σ H D (Inv.pinned I _) ⟨rfl,m,ρ,st,rf,rh,?_⟩;refine au C.mono es (fun vs st1 z m1 H1 xs1 e1 r1 r2=>⟨m1,st1,vs,mD r2,r1,G.mono _ _ _ _ _ (gU (fun v st2 z m2 H2 x2 e2 r3 r4=>?_) fun k v st2 z m2 H2 dx e2 r3 y=>?_) z⟩) wq
  ·exact z m2 H2 x2 (e1.trans e2) r3 r4
  ·obtain⟨z1,z2,z3,z4,z5,z6⟩:=z;exact⟨(ca k).1,rfl,k,v,m2,st2,rfl,z1,z2,e1.trans e2,r3,y,z3,z4,z5,z6⟩
 ·cases fl with
  | next=>exact wpAny_execs_nil (wpAny_execs_nil (SP.unpin z))
  | brk=>exact SP.unpin z
  | cont=>exact SP.unpin z
  | ret u=>exact SP.unpin z
 ·obtain⟨s2,H2,I2,cx⟩:=z;refine A2 (X:=X.nox) (Wx:=Wx) I2 cx hst hfr q1 q2 hy.1 hE (fun Cl H' z=>?_) C.ndX (by rw[show X.nox.N=X.N from rfl,hN];exact h2) (C.lcl n h3) (C.lcl n h3) fun ad Cl H' o s3 z oc od J=>?_
  ·obtain⟨k,v,m',st',ec,z1,z2,_⟩:=z;refine⟨by rw[ec];exact G.clsX (M4 z1),?_⟩;rw[ec];have hr:=(T.rl k 0 z1 (MC.mp h1.1).1).1;rw[z2] at hr;exact Eb hr
  ·obtain⟨k,v,m',st',ec,z1,z2,z3,z4,z5,z6,z7,z8,b1,b2,us,z,e1,e2,z9,rfl,z10,z11⟩:=z;obtain⟨fi,Di,hi⟩:=hI k z1;have oc1:o.cls=.ref (ca k).1:=oc.1.trans (by rw[ec]);obtain⟨Ca,Cd⟩:=Cl;cases Cd with
   | none=>exact False.elim z5
   | some dx =>
   obtain⟨xs,p1,p2⟩:=z5;obtain⟨yv,p3,p4⟩:=zj p2 z10;rw[R_str] at p4;subst p4;refine JE (X:=X.nox) C T z1 oc1 od hi z7 z6 h2 h4 [] s3 _ H' _ J ⟨?_,m',ρ.set j none,st',b1,b2,dx,_,z,(rf.mono z3).setN j _,z4,by simpa using z8,e1,e2,z9,oc.2,p1,p3,fun m5 H5 x5 x6 r5 r6=>z11 m5 H5 x5 (z3.trans x6) r5 r6⟩;have hl:=I2.len;rw[P9,MN rfl,MN];rw[hl,show X.nox.N=X.N from rfl,hN];exact(MC.mp h2).1
end
end FW
namespace FW
open L2 HX
open PySem.W (findIn mroIn typeIn clsIn)
theorem Dw {mg:Str->Option Value}{D:Addr}{nx x sf name qual:Str}{params:Arguments}{kV:Value}{p ap p1:Pos}(q:cE K C f D [nx]=true)(lk:K.lookup f=some ⟨oc,od,.func (W.fnOf name qual params [.Expr (.Call (.Attribute (.Name x p) "__init__" ap) [.Name sf p1,.Constant (.str t) j p2] [] pos) pos2,.Assign [.Attribute (.Name sf p3) nx p4] (.Name a p5) p6] scope dV kV doc pm an cdv ct),osl⟩)(hcd:W.codeIn K cdv qual=true)(S:ak [sf,a] [sf,a] scope)(hx:scope.names.lookup x=some .globalImplicit)(hm:mg x=some (.ref D))(hs:scope.names.lookup sf=some .local)(ha:scope.names.lookup a=some .local)(d1:(x == ("__debug__":Str))=false)(d2:(sf == ("__debug__":Str))=false)(d3:(sf == ("__classdict__":Str))=false)(d4:(a == ("__debug__":Str))=false)(d5:(a == ("__classdict__":Str))=false)(hl:(ap.endLine == pos.line)=true)(hb:∀(body:List Stmt) (us:List Value),us.length=2->bindArgs (W.fnOf name qual params body scope dV kV doc pm an cdv ct) ⟨us,[]⟩=pure ([sf,a].zip us)):qj P w K mg base 1 C [nx]:=by
 refine⟨f,D,q,fun A outer s H e us vs hr e0 rv hlen eh=>?_⟩
 match vs,us,rv,hlen with
 | [v],[u],rv,_ =>
 refine zL (N:=[sf,a]) (ps:=[sf,a]) (us:=[.ref e,u]) (vs:=[.ref e,v]) (k:=0) lk hcd S rfl hr e0 (.of_eq (hb _ _ rfl)) (.cons rfl rv) fun hroom=>?_;have vS:Vis (dv CX0 P w K mg base [sf,a] qual scope f cdv A outer s H E0).env.scope sf:=.inl hs;have vA:Vis (dv CX0 P w K mg base [sf,a] qual scope f cdv A outer s H E0).env.scope a:=.inl ha;have gX:Gl (dv CX0 P w K mg base [sf,a] qual scope f cdv A outer s H E0) x:=hx;refine⟨_,fB (vP (A4 (X:=dv CX0 P w K mg base [sf,a] qual scope f cdv A outer s H E0) (i:=0) q gX hm rfl vS d1 d2 d3 hl) (bP rfl)) (fB (En (X:=dv CX0 P w K mg base [sf,a] qual scope f cdv A outer s H E0) (i:=0) q MQ rfl vS d2 d3 (dW (X:=dv CX0 P w K mg base [sf,a] qual scope f cdv A outer s H E0) (i:=1) rfl vA d4 d5) (bP rfl)) qT),?_⟩;exact⟨e,rfl,eh,v,rfl,e,rfl,eh,fun d hd hde=>⟨rfl,d,hd,hde,rfl⟩⟩
theorem yK {Γ ΓR:Nat->FSp}(G:aJ Γ)(G':aJ ΓR){an:Nat->List Str}{rel:Nat->Nat->Bool}{st:AH}{D D':EK}(hD:∀v st,D v st->D' v st)(h:vk Γ ΓR an n rel f es r ρ st D):vk Γ ΓR an n rel f es r ρ st D' :=
 au G es (fun vs st1 z=>G' _ _ _ _ _ (gU hD fun k v st2 ⟨a1,a2,a3,a4,a5,b1,b2,us,zz,c1,c2,c3,c4,c5,c6⟩=>⟨a1,a2,a3,a4,a5,b1,b2,us,zz,c1,c2,c3,c4,c5,hD _ _ c6⟩) z) h
section
variable {P:Program}{w:World}{K:W.Frag}{mg:Str->Option Value}{base h:Heap}{Γ ΓR:Nat->FSp}{c c':Cfg}{F:Xf}{ca:CA}{da:Nat->Addr}{rel:Nat->Nat->Bool}{ys:List Str}{x:Str}{st:Stmt}{N ps:List Str}{sp:FSp}{f j:Nat}{es:Es}{r:HR}
theorem AL (A0:At K mg x st ps)(S:ak N ps (ae st))(hN:c.N=N)(hn:c.names=(ae st).names)(hc:wO c F ys f es j r (ah st)=true)(G:GOk P w K mg base c Γ)(GX:XG P w K mg base c F ΓR ca)(T:XT K mg F.xs ys (fun k=>(ca k).1) da rel)(hE:W.excIn K (da 0) ky "ValueError.__new__"=true)
  (hI:∀k,k<F.xs.length->∃f D,cE K (ca k).1 f D (ca k).2=true) (len:∀as st Q,sp as st Q->as.length=ps.length) (h:∀as st Q,sp as st Q->vk Γ ΓR (fun k=>(ca k).2) F.xs.length rel f es r (frame N.length as) st (aj st Q).rt) (hpc:c.pc=false:=by rfl) (hhm:c.hm=none:=by rfl):Has P w K mg base (c.lim+1) x ps (bj K sp):=by
 refine A0.ok S (fun vs H Q E ⟨m,st,as,r1,r2,q⟩=>by rw[<-r1.len];exact len as st _ q) fun f cdv A outer s H vs Q E hr ⟨m,st',as,r1,r2,q⟩=>?_;have C:=j5 (E:=E) (H:=H) (outer:=outer) (Γ:=Γ) S hN hn hr G (fun z=>by rw[hpc] at z;cases z) fun k z=>by rw[hhm] at z;cases z
 exact⟨_,CV C GX T hE rfl rfl hI hc,m,frame N.length as,st',fE r1,r2,yK G.mono GX.mono (fun v st2 k=>bQ r2 k) (h as st' _ q)⟩
theorem JX.nxR (J:JX P w K mg base c F Γ ΓR ca)(T:XT K mg F.xs ys (fun k=>(ca k).1) da rel)(hE:W.excIn K (da 0) ky "ValueError.__new__"=true)(hI:∀k,k<F.xs.length->∃f D,cE K (ca k).1 f D (ca k).2=true)(X:K.In h)(Gn:h.Ns mainGlobals mg)(d:DI K x st)(S:ak N ps (ae st))(hc:wO c F ys f es j r (ah st)=true)
  (len:∀ {as st Q},sp as st Q->as.length=ps.length) (hw:∀ {as st Q},sp as st Q->vk Γ ΓR (fun k=>(ca k).2) F.xs.length rel f es r (frame N.length as) st (aj st Q).rt)
  (hb:∀(kV doc pm:Value) (an:Option Addr) (cdv ct:Value) (us:List Value),us.length=ps.length->bindArgs (W.fnOf x x (aY st) (ah st) (ae st) .none kV doc pm an cdv ct) ⟨us,[]⟩=pure (ps.zip us))
  (hN:c.N=N:=by rfl) (hn:c.names=(ae st).names:=by rfl) (hpc:c.pc=false:=by rfl) (hhm:c.hm=none:=by rfl) (h1:c'.fns=c.fns:=by rfl) (h2:c'.lim=c.lim+1:=by rfl) (h3:c'.blts=c.blts:=by rfl) (h4:c'.gl=c.gl:=by rfl) (hx:c.fns[c.lim]?=some x:=by rfl) (hs:Γ c.lim=sp:=by rfl) (hr:F.rz.contains c.lim=false:=by rfl):JX P w K mg base c' F Γ ΓR ca:=by
 obtain⟨fa,oc,od,kV,dc,pm,an,cd,ct,sl,a,l,cc,k⟩:=d;subst hs;exact⟨J.g.next h1 h2 h3 h4 hx (AL (At.mk' X Gn hb a l cc k) S hN hn hc J.g J.x T hE hI (fun _ _ _=>len) (fun _ _ _=>hw) hpc hhm),J.x.skip h1 h2 hr⟩
end
noncomputable def Lr (s:Stmt):List Stmt:=match s with | .ClassDef _ _ _ b _ _ _ _ _ _ _=>b|_=>[]
noncomputable def JJ (x sf a nx:Str)(ss:List Stmt):Bool:=onCons ss fun s1 r=>on1 r fun s2 =>
 Ii s1 (fun e=>onCall e fun g as pos=>iG g fun y m ap=>m == ("__init__":Str) && ap.endLine == pos.line && aA y (fun z _=>z == x) && on2 as fun b t=>aA b (fun z _=>z == sf) && vT t fun _=>true) &&
 oj s2 fun t v=>aA v (fun z _=>z == a) && iG t fun y m _=>m == nx && aA y fun z _=>z == sf
theorem Cn {mg:Str->Option Value}{D:Addr}{nx name qual:Str}{st:Stmt}{dV kV doc pm cdv ct:Value}{an:Option Addr}(q:cE K C f D [nx]=true)(lk:K.lookup f=some ⟨oc,od,.func (W.fnOf name qual (aY st) (ah st) (ae st) dV kV doc pm an cdv ct),osl⟩)(hcd:W.codeIn K cdv qual=true)(hc:JJ x sf a nx (ah st)=true)(S:ak [sf,a] [sf,a] (ae st))(hm:mg x=some (.ref D))(hn:((ae st).names.lookup x == some .globalImplicit && (ae st).names.lookup sf == some .local && (ae st).names.lookup a == some .local && !(x == ("__debug__":Str)) && !(sf == ("__debug__":Str)) && !(sf == ("__classdict__":Str)) && !(a == ("__debug__":Str)) && !(a == ("__classdict__":Str)))=true)(hb:∀(body:List Stmt) (us:List Value),us.length=2->bindArgs (W.fnOf name qual (aY st) body (ae st) dV kV doc pm an cdv ct) ⟨us,[]⟩=pure ([sf,a].zip us)):qj P w K mg base 1 C [nx]:=by
 generalize ah st=ss at lk hc;simp only[Bool.and_eq_true,beq_iff_eq,Bool.not_eq_true'] at hn;obtain⟨⟨⟨⟨⟨⟨⟨n1,n2⟩,n3⟩,n4⟩,n5⟩,n6⟩,n7⟩,n8⟩:=hn;replace hc:=aq hc;obtain⟨s1,r,rfl,hc⟩:=hc;replace hc:=bL hc;obtain⟨s2,rfl,hc⟩:=hc;rw[MG] at hc;obtain⟨h1,h2⟩:=hc;replace h1:=sX h1;obtain⟨e,p0,rfl,h1⟩:=h1;replace h1:=aP h1;obtain⟨g,as,pos,rfl,h1⟩:=h1;replace h1:=cP h1;obtain⟨y,m,ap,rfl,h1⟩:=h1;simp only[Bool.and_eq_true] at h1;obtain⟨⟨⟨h3,h4⟩,h5⟩,h6⟩:=h1;rw[NZ] at h3;subst h3;replace h5:=ai h5;obtain⟨z,zp,rfl,h5⟩:=h5;rw[NZ] at h5;subst h5;replace h6:=fP h6;obtain⟨b,t,rfl,h6⟩:=h6;rw[MG] at h6;obtain⟨h6,h7⟩:=h6;replace h6:=ai h6;obtain⟨z2,zp2,rfl,h6⟩:=h6;rw[NZ] at h6;subst h6;replace h7:=jS h7;obtain⟨tx,tk,tp,rfl,_⟩:=h7;replace h2:=fG h2;obtain⟨tg,v,p9,rfl,h2⟩:=h2;rw[MG] at h2;obtain⟨h8,h9⟩:=h2;replace h8:=ai h8;obtain⟨z3,zp3,rfl,h8⟩:=h8;rw[NZ] at h8;subst h8;replace h9:=cP h9;obtain⟨y4,m4,ap4,rfl,h9⟩:=h9;rw[MG,NZ] at h9;obtain⟨rfl,h9⟩:=h9;replace h9:=ai h9;obtain⟨z5,zp5,rfl,h9⟩:=h9;rw[NZ] at h9;subst h9;exact Dw q lk hcd S n1 hm n2 n3 n4 n5 n6 n7 n8 h4 hb
end FW
namespace FW
open PySem L2 HX
noncomputable def C7 (Γ ΓR:Nat->FSp)(ss:XSs)(D:aC)(Wx:XW):aC:={ D with nx:=fun ρ1 st1=>bN Γ ΓR ss ρ1 st1 D Wx }
noncomputable def Em (Γ ΓR:Nat->FSp)(n:Nat)(rel:Nat->Nat->Bool)(ss:TSs)(D:aC):aC:={ D with nx:=fun ρ1 st1=>iY Γ ΓR n rel ss ρ1 st1 D }
section
variable {Γ ΓR:Nat->FSp}{ρ:Fr}{st:AH}{D:aC}{Wx:XW}{Q:EK}{n:Nat}{rel:Nat->Nat->Bool}
theorem EU:(C7 Γ ΓR ss D Wx).nx ρ st=bN Γ ΓR ss ρ st D Wx:=rfl
theorem Fp:(C7 Γ ΓR ss D Wx).rt v st=D.rt v st:=rfl
theorem zQ:(C7 Γ ΓR ss D Wx).rt=D.rt:=rfl
theorem Fh:(Em Γ ΓR n rel ss D).nx ρ st=iY Γ ΓR n rel ss ρ st D:=rfl
theorem F8:(Em Γ ΓR n rel ss D).rt v st=D.rt v st:=rfl
theorem CG:(Em Γ ΓR n rel ss D).rt=D.rt:=rfl
theorem Ez:bN Γ ΓR .nil ρ st D Wx=D.nx ρ st:=rfl
theorem BS:bN Γ ΓR (.cons s ss) ρ st D Wx=wpX Γ ΓR s ρ st (C7 Γ ΓR ss D Wx) Wx:=rfl
theorem IZ:wpX Γ ΓR (.st s) ρ st D Wx=wpS Γ s ρ st D:=rfl
theorem JN:wpX Γ ΓR (.ifX t a b) ρ st D Wx=wpT Γ t ρ st fun k st1=>if k=true then bN Γ ΓR a ρ st1 D Wx else bN Γ ΓR b ρ st1 D Wx:=rfl
def KM (Γ ΓR:Nat->FSp)(t:Tg)(b:XSs)(chk:AH->Prop)(D:aC)(Wx:XW)(xs:List PV)(ρ:Fr)(st:AH):Prop:=gk chk (fun x ρ' st' D'=>bt Γ t x ρ' st' fun ρ2 st2=>bN Γ ΓR b ρ2 st2 D' Wx) D xs ρ st
theorem Gw:wpX Γ ΓR (.forX t it b) ρ st D Wx=iJ Γ it ρ st fun xs chk st1=>KM Γ ΓR t b chk D Wx xs ρ st1:=rfl
theorem Ee (G:aJ Γ)(G':aJ ΓR){chk:AH->Prop}(I:Nat->Fr->AH->Prop)(h0:I 0 ρ st)(hs:∀i x ρ st,xs[i]?=some x->I i ρ st->chk st/\bt Γ t x ρ st fun ρ2 st2=>bN Γ ΓR b ρ2 st2 (LD (I (i+1)) D) Wx)(hd:∀ρ st,I xs.length ρ st->chk st/\D.nx ρ st):KM Γ ΓR t b chk D Wx xs ρ st:=by
 have key:∀(ys:List PV) (i:Nat) (ρ:Fr) (st:AH),i<=xs.length->xs.drop i=ys->I i ρ st->gk chk (fun x ρ' st' D'=>bt Γ t x ρ' st' fun ρ2 st2=>bN Γ ΓR b ρ2 st2 D' Wx) D ys ρ st:=by
  intro ys
  induction ys with
  | nil =>
   intro i ρ st hi e h;have:xs.length<=i:=List.drop_eq_nil_iff.mp e;obtain rfl:i=xs.length:=by omega
   exact hd ρ st h
  | cons y r ih =>
   intro i ρ st hi e h;have hx:xs[i]?=some y:=by rw[<-OY,e];rfl
   have ht:xs.drop (i+1)=r:=by rw[<-O6,e];rfl
   obtain⟨c,q⟩:=hs i y ρ st hx h;have il:=(MC.mp hx).1;have q2:∀ρ st,I (i+1) ρ st->gk chk (fun x ρ' st' D'=>bt Γ t x ρ' st' fun ρ2 st2=>bN Γ ΓR b ρ2 st2 D' Wx) D r ρ st:=fun ρ st z=>ih (i+1) ρ st (by omega) ht z;exact⟨c,aG G t (fun _ _ z=>bJ G G' b (D:=LD (I (i+1)) D) ⟨fun ρ st z=>q2 ρ st z,fun _ _ z=>z,fun _ _ z=>z,fun ρ st z=>q2 ρ st z⟩ (fun _ _ _ z=>z) z) q⟩
 exact key xs 0 ρ st (NV _) rfl h0
theorem zB:wpX Γ ΓR (.raiV k n es) ρ st D Wx=a9 Γ es ρ st fun vs st1=>vs.length=n/\Wx k (.tup vs) st1:=rfl
theorem GB:(oI st0 Q).nx ρ st=Ret st0 (fun v s=>Q (okR v) s) .non st:=rfl
theorem E3 {v:PV}:(oI st0 Q).rt v st=Ret st0 (fun v s=>Q (okR v) s) v st:=rfl
theorem A5:(oI st0 Q).rt=Ret st0 (fun v s=>Q (okR v) s):=rfl
theorem FF:wm st0 Q k v st=Ret st0 (fun u s=>Q (exV k u) s) v st:=rfl
theorem BP:iY Γ ΓR n rel .nil ρ st D=D.nx ρ st:=rfl
theorem EV:iY Γ ΓR n rel (.st s r) ρ st D=wpS Γ s ρ st (Em Γ ΓR n rel r D):=rfl
theorem Cc:iY Γ ΓR n rel (.trE f es i b r) ρ st D=a9 Γ es ρ st fun vs st1=>ΓR f vs st1 (jL (fun v st2=>iY Γ ΓR n rel r ρ st2 D) fun k _ st2=>k<n/\rel k 0=true/\iY Γ ΓR n rel r (ρ.set i (some (.bl b))) st2 D):=rfl
theorem FK:iY Γ ΓR n rel (.tr i w f es j hs r) ρ st D=a9 Γ es ρ st fun vs st1=>ΓR f vs st1 (jL (fun v st2=>iY Γ ΓR n rel r (ρ.set i (some (.tup [.str w,v]))) st2 D)
   fun k _ st2=>k<n/\rel k 0=true/\∃ρ',ID (rel k) hs (ρ.set j none)=some ρ'/\iY Γ ΓR n rel r (ρ'.set j none) st2 D):=rfl
end
theorem zX {sp:FSp}(ms:∀ {as st Q Q'},(∀v st,Q v st->Q' v st)->sp as st Q->sp as st Q'){st:AH}{Q':EK}(h:∀v st,Q v st->Q' v st)(q:okO sp as st Q):okO sp as st Q':=ms (gU h fun _ _ _ z=>z) q
end FW
namespace My
open PySem L2 HX FW
noncomputable def top (i:Nat):Stmt:=PySem.Challenge.pw_hourstairs_k95_whole_days.main.body.getD i (.Pass ⟨0,0,0,0⟩)
theorem lA {d:Nat}(h:0<d)(h2:d<2 ^ 8000):CBig (Nat.gcd n d:Nat):=by have h3:0<Nat.gcd n d:=Nat.gcd_pos_of_pos_right _ h;have h4:Nat.gcd n d<=d:=Nat.gcd_le_right _ h;refine⟨by omega,?_⟩;have h5:((Nat.gcd n d:Nat):Int).natAbs=Nat.gcd n d:=rfl;rw[h5];have:Nat.gcd n d<2 ^ 8000:=M_ h4 h2;have:=(QL (by omega)).mpr this;omega
noncomputable abbrev pc (q r:Int):Cell:=.lst [.int q,.int r]
theorem Hf:(pc q r).bel k=true:=by simp[pc,Cell.bel,PV.bels,PV.bel]
theorem K6:D7 10 18:=⟨by decide,by decide,by decide⟩
theorem vX {j:Int}(h:0<j)(h2:j<2 ^ 200):CBig j:=CBig.of h (Int.lt_of_lt_of_le h2 (by
 have:((2:Int) ^ 200)=((2 ^ 200:Nat):Int):=by rw[QH];rfl
 have e2:((2:Int) ^ 8999)=((2 ^ 8999:Nat):Int):=by rw[QH];rfl
 rw[this,e2];exact Int.ofNat_le.mpr (OR (by decide) (by decide))))
theorem wF {i:Int}(h1:-(2 ^ 64)<i)(h2:i<2 ^ 64):CMB i j:=.inr (.inl ⟨h1,h2⟩)
theorem Fk {j:Int}(h1:-(2 ^ 64)<j)(h2:j<2 ^ 64):CMB i j:=.inr (.inr ⟨h1,h2⟩)
theorem Ba {ns:List Int}{k:Nat}(h:k<ns.length):atI (ns.map PV.int) (k:Int)=some (.int (ns.getD k 0)):=by refine dF ?_;rw[MI,List.getD_eq_getElem?_getD,M4 h];rfl
theorem DY {n d:Nat}(h:0<d):Nat.gcd (n/Nat.gcd n d) (d/Nat.gcd n d)=1:=Nat.gcd_div_gcd_div_gcd_of_pos_right h
theorem Ec {d:Nat}(h:0<d):0<d/Nat.gcd n d:=Nat.div_pos (Nat.gcd_le_right _ h) (Nat.gcd_pos_of_pos_right _ h)
theorem vb (n d:Nat):n/Nat.gcd n d*d=n*(d/Nat.gcd n d):=by
 obtain⟨a,ha⟩:=Nat.gcd_dvd_left n d;obtain⟨b,hb⟩:=Nat.gcd_dvd_right n d;by_cases h:Nat.gcd n d=0
 ·rw[h,Nat.div_zero,Nat.div_zero,Nat.zero_mul,Nat.mul_zero]
 ·have e1:n/Nat.gcd n d=a:=by rw[Nat.div_eq_of_eq_mul_right (by omega) ha]
  have e2:d/Nat.gcd n d=b:=by rw[Nat.div_eq_of_eq_mul_right (by omega) hb]
  rw[e1,e2];generalize Nat.gcd n d=g at *;subst ha hb;rw[<-Nat.mul_assoc,OW a g]
theorem iV {n i:Nat}(h:(cO 0 ((n:Int).toNat))[i]?=some v):v=.int i/\i<n:=by
 unfold cO at h;rw[MI] at h;have hi:i<n:=by
  by_cases hi:i<n
  ·exact hi
  ·rw[NJ (by simp;omega)] at h;cases h
 rw[List.getElem?_range (by simpa using hi)] at h;cases h;exact⟨by simp,hi⟩
theorem oY:iP st (.tup [.int a,.int b])=some (.tuple [.int a,.int b]):=by simp[iP,PV.toD,PV.toDs]
theorem kr (a b:Int):SeqAt.shaped (.tuple [.int a,.int b])=true:=by simp[SeqAt.shaped,PyData.canLay0,PyData.canLayAll0,PyData.depth,PyData.depthAll]
theorem Bo (a b c d:Int):PyData.eqv (.tuple [.int a,.int b]) (.tuple [.int c,.int d])=(decide (a=c) && decide (b=d)):=by simp[PyData.eqv,PyData.eqvAll,Bool.beq_eq_decide_eq]
theorem B9 {a b c d:Int}{k:Bool->Prop}(h:k (decide (a=c) && decide (b=d))):eqW st (.tup [.int a,.int b]) (.tup [.int c,.int d]) k :=
 ⟨_,_,oY,oY,kr _ _,kr _ _,by rw[Bo];exact h⟩
def aN:FSp:=fun as st Q=>∃n d:Nat,as=[.int n,.int d]/\Q (.int (Nat.gcd n d:Nat)) st
theorem ig {as st Q Q'}(h:∀v st,Q v st->Q' v st)(q:aN as st Q):aN as st Q':=by obtain⟨n,d,e,q⟩:=q;exact⟨n,d,e,h _ _ q⟩
theorem iX {as st Q}(q:aN as st Q):as.length=2:=by obtain⟨n,d,rfl,_⟩:=q;rfl
noncomputable abbrev low (n d:Nat):PV:=.tup [.int (n/Nat.gcd n d:Nat),.int (d/Nat.gcd n d:Nat)]
def bR:FSp:=fun as st Q=>∃n d:Nat,as=[.int n,.int d]/\0<d/\d<2 ^ 8000/\Q (low n d) st
theorem nM {as st Q Q'}(h:∀v st,Q v st->Q' v st)(q:bR as st Q):bR as st Q':=by obtain⟨n,d,e,h1,h2,q⟩:=q;exact⟨n,d,e,h1,h2,h _ _ q⟩
theorem rD {as st Q}(q:bR as st Q):as.length=2:=by obtain⟨n,d,rfl,_⟩:=q;rfl
noncomputable abbrev fr (p:Nat × Nat):PV:=.tup [.int p.1,.int p.2]
noncomputable def aZ (n d:Nat):Nat × Nat:=(n/Nat.gcd n d,d/Nat.gcd n d)
theorem cf (n d:Nat):(aZ n d).1*d=n*(aZ n d).2:=vb n d
theorem bE {d:Nat}(h:0<d):0<(aZ n d).2:=Ec h
theorem lV {d:Nat}(h:0<d):Nat.gcd (aZ n d).1 (aZ n d).2=1:=DY h
theorem iZ (n d:Nat):(aZ n d).1<=n:=Nat.div_le_self _ _
theorem ji (n d:Nat):(aZ n d).2<=d:=Nat.div_le_self _ _
theorem yG (h:Nat.gcd n d=1):aZ n d=(n,d):=by simp[aZ,h]
theorem y8 (h1:Nat.gcd a b=1)(h2:Nat.gcd c d=1)(hb:0<b)(hd:0<d)(h:a*d=c*b):a=c/\b=d:=by
 have hbd:b ∣ d:=by have:b ∣ a*d:=⟨c,by rw[h,OW]⟩;exact Nat.Coprime.dvd_of_dvd_mul_left (show Nat.Coprime b a by unfold Nat.Coprime;rw[O7];exact h1) this
 have hdb:d ∣ b:=by have:d ∣ c*b:=⟨a,by rw[<-h,OW]⟩;exact Nat.Coprime.dvd_of_dvd_mul_left (show Nat.Coprime d c by unfold Nat.Coprime;rw[O7];exact h2) this
 have e:b=d:=Nat.dvd_antisymm hbd hdb;subst e;exact⟨Nat.eq_of_mul_eq_mul_right hb h,rfl⟩
theorem qx {n d n' d':Nat}(hd:0<d)(hd':0<d')(h:n*d'=n'*d):aZ n d=aZ n' d':=by
 have c1:=cf n d;have c2:=cf n' d';have p1:=bE (n:=n) hd;have p2:=bE (n:=n') hd';have g1:=lV (n:=n) hd;have g2:=lV (n:=n') hd';generalize aZ n d=p at *;generalize aZ n' d'=q at *;have:p.1*q.2=q.1*p.2:=by
  have e:d*d'*(p.1*q.2)=d*d'*(q.1*p.2):=by
   calc d*d'*(p.1*q.2)=(p.1*d)*d'*q.2:=by grind
    _=n*p.2*d'*q.2:=by rw[c1]
    _=(n*d')*p.2*q.2:=by grind
    _=(n'*d)*p.2*q.2:=by rw[h]
    _=(n'*q.2)*d*p.2:=by grind
    _=(q.1*d')*d*p.2:=by rw[c2]
    _=d*d'*(q.1*p.2):=by grind
  exact Nat.eq_of_mul_eq_mul_left (M3 hd hd') e
 obtain⟨e1,e2⟩:=y8 g1 g2 p1 p2 this;exact QU e1 e2
noncomputable def ax (p q:Nat × Nat):Nat × Nat:=aZ (p.1*q.2+q.1*p.2) (p.2*q.2)
noncomputable def KF (p q:Nat × Nat):Nat × Nat:=aZ (p.1*q.2-q.1*p.2) (p.2*q.2)
noncomputable def bM (p q:Nat × Nat):Nat × Nat:=aZ (p.1*q.1) (p.2*q.2)
structure Cop (p:Nat × Nat):Prop where
 pos:0<p.2
 one:Nat.gcd p.1 p.2=1
theorem Cop.low {d:Nat}(h:0<d):Cop (aZ n d):=⟨bE h,lV h⟩
theorem Cop.self (h:Cop p):aZ p.1 p.2=p:=yG h.one
theorem Cop.ext (h1:Cop p)(h2:Cop q)(h:p.1*q.2=q.1*p.2):p=q:=by obtain⟨e1,e2⟩:=y8 h1.one h2.one h1.pos h2.pos h;exact QU e1 e2
theorem bF {p q:Nat × Nat}(hp:0<p.2)(hq:0<q.2):Cop (ax p q):=.low (M3 hp hq)
theorem rW {p q:Nat × Nat}(hp:0<p.2)(hq:0<q.2):Cop (bM p q):=.low (M3 hp hq)
structure Sz (k:Nat)(p:Nat × Nat):Prop where
 a:p.1<2 ^ k
 b:p.2<2 ^ k
 pos:0<p.2
theorem Sz.mono {k:Nat}(h:Sz j p)(hk:j<=k):Sz k p:=⟨MK h.a (OR (by decide) hk),MK h.b (OR (by decide) hk),h.pos⟩
theorem bc {a b:Nat}(h1:a<2 ^ j)(h2:b<2 ^ k):a*b<2 ^ (j+k):=by
 rw[Nat.pow_add];by_cases hb:b=0
 ·subst hb;simp only[Nat.mul_zero];exact M3 (by omega) (by omega)
 ·exact MK (Nat.mul_lt_mul_of_pos_right h1 (by omega)) (Nat.mul_le_mul_left _ (NQ h2))
theorem jC (hp:Sz j p)(hq:Sz k q):Sz (j+k+1) (ax p q):=by
 have h1:=bc hp.a hq.b;have h2:=bc hq.a hp.b;rw[Nat.add_comm k j] at h2;have h3:=bc hp.b hq.b;have h4:(2:Nat) ^ (j+k+1)=2*2 ^ (j+k):=by rw[QS,OW]
 refine⟨M_ (iZ _ _) (by omega),M_ (ji _ _) (by omega),bE (M3 hp.pos hq.pos)⟩
theorem lp (hp:Sz j p)(hq:Sz k q):Sz (j+k) (bM p q) :=
 ⟨M_ (iZ _ _) (bc hp.a hq.a),M_ (ji _ _) (bc hp.b hq.b),bE (M3 hp.pos hq.pos)⟩
theorem q_ {d:Nat}{q:Nat × Nat}(hd:0<d)(hq:0<q.2):ax (aZ n d) q=aZ (n*q.2+q.1*d) (d*q.2):=by
 have c:=cf n d;have p:=bE (n:=n) hd;unfold ax;refine qx (M3 p hq) (M3 hd hq) ?_;generalize aZ n d=z at *;have e1:(z.1*q.2+q.1*z.2)*(d*q.2)=(z.1*d)*q.2*q.2+q.1*z.2*d*q.2:=by grind
 rw[e1,c];grind
theorem xK (p q:Nat × Nat):ax p q=ax q p:=by unfold ax;rw[Nat.add_comm,OW p.2 q.2]
theorem Dv {d:Nat}{q:Nat × Nat}(hd:0<d)(hq:0<q.2):ax q (aZ n d)=aZ (n*q.2+q.1*d) (d*q.2):=by rw[xK,q_ hd hq]
theorem fQ {p q r:Nat × Nat}(hp:0<p.2)(hq:0<q.2)(hr:0<r.2):ax (ax p q) r=ax p (ax q r):=by show ax (aZ _ _) r=ax p (aZ _ _);rw[q_ (M3 hp hq) hr,Dv (M3 hq hr) hp];congr 1 <;> grind
theorem xD {q:Nat × Nat}(hp:Cop p)(hq:0<q.2):q.1*(ax p q).2<=(ax p q).1*q.2/\KF (ax p q) q=p:=by
 have c:=cf (p.1*q.2+q.1*p.2) (p.2*q.2);have z:=bE (n:=p.1*q.2+q.1*p.2) (M3 hp.pos hq);unfold KF;show q.1*(aZ _ _).2<=(aZ _ _).1*q.2/\aZ ((aZ _ _).1*q.2-q.1*(aZ _ _).2) ((aZ _ _).2*q.2)=p;generalize aZ (p.1*q.2+q.1*p.2) (p.2*q.2)=w at *;have e1:w.1*q.2*p.2=(q.1*w.2)*p.2+p.1*q.2*w.2:=by
  have:w.1*q.2*p.2=w.1*(p.2*q.2):=by grind
  rw[this,c];grind
 have le:q.1*w.2<=w.1*q.2:=by refine Nat.le_of_mul_le_mul_right ?_ hp.pos;rw[e1];exact QD _ _
 refine⟨le,?_⟩;refine Eq.trans ?_ hp.self;refine qx (M3 z hq) hp.pos ?_;rw[Nat.sub_mul,e1,Nat.add_sub_cancel_left];grind
def bb (p q:Nat × Nat):Prop:=p.1*q.2<q.1*p.2
noncomputable instance (p q:Nat × Nat):Decidable (bb p q):=inferInstanceAs (Decidable (_<_))
theorem BR {d d':Nat}(hd:0<d)(hd':0<d'):bb (aZ n d) (aZ n' d')↔n*d'<n'*d:=by
 have c1:=cf n d;have c2:=cf n' d';have p1:=bE (n:=n) hd;have p2:=bE (n:=n') hd';unfold bb;generalize aZ n d=x at *;generalize aZ n' d'=y at *;have e1:d*d'*(x.1*y.2)=x.2*y.2*(n*d'):=by
  calc d*d'*(x.1*y.2)=(x.1*d)*d'*y.2:=by grind
   _=n*x.2*d'*y.2:=by rw[c1]
   _=x.2*y.2*(n*d'):=by grind
 have e2:d*d'*(y.1*x.2)=x.2*y.2*(n'*d):=by
  calc d*d'*(y.1*x.2)=(y.1*d')*d*x.2:=by grind
   _=n'*y.2*d*x.2:=by rw[c2]
   _=x.2*y.2*(n'*d):=by grind
 constructor
 ·intro h;have:=Nat.mul_lt_mul_of_pos_left h (M3 hd hd');rw[e1,e2] at this;exact Nat.lt_of_mul_lt_mul_left this
 ·intro h;have:=Nat.mul_lt_mul_of_pos_left h (M3 p1 p2);rw[<-e1,<-e2] at this;exact Nat.lt_of_mul_lt_mul_left this
theorem jb {p q r:Nat × Nat}(hp:0<p.2)(hq:0<q.2)(hr:0<r.2):bb (ax p r) (ax q r)↔bb p q:=by
 unfold ax;rw[BR (M3 hp hr) (M3 hq hr)];unfold bb;have e1:(p.1*r.2+r.1*p.2)*(q.2*r.2)=r.2*r.2*(p.1*q.2)+r.1*p.2*q.2*r.2:=by grind
 have e2:(q.1*r.2+r.1*q.2)*(p.2*r.2)=r.2*r.2*(q.1*p.2)+r.1*p.2*q.2*r.2:=by grind
 rw[e1,e2,Nat.add_lt_add_iff_right];exact Nat.mul_lt_mul_left (M3 hr hr)
def PK (q r:Int):Prop:=0<=q/\0<=r/\r<8589934592
def Pot (st:AH)(p:Nat):Prop:=∃q r,st[p]?=some (pc q r)/\PK q r
theorem Pot.lt (h:Pot st p):p<st.length:=by obtain⟨q,r,e,_⟩:=h;exact aB e
theorem Pot.app {g:AH}(h:Pot st p):Pot (st++g) p:=by obtain⟨q,r,e,z⟩:=h;exact⟨q,r,aR e,z⟩
structure Gr (st:AH)(p:Nat)(st':AH):Prop where
 len:st.length<=st'.length
 old:∀i,i<st.length->i≠p->st'[i]?=st[i]?
 pot:Pot st' p
 was:p<st.length
theorem Gr.refl (h:Pot st p):Gr st p st:=⟨MJ _,fun _ _ _=>rfl,h,h.lt⟩
theorem Gr.trans (a:Gr st p s1)(b:Gr s1 p s2):Gr st p s2:=⟨MY a.len b.len,fun i h1 h2=>(b.old i (MK h1 a.len) h2).trans (a.old i h1 h2),b.pot,a.was⟩
theorem Gr.app {g:AH}(a:Gr st p s1):Gr st p (s1++g) :=
 ⟨by rw[NU];exact MY a.len (QD _ _),fun i h1 h2=>by rw[MS (MK h1 a.len)];exact a.old i h1 h2,a.pot.app,a.was⟩
theorem Gr.set (a:Gr st p s1)(z:PK q r):Gr st p (s1.set p (pc q r)) :=
 ⟨by rw[OF];exact a.len,fun i h1 h2=>by rw[MH (Ne.symm h2)];exact a.old i h1 h2,⟨q,r,MW a.pot.lt,z⟩,a.was⟩
theorem Gr.setN {n:Nat}(a:Gr st p s1)(h:st.length<=n):Gr st p (s1.set n c):=by
 have hn:n≠p:=fun e=>by have:=a.was;omega
 refine⟨by rw[OF];exact a.len,fun i h1 h2=>by rw[MH (by omega)];exact a.old i h1 h2,?_,a.was⟩;obtain⟨q,r,e,z⟩:=a.pot;exact⟨q,r,by rw[MH hn];exact e,z⟩
theorem Gr.get {n:Nat}(a:Gr st p s1)(h:st[n]?=some c)(hn:n≠p):s1[n]?=some c:=(a.old n (aB h) hn).trans h
theorem Gr.tmp {v:PV}{Q:EK}(a:Gr st p s1)(hv:v.bel st.length=true)(k:∀s2,Gr st p s2->s2.length=st.length->Q v s2):Tmp st Q v s1:=by
 have hl:(s1.take st.length).length=st.length:=by rw[N5];exact Nat.min_eq_left a.len
 have hg:∀i,i<st.length->(s1.take st.length)[i]?=s1[i]?:=fun i hi=>by rw[OJ hi]
 obtain⟨q,r,e,z⟩:=a.pot;refine⟨s1.take st.length,s1.drop st.length,(OC _ _).symm,hl,fun i hi=>?_,hv,k _ ⟨by omega,fun i h1 h2=>(hg i h1).trans (a.old i h1 h2),⟨q,r,(hg p a.was).trans e,z⟩,a.was⟩ hl⟩;by_cases hp:i=p
 ·subst hp;exact .inr ⟨pc q r,(hg i a.was).trans e,Hf⟩
 ·exact .inl ((hg i hi).trans (a.old i hi hp))
theorem gF {j k:Nat}(h:j<=k):(2:Nat) ^ j<=2 ^ k:=OR (by decide) h
theorem iS {a b:Nat}(h1:a<2 ^ 3000)(h2:b<2 ^ 3000):CMB (a:Int) (b:Int):=.inl ⟨MK h1 (gF (by decide)),MK h2 (gF (by decide))⟩
theorem HK {a b:Nat}(h1:a<2 ^ 3000)(h2:b<2 ^ 3000):a*b<2 ^ 8000:=MK (bc h1 h2) (gF (by decide))
theorem u_ {p q:Nat × Nat}{k:Bool->Prop}(h:k (decide (p=q))):eqW st (fr p) (fr q) k:=by
 refine B9 ?_;have:(decide ((p.1:Int)=q.1) && decide ((p.2:Int)=q.2))=decide (p=q):=by
  rw[OM];simp only[Bool.and_eq_true,decide_eq_true_eq];constructor
  ·rintro⟨h1,h2⟩;exact QU (by omega) (by omega)
  ·rintro rfl;exact⟨rfl,rfl⟩
 rw[this];exact h
theorem zY {as st Q Q'}(h:∀v st,Q v st->Q' v st)(q:iC as st Q):iC as st Q':=by obtain⟨n,e,h1,q⟩:=q;exact⟨n,e,h1,fun z=>h _ _ (q z)⟩
theorem DT {as st Q}(q:iC as st Q):as.length=1:=by obtain⟨n,rfl,_⟩:=q;rfl
noncomputable abbrev tl (z:Str):List Nat:=z.cps.toList
noncomputable abbrev sV (ns:List Str):List PV:=ns.map PV.str
noncomputable abbrev kd (ps:List (Str × PV)):List (Key × PV):=ps.map fun p=>(Sum.inr p.1,p.2)
noncomputable abbrev F2:=Nat × Nat
structure Rd where
 a:F2
 b:F2
 c:F2
 d:F2
noncomputable abbrev rdV (r:Rd):PV:=.tup [fr r.a,fr r.b,fr r.c,fr r.d]
structure RdS (k:Nat)(r:Rd):Prop where
 a:Sz k r.a
 b:Sz k r.b
 c:Sz k r.c
 d:Sz k r.d
theorem RdS.mono {k':Nat}(h:RdS k r)(z:k<=k'):RdS k' r:=⟨h.a.mono z,h.b.mono z,h.c.mono z,h.d.mono z⟩
structure RdK (r:Rd):Prop where
 a:Cop r.a
 b:Cop r.b
 c:Cop r.c
 d:Cop r.d
 ab:¬bb r.b r.a
noncomputable def shR (y:F2)(r:Rd):Rd:=⟨ax r.a y,ax r.b y,ax r.c y,ax r.d y⟩
noncomputable def dY (L:List Rd)(day:F2):Nat->List Rd
 | 0=>[]
 | n+1=>dY L day n++L.map (shR (bM (n,1) day))
theorem i6 (L:List Rd)(day:F2):∀n,(dY L day n).length=n*L.length
 | 0=>by simp[dY]
 | n+1=>by simp[dY,i6 L day n,Nat.add_mul]
structure Te where
 a:Str
 b:Str
 rs:List Rd
noncomputable abbrev teV (t:Te):PV:=.tup [.str t.a,.str t.b,.tup (t.rs.map rdV)]
noncomputable abbrev Tb:=List (Str × Te)
noncomputable abbrev pv (ps:Tb):List (Str × PV):=ps.map fun p=>(p.1,teV p.2)
noncomputable abbrev bh (e:F2)(ws:List Str)(d:Nat):PV:=.tup [fr e,.tup (sV ws),.ref d]
def Pre (st st':AH):Prop:=∀i,i<st.length->st'[i]?=st[i]?
theorem Pre.refl:Pre st st:=fun _ _=>rfl
theorem Pre.app {g:AH}(h:Pre st s):Pre st (s++g):=fun i hi=>by have:=h i hi;rw[M4 hi] at this;rw[M4 hi];exact aR this
theorem Pre.get (h:Pre st s){k:Nat}(e:st[k]?=some c):s[k]?=some c:=(h k (aB e)).trans e
theorem Pre.len (h:Pre st s):st.length<=s.length:=by
 by_cases z:st.length<=s.length
 ·exact z
 ·have:=h s.length (by omega);rw[NJ (MJ _),M4 (by omega)] at this;cases this
theorem Pre.trans (h:Pre a b)(k:Pre b c):Pre a c:=fun i hi=>(k i (MK hi h.len)).trans (h i hi)
theorem Pre.setN {n:Nat}(h:Pre st s)(hn:st.length<=n):Pre st (s.set n c):=fun i hi=>by rw[MH (by omega)];exact h i hi
structure Mok (m:Nat)(t:F2):Prop where
 z:Sz m t
 c:Cop t
theorem Mok.up {m':Nat}(h:Mok m t)(z:m<=m'):Mok m' t:=⟨h.z.mono z,h.c⟩
noncomputable def srt (l:List Str):List Str:=Classical.epsilon fun ss=>ss.Perm l/\PyProof.Rows.sortedS ss=true
noncomputable def blt (p q:F2):Bool:=decide (p.1*q.2<q.1*p.2)
noncomputable def k7 (f l c d t:F2):F2:=aZ (c.1*d.2*((l.1*t.2-t.1*l.2)*f.2)+d.1*c.2*((t.1*f.2-f.1*t.2)*l.2)) (c.2*d.2*((l.1*t.2-t.1*l.2)*f.2+(t.1*f.2-f.1*t.2)*l.2))
noncomputable def cbF (r:Rd)(t:F2):F2:=if r.a=r.b then r.c else k7 r.a r.b r.c r.d t
noncomputable def bfF (r:Rd)(t:F2):F2 × F2:=if blt r.d r.c=true then (r.b,r.d) else if blt r.a t=true then (t,cbF r t) else (r.a,cbF r r.a)
noncomputable def ibF (p q:F2 × F2):Bool:=if p.2=q.2 then blt p.1 q.1 else blt p.2 q.2
noncomputable def soS (t:F2)(o:Option (F2 × F2))(r:Rd):Option (F2 × F2):=if blt r.b t=true then o else match o with
 | none=>some (bfF r t)
 | some b=>if ibF (bfF r t) b=true then some (bfF r t) else some b
noncomputable def soF (L:List Rd)(t:F2):Option (F2 × F2):=L.foldl (soS t) none
noncomputable abbrev f2V (p:F2 × F2):PV:=.tup [fr p.1,fr p.2]
noncomputable def o2V:Option (F2 × F2)->PV
 | none=>.non
 | some p=>f2V p
noncomputable def zO:Option F2->PV
 | none=>.non
 | some p=>fr p
noncomputable abbrev Row:=Str × F2 × Str
noncomputable abbrev sF (x:Row):PV:=.tup [.str x.1,fr x.2.1,.str x.2.2]
noncomputable def cfO (z:Str)(t:F2)(p:Str × Te):Option Row:=if p.2.a=z then (soF p.2.rs t).map fun o=>(p.2.b,o.2,p.1) else none
noncomputable def dA (T:Tb):Tb:=(srt (T.map (·.1))).filterMap fun z=>T.find? fun p=>decide (p.1=z)
noncomputable def cfF (T:Tb)(z:Str)(t:F2):List Row:=(dA T).filterMap (cfO z t)
noncomputable abbrev Pap:=List (Str × F2 × Str)
noncomputable abbrev gP (G:Pap):List (Str × PV):=G.map fun x=>(x.1,.tup [fr x.2.1,.str x.2.2])
noncomputable def at' (G:Pap)(z:Str):Option (F2 × Str):=(G.find? fun p=>decide (p.1=z)).map (·.2)
noncomputable def mo (G:Pap)(z:Str):F2:=((at' G z).map (·.1)).getD (0,1)
noncomputable def bl2 (G:Pap)(z b:Str):Bool:=match at' G z,at' G b with
 | some x,some y=>blt x.1 y.1
 | _,_=>false
noncomputable def foS (G:Pap)(o:Option Str)(z:Str):Option Str:=match o with
 | none=>some z
 | some b=>if bl2 G z b=true then some z else some b
noncomputable def foF (G:Pap):Option Str:=(srt (G.map (·.1))).foldl (foS G) none
noncomputable def foV:Option Str->PV
 | none=>.non
 | some z=>.str z
noncomputable def c_ {α:Type}(F:List (Str × α))(z:Str)(a:α):List (Str × α):=if z∈F.map (·.1) then F.map (fun p=>if p.1=z then (p.1,a) else p) else F++[(z,a)]
noncomputable def ff (G:Pap)(z:Str):Pap:=G.filter fun p=>decide (p.1≠z)
noncomputable def rlx (P G:Pap)(x:Row):Pap:=if x.1∈P.map (·.1) then G else if x.1∈G.map (·.1)/\blt x.2.1 (mo G x.1)=false then G else c_ G x.1 x.2
noncomputable def ir (T:Tb)(s:Pap × Pap):Pap × Pap:=match foF s.2 with
 | none=>s
 | some z=>match at' s.2 z with
  | none=>s
  | some m=>(c_ s.1 z m,(cfF T z m.1).foldl (rlx (c_ s.1 z m)) (ff s.2 z))
noncomputable def itF (T:Tb)(s:Pap × Pap):Nat->Pap × Pap
 | 0=>s
 | n+1=>ir T (itF T s n)
noncomputable def ic (T:Tb)(z:Str)(t:F2):Pap:=(itF T ([],[(z,t,"")]) 4).1
noncomputable def PL:List Str:=["a","b","c","d"]
structure uv (T:Tb)(ws:List Str):Prop where
 nd:(T.map (·.1)).Nodup
 ln:T.length<=5
 rs:∀p∈T,∀r∈p.2.rs,RdS 66 r/\RdK r
 rl:∀p∈T,p.2.rs.length<=100
 wt:∀p∈T,(ws.any fun j=>j == p.2.a)=true
 pl:∀p∈T,p.2.b∈PL
 nm:∀p∈T,PyData.strOk p.1=true
def dn (st:AH)(d:Nat)(T:Tb):Prop:=st[d]?=some (.dk (kd (pv T)))
structure mQ (e:F2)(ws:List Str)(T:Tb):Prop where
 ce:Cop e
 es:Sz 30 e
 wl:ws.length<=4
 ww:∀z∈ws,z∈PL
 nd:(T.map (·.1)).Nodup
 ln:T.length<=5
 nm:∀p∈T,p.1∈(["s","q","r","p","t"]:List Str)
 pl:∀p∈T,p.2.a∈PL/\p.2.b∈PL
 rs:∀p∈T,∀r∈p.2.rs,RdS 30 r/\RdK r
 rl:∀p∈T,p.2.rs.length<=4
noncomputable def again (ws:List Str)(day:F2)(t:Te):Bool:=(ws.any fun j=>j == t.a) && t.rs.all fun r=>blt r.b day
def Fst (ws:List Str)(day:F2)(T:Tb)(z:Str):Prop:=((dA T).find? fun p=>!again ws day p.2).map (·.1)=some z
structure All (ws:List Str)(day:F2)(T:Tb):Prop where
 pm:(srt (T.map (·.1))).Perm (T.map (·.1))
 ag:∀p∈T,again ws day p.2=true
noncomputable def mvT (day:F2)(n:Nat)(p:Str × Te):Str × Te:=(p.1,⟨p.2.a,p.2.b,dY p.2.rs day n⟩)
inductive zS (st:AH)(ws:List Str)(day:F2)(T:Tb)(n:Nat):PV->AH->Prop
 | ex {z:Str}{s:AH}:Pre st s->Fst ws day T z->zS st ws day T n (exV 0 (.tup [.str z])) s
 | ok {k:Nat}{s:AH}:All ws day T->Pre st s->st.length<=k->dn s k ((dA T).map (mvT day n))->zS st ws day T n (okR (bh (bM (n,1) day) ws k)) s
inductive pQ (st:AH)(ws:List Str)(day:F2)(T:Tb):PV->AH->Prop
 | ex {z:Str}{s:AH}:Pre st s->Fst ws day T z->pQ st ws day T (.str z) s
 | ok {s:AH}:All ws day T->Pre st s->pQ st ws day T (.str "") s
inductive xf (st:AH)(ws:List Str)(day:F2)(T:Tb)(n:Nat):PV->AH->Prop
 | ex {z:Str}{k:Nat}{s:AH}:Pre st s->st.length<=k->s[k]?=some (.lst [.bl true,.bl false,.bl false,.bl false,.bl false,.bl true])->Fst ws day T z->xf st ws day T n (.tup [.ref k,.str z]) s
 | ok {k:Nat}{s:AH}:All ws day T->Pre st s->st.length<=k->dn s k ((dA T).map (mvT day n))->xf st ws day T n (bh (bM (n,1) day) ws k) s
abbrev Mo (s:FSp):Prop:=∀ {as:List PV}{st:AH}{Q Q':EK},(∀v st,Q v st->Q' v st)->s as st Q->s as st Q'
abbrev Ln (s:FSp)(n:Nat):Prop:=∀ {as:List PV}{st:AH}{Q:EK},s as st Q->as.length=n
local macro_rules | `(tactic| walk_at "MO")=>`(tactic| (intro as st Q Q' h q;repeat (first|exact h _ _ q|(obtain ⟨a,q⟩:=q;first|refine Exists.intro a ?_|refine And.intro a ?_)|(intro a;replace q:=q a))))
local macro_rules | `(tactic| walk_at "LN")=>`(tactic| (intro as st Q q;repeat (obtain ⟨a,q⟩:=q;try exact congrArg List.length a)))
def cZ:FSp:=fun as st Q=>∃p q,as=[fr p,fr q]/\Sz 3000 p/\Sz 3000 q/\Q (fr (ax p q)) st
theorem nZ:Mo cZ:=by walk_at "MO"
theorem sx:Ln cZ 2:=by walk_at "LN"
def fJ:FSp:=fun as st Q=>∃p q,as=[fr p,fr q]/\Sz 3000 p/\Sz 3000 q/\Q (fr (bM p q)) st
theorem uK:Mo fJ:=by walk_at "MO"
theorem xG:Ln fJ 2:=by walk_at "LN"
def aV:FSp:=fun as st Q=>∃p q,as=[fr p,fr q]/\Sz 3000 p/\Sz 3000 q/\Q (.bl (blt p q)) st
theorem iB:Mo aV:=by walk_at "MO"
theorem jx:Ln aV 2:=by walk_at "LN"
noncomputable abbrev c7:=aV
theorem k8 {as st Q Q'}(h:∀v st,Q v st->Q' v st)(q:aV as st Q):aV as st Q':=iB h q
theorem mx {as st Q}(q:aV as st Q):as.length=2:=jx q
noncomputable abbrev cI:=cZ
theorem mW {as st Q Q'}(h:∀v st,Q v st->Q' v st)(q:cZ as st Q):cZ as st Q':=nZ h q
theorem nR {as st Q}(q:cZ as st Q):as.length=2:=sx q
def fq:FSp:=fun as st Q=>∃r y,as=[rdV r,fr y]/\RdS 100 r/\Sz 100 y/\Q (rdV (shR y r)) st
theorem uQ:Mo fq:=by walk_at "MO"
theorem yf:Ln fq 2:=by walk_at "LN"
def a6:FSp:=fun as st Q=>∃(L:List Rd) (day:F2) (n:Nat),as=[.tup (L.map rdV),fr day,.int n]/\(∀r∈L,RdS 30 r)/\Sz 30 day/\n<=10/\L.length<=10/\∀s,Pre st s->Q (.tup ((dY L day n).map rdV)) s
theorem iK:Mo a6:=by walk_at "MO"
theorem jf:Ln a6 3:=by walk_at "LN"
def bq:FSp:=fun as st Q=>∃t ws day,as=[teV t,.tup (sV ws),fr day]/\(∀r∈t.rs,RdS 30 r)/\Sz 30 day/\t.rs.length<=10/\Q (.bl (again ws day t)) st
theorem ki:Mo bq:=by walk_at "MO"
theorem kT:Ln bq 3:=by walk_at "LN"
def c8:FSp:=fun as st Q=>∃(e:F2) (ws:List Str) (d:Nat) (T:Tb) (day:F2) (n:Nat),as=[bh e ws d,fr day,.int n]/\dn st d T/\mQ e ws T/\Sz 30 day/\n<=5/\∀v s,zS st ws day T n v s->Q v s
theorem j0:Mo c8:=by walk_at "MO"
theorem BL:Ln c8 3:=by walk_at "LN"
def bS:FSp:=fun as st Q=>∃p q,as=[fr p,fr q]/\Sz 2500 p/\Sz 2500 q/\¬bb p q/\Q (.int (p.1*q.2-q.1*p.2:Nat)) st
theorem mw:Mo bS:=by walk_at "MO"
theorem nD:Ln bS 2:=by walk_at "LN"
def br:FSp:=fun as st Q=>∃m f l c d t,as=[.tup [fr f,fr c],.tup [fr l,fr d],fr t]/\Sz 66 f/\Sz 66 l/\Sz 66 c/\Sz 66 d/\Sz m t/\m<=2000/\¬bb t f/\¬bb l t/\bb f l/\Q (fr (k7 f l c d t)) st
theorem jM:Mo br:=by walk_at "MO"
theorem lh:Ln br 3:=by walk_at "LN"
def cR:FSp:=fun as st Q=>∃m r t,as=[rdV r,fr t]/\RdS 66 r/\RdK r/\Sz m t/\m<=2000/\¬bb t r.a/\¬bb r.b t/\Q (fr (cbF r t)) st
theorem pW:Mo cR:=by walk_at "MO"
theorem sC:Ln cR 2:=by walk_at "LN"
def fA:FSp:=fun as st Q=>∃r,as=[rdV r]/\RdS 66 r/\Q (.bl (blt r.d r.c)) st
theorem uo:Mo fA:=by walk_at "MO"
theorem ya:Ln fA 1:=by walk_at "LN"
def bY:FSp:=fun as st Q=>∃m r t,as=[rdV r,fr t]/\RdS 66 r/\RdK r/\Sz m t/\66<=m/\m<=2000/\¬bb r.b t/\Q (f2V (bfF r t)) st
theorem lK:Mo bY:=by walk_at "MO"
theorem nV:Ln bY 2:=by walk_at "LN"
def bT:FSp:=fun as st Q=>∃p q,as=[f2V p,f2V q]/\(Sz 2900 p.1/\Sz 2900 p.2/\Sz 2900 q.1/\Sz 2900 q.2)/\Q (.bl (ibF p q)) st
theorem l9:Mo bT:=by walk_at "MO"
theorem m_:Ln bT 2:=by walk_at "LN"
def cS:FSp:=fun as st Q=>∃m L t,as=[.tup (L.map rdV),.bl true,fr t]/\(∀r∈L,RdS 66 r/\RdK r)/\Cop t/\Sz m t/\66<=m/\m<=2000/\Q (o2V (soF L t)) st
theorem rA:Mo cS:=by walk_at "MO"
theorem sQ:Ln cS 3:=by walk_at "LN"
def aX:FSp:=fun as st Q=>∃m e ws d T p t,as=[bh e ws d,.str p.1,fr t]/\dn st d T/\uv T ws/\p∈T/\Cop t/\Sz m t/\66<=m/\m<=2000/\Q (o2V (soF p.2.rs t)) st
theorem h_:Mo aX:=by walk_at "MO"
theorem iO:Ln aX 3:=by walk_at "LN"
def ba:FSp:=fun as st Q=>∃m e ws d T z t,as=[bh e ws d,.str z,fr t]/\dn st d T/\uv T ws/\Cop t/\Sz m t/\66<=m/\m<=2000/\∀n s,Pre st s->st.length<=n->s[n]?=some (.lst ((cfF T z t).map sF))->Q (.ref n) s
theorem jy:Mo ba:=by walk_at "MO"
theorem j4:Ln ba 3:=by walk_at "LN"
def bO:FSp:=fun as st Q=>∃n G,as=[.ref n,.gf "is_below"]/\st[n]?=some (.dk (kd (gP G)))/\(G.map (·.1)).Nodup/\(∀x∈G,Sz 2900 x.2.1)/\G.length<=10/\∀s,Pre st s->(srt (G.map (·.1))).Perm (G.map (·.1))->Q (foV (foF G)) s
theorem nG:Mo bO:=by walk_at "MO"
theorem qW:Ln bO 2:=by walk_at "LN"
def eQ:FSp:=fun as st Q=>∃(a:Nat) (us:List V) (e:F2) (ws:List Str) (d:Nat) (T:Tb) (z:Str) (t:F2),as=[.str z,fr t,.clo a us [bh e ws d],.gf "is_below"]/\dn st d T/\uv T ws/\z∈PL/\Cop t/\Sz 66 t/\∀n s,Pre st s->st.length<=n->s[n]?=some (.dk (kd (gP (ic T z t))))->(∀x∈ic T z t,Mok 1200 x.2.1)->Q (.ref n) s
theorem mZ:Mo eQ:=by walk_at "MO"
def df:FSp:=fun as st Q=>∃e ws d T z t,as=[bh e ws d,.str z,fr t]/\dn st d T/\uv T ws/\z∈PL/\Cop t/\Sz 66 t/\∀n s,Pre st s->st.length<=n->s[n]?=some (.dk (kd (gP (ic T z t))))->(∀x∈ic T z t,Mok 1200 x.2.1)->Q (.ref n) s
theorem nI:Mo df:=by walk_at "MO"
theorem qG:Ln df 3:=by walk_at "LN"
def cj:FSp:=fun as st Q=>∃e ws d T z y t,as=[bh e ws d,.str z,.str y,fr t]/\dn st d T/\uv T ws/\z∈PL/\Cop t/\Sz 66 t/\∀s,Pre st s->(∀m,(at' (ic T z t) y).map (·.1)=some m->Mok 1200 m)->Q (zO ((at' (ic T z t) y).map (·.1))) s
theorem qK:Mo cj:=by walk_at "MO"
theorem sA:Ln cj 4:=by walk_at "LN"
def cy:FSp:=fun as st Q=>∃(ns:List Int) (k:Nat),as=[.rdl (ns.map .int),.int k]/\ns.length<=63/\k<64/\∀q r,PK q r->Q (.ref st.length) (st++[pc q r])
theorem ni:Mo cy:=by walk_at "MO"
theorem qw:Ln cy 2:=by walk_at "LN"
def bA:FSp:=fun as st Q=>∃(p:Nat) (many:Int),as=[.ref p,.int many]/\Pot st p/\0<many/\many<2 ^ 200/\∀x st',0<=x->x<many->Gr st p st'->Q (.int x) st'
theorem lU:Mo bA:=by walk_at "MO"
theorem nS:Ln bA 2:=by walk_at "LN"
def bu:FSp:=fun as st Q=>∃n d:Nat,as=[.int n,.int d]/\0<d/\d<2 ^ 8000/\Q (fr (aZ n d)) st
theorem nr:Mo bu:=by walk_at "MO"
theorem qH:Ln bu 2:=by walk_at "LN"
def bI:FSp:=fun as st Q=>∃(p:Nat) (k:Nat),as=[.ref p,.int k]/\Pot st p/\0<k/\k<=4/\∀(L:List Rd) s,Gr st p s->(∀r∈L,RdS 30 r/\RdK r)->L.length<=4->Q (.tup (L.map rdV)) s
theorem kY:Mo bI:=by walk_at "MO"
theorem l7:Ln bI 2:=by walk_at "LN"
def cB:FSp:=fun as st Q=>∃(p:Nat) (k:Nat),as=[.ref p,.int k]/\Pot st p/\0<k/\k<=4/\∀e ws d T s,Gr st p s->st.length<=d->dn s d T->mQ e ws T->Q (bh e ws d) s
theorem nB:Mo cB:=by walk_at "MO"
theorem rq:Ln cB 2:=by walk_at "LN"
def cu:FSp:=fun as st Q=>∃(p:Nat) (e:F2) (ws:List Str) (d:Nat) (T:Tb),as=[.ref p,bh e ws d]/\Pot st p/\d≠p/\dn st d T/\mQ e ws T/\∀y s,Gr st p s->Cop y->Sz 30 y->Q (fr y) s
theorem nU:Mo cu:=by walk_at "MO"
theorem qg:Ln cu 2:=by walk_at "LN"
def aQ:FSp:=fun as st Q=>∃e ws d T day,as=[bh e ws d,fr day]/\dn st d T/\mQ e ws T/\Sz 30 day/\∀v s,pQ st ws day T v s->Q v s
theorem gr:Mo aQ:=by walk_at "MO"
theorem gC:Ln aQ 2:=by walk_at "LN"
def bH:FSp:=fun as st Q=>∃(e:F2) (ws:List Str) (d:Nat) (T:Tb) (day:F2) (n:Nat),as=[bh e ws d,fr day,.int n]/\dn st d T/\mQ e ws T/\Sz 30 day/\n<=5/\∀k s,Pre st s->st.length<=k->dn s k (T.map (mvT day n))->Q (bh (bM (n,1) day) ws k) s
theorem k9:Mo bH:=by walk_at "MO"
theorem lX:Ln bH 3:=by walk_at "LN"
def bU:FSp:=fun as st Q=>∃(e:F2) (ws:List Str) (d:Nat) (T:Tb) (day:F2) (n:Nat),as=[bh e ws d,fr day,.int n]/\dn st d T/\mQ e ws T/\Sz 30 day/\n<=5/\∀v s,xf st ws day T n v s->Q v s
theorem mH:Mo bU:=by walk_at "MO"
theorem mX:Ln bU 3:=by walk_at "LN"
def bG:FSp:=fun as st Q=>∃(e:F2) (ws:List Str) (d:Nat) (d':Nat) (T:Tb) (day:F2) (n:Nat) (t:F2),as=[bh (bM (n,1) day) ws d,bh (bM (n+1,1) day) ws d',fr day,fr t]/\dn st d ((dA T).map (mvT day n))/\dn st d' ((dA T).map (mvT day (n+1)))/\mQ e ws T/\All ws day T/\Cop day/\Sz 30 day/\n<=4/\Cop t/\Sz 35 t/\∀s,Pre st s->Q (.bl true) s
theorem kU:Mo bG:=by walk_at "MO"
theorem md:Ln bG 4:=by walk_at "LN"
noncomputable abbrev gw:PV:=(.gf "is_below")
noncomputable abbrev gI:PV:=(.str "")
noncomputable def Γ:Nat->FSp
 | 0=>aN
 | 1=>bR
 | 2=>cZ
 | 3=>fJ
 | 4=>aV
 | 5=>fq
 | 6=>a6
 | 7=>bq
 | 8=>okO c8
 | 9=>bS
 | 10=>br
 | 11=>cR
 | 12=>fA
 | 13=>bY
 | 14=>bT
 | 15=>cS
 | 16=>bO
 | 17=>aX
 | 18=>ba
 | 19=>cy
 | 20=>fun _ _ _=>False
 | 21=>df
 | 22=>cj
 | 23=>bA
 | 24=>bu
 | 25=>c7
 | 26=>cI
 | 27=>bI
 | 28=>cB
 | 29=>cu
 | 30=>aQ
 | 31=>bH
 | 32=>bU
 | 33=>bG
 | 34=>iC
 | 35=>eQ
 | _=>fun _ _ _=>False
theorem Kd:Γ 35=eQ:=id rfl
theorem Γ_0:Γ 0=aN:=id rfl
theorem Γ_1:Γ 1=bR:=id rfl
theorem Γ_2:Γ 2=cZ:=id rfl
theorem Γ_3:Γ 3=fJ:=id rfl
theorem Γ_4:Γ 4=aV:=id rfl
theorem Γ_5:Γ 5=fq:=id rfl
theorem Γ_6:Γ 6=a6:=id rfl
theorem Γ_7:Γ 7=bq:=id rfl
theorem Γ_8:Γ 8=okO c8:=id rfl
theorem Γ_9:Γ 9=bS:=id rfl
theorem J0:Γ 10=br:=id rfl
theorem KS:Γ 11=cR:=id rfl
theorem Kw:Γ 12=fA:=id rfl
theorem Ko:Γ 13=bY:=id rfl
theorem Jr:Γ 14=bT:=id rfl
theorem K':Γ 15=cS:=id rfl
theorem J9:Γ 16=bO:=id rfl
theorem KW:Γ 17=aX:=id rfl
theorem Ij:Γ 18=ba:=id rfl
theorem Kj:Γ 19=cy:=id rfl
theorem K_:Γ 21=df:=id rfl
theorem JY:Γ 22=cj:=id rfl
theorem Jt:Γ 23=bA:=id rfl
theorem Kq:Γ 24=bu:=id rfl
theorem Jh:Γ 25=c7:=id rfl
theorem J_:Γ 26=cI:=id rfl
theorem JV:Γ 27=bI:=id rfl
theorem Kb:Γ 28=cB:=id rfl
theorem Kx:Γ 29=cu:=id rfl
theorem JU:Γ 30=aQ:=id rfl
theorem JB:Γ 31=bH:=id rfl
theorem K7:Γ 32=bU:=id rfl
theorem Jk:Γ 33=bG:=id rfl
theorem Ku:Γ 34=iC:=id rfl
theorem Γm:aJ Γ:=by
 intro f vs st Q Q' h q
 match f,q with
 | 0,q=>exact ig (st:=st) h q
 | 1,q=>exact nM (st:=st) h q
 | 2,q=>exact nZ (st:=st) h q
 | 3,q=>exact uK (st:=st) h q
 | 4,q=>exact iB (st:=st) h q
 | 5,q=>exact uQ (st:=st) h q
 | 6,q=>exact iK (st:=st) h q
 | 7,q=>exact ki (st:=st) h q
 | 8,q=>exact zX (sp:=c8) j0 h q
 | 9,q=>exact mw (st:=st) h q
 | 10,q=>exact jM (st:=st) h q
 | 11,q=>exact pW (st:=st) h q
 | 12,q=>exact uo (st:=st) h q
 | 13,q=>exact lK (st:=st) h q
 | 14,q=>exact l9 (st:=st) h q
 | 15,q=>exact rA (st:=st) h q
 | 16,q=>exact nG (st:=st) h q
 | 17,q=>exact h_ (st:=st) h q
 | 18,q=>exact jy (st:=st) h q
 | 19,q=>exact ni (st:=st) h q
 | 20,q=>exact(show False from q).elim
 | 21,q=>exact nI (st:=st) h q
 | 22,q=>exact qK (st:=st) h q
 | 23,q=>exact lU (st:=st) h q
 | 24,q=>exact nr (st:=st) h q
 | 25,q=>exact k8 (st:=st) h q
 | 26,q=>exact mW (st:=st) h q
 | 27,q=>exact kY (st:=st) h q
 | 28,q=>exact nB (st:=st) h q
 | 29,q=>exact nU (st:=st) h q
 | 30,q=>exact gr (st:=st) h q
 | 31,q=>exact k9 (st:=st) h q
 | 32,q=>exact mH (st:=st) h q
 | 33,q=>exact kU (st:=st) h q
 | 34,q=>exact zY (st:=st) h q
 | 35,q=>exact mZ (st:=st) h q
 | _+36,q=>exact q.elim
noncomputable def ΓR:Nat->FSp
 | 8=>c8
 | _=>fun _ _ _=>False
theorem Js:ΓR 8=c8:=id rfl
theorem ΓRm:aJ ΓR:=by
 intro f vs st Q Q' h q;unfold ΓR at q |-
 split at q
 ·exact j0 (st:=st) h q
 ·exact q.elim
noncomputable def FX:Xf:={ xs:=["NoDay"],rz:=[8],iv:=[(0,1)] }
noncomputable def anL (k:Nat):List Str:=([["name"]]:List (List Str)).getD k []
noncomputable def ysL:List Str:=["HourError","NoDay","NoTie","NotRight","NoText","Overtaken"]
noncomputable def Km (k i:Nat):Bool:=([true,true,false,false,false,false]:List Bool).getD (6*k+i) false
noncomputable def HW:List Str:=((["common_divisor","fraction","plus","times","is_below","later","rides_of_days","comes_again","days","crosswise","on_straight","come_by","falls","best_from","is_better","set_out","first_of","out_and_coming","comings_from","_law_pot","paper_by","paper_of","soonest","_law_take","_law_low","_law_under","_law_more","_law_rides","_law_net","_law_day"]:List Str)++(["_law_first_wrong","_law_moved","_law_told","_law_later","law"]:List Str))
noncomputable def zq:List Str:=["tuple","range","all","sorted","max","len","divmod","isinstance","ValueError","repr"]
noncomputable def glL:List (Str × PV):=[("NO_TIE",gI),("is_below",gw)]
noncomputable def mkc (N:List Str)(s:Stmt)(k:Nat):Cfg:={ N:=N,names:=(ae s).names,fns:=HW,lim:=k,blts:=zq,gl:=glL }
local macro_rules | `(tactic| walk_at "SC")=>`(tactic| exact ⟨rfl,rfl,rfl,by decide +kernel,rfl,by decide +kernel,by decide +kernel⟩)
noncomputable abbrev bV:Stmt:=top 8
theorem jD:ak ["n","d"] ["n","d"] (ae bV):=by walk_at "SC"
noncomputable def fu:Cfg:=mkc ["n","d"] bV 0
noncomputable def b8:Ss:=(.cons (.whileS (.cmp .NotEq (.var 1) (.int 0)) (.cons (.par 0 1 (.var 1) (.bin .Mod (.var 0) (.var 1))) .nil)) (.cons (.ret (.var 0)) .nil))
theorem kg:aD fu  b8 (ah bV)=true:=by decide +kernel
noncomputable abbrev fS:Stmt:=top 9
theorem r9:ak ["n","d","divisor"] ["n","d"] (ae fS):=by walk_at "SC"
noncomputable def lP:Cfg:=mkc ["n","d","divisor"] fS 1
noncomputable def fc:Ss:=(.cons (.set (.name 2) (.call 0 (.cons (.var 0) (.cons (.var 1) .nil)))) (.cons (.ret (.tup (.cons (.bin .FloorDiv (.var 0) (.var 2)) (.cons (.bin .FloorDiv (.var 1) (.var 2)) .nil)))) .nil))
theorem vt:aD lP  fc (ah fS)=true:=by decide +kernel
noncomputable abbrev qz:Stmt:=top 10
theorem DA:ak ["one","other"] ["one","other"] (ae qz):=by walk_at "SC"
noncomputable def Bw:Cfg:=mkc ["one","other"] qz 2
noncomputable def j':Ss:=(.cons (.ret (.call 1 (.cons (.bin .Add (.bin .Mult (.ix (.var 0) (.int 0)) (.ix (.var 1) (.int 1))) (.bin .Mult (.ix (.var 1) (.int 0)) (.ix (.var 0) (.int 1)))) (.cons (.bin .Mult (.ix (.var 0) (.int 1)) (.ix (.var 1) (.int 1))) .nil)))) .nil)
theorem GP:aD Bw  j' (ah qz)=true:=by decide +kernel
noncomputable abbrev ly:Stmt:=top 11
theorem Bx:ak ["one","other"] ["one","other"] (ae ly):=by walk_at "SC"
noncomputable def w5:Cfg:=mkc ["one","other"] ly 3
noncomputable def iL:Ss:=(.cons (.ret (.call 1 (.cons (.bin .Mult (.ix (.var 0) (.int 0)) (.ix (.var 1) (.int 0))) (.cons (.bin .Mult (.ix (.var 0) (.int 1)) (.ix (.var 1) (.int 1))) .nil)))) .nil)
theorem CY:aD w5  iL (ah ly)=true:=by decide +kernel
noncomputable abbrev fM:Stmt:=top 12
theorem tj:ak ["one","other"] ["one","other"] (ae fM):=by walk_at "SC"
noncomputable def mI:Cfg:=mkc ["one","other"] fM 4
noncomputable def eZ:Ss:=(.cons (.ret (.cmp .Lt (.bin .Mult (.ix (.var 0) (.int 0)) (.ix (.var 1) (.int 1))) (.bin .Mult (.ix (.var 1) (.int 0)) (.ix (.var 0) (.int 1))))) .nil)
theorem uP:aD mI  eZ (ah fM)=true:=by decide +kernel
noncomputable abbrev lC:Stmt:=top 14
theorem zo:ak ["ride","by"] ["ride","by"] (ae lC):=by walk_at "SC"
noncomputable def wd:Cfg:=mkc ["ride","by"] lC 5
noncomputable def iE:Ss:=(.cons (.ret (.tmp (.blt .tuple1 (.cons (.comp (.call 2 (.cons (.var 0) (.cons (.var 1) .nil))) (.name 0) (.seq (.var 0)) .nil ["moment"] [1]) .nil)))) .nil)
theorem Dq:aD wd  iE (ah lC)=true:=by decide +kernel
noncomputable abbrev cb:Stmt:=top 15
theorem jK:ak ["rides","day","many","told","number"] ["rides","day","many"] (ae cb):=by walk_at "SC"
noncomputable def gj:Cfg:=mkc ["rides","day","many","told","number"] cb 6
noncomputable def cg:Ss:=(.cons (.set (.name 3) (.lst .nil)) (.cons (.forS (.name 4) (.range1 (.var 2)) (.cons (.aug 3 .Add (.comp (.call 5 (.cons (.var 0) (.cons (.call 3 (.cons (.tup (.cons (.var 2) (.cons (.int 1) .nil))) (.cons (.var 1) .nil))) .nil))) (.name 0) (.seq (.var 0)) .nil ["ride"] [1,4])) .nil)) (.cons (.ret (.blt .tuple1 (.cons (.var 3) .nil))) .nil)))
theorem k_:aD gj  cg (ah cb)=true:=by decide +kernel
noncomputable abbrev c9:Stmt:=top 16
theorem my:ak ["tie","waits","day","a","b","rides"] ["tie","waits","day"] (ae c9):=by walk_at "SC"
noncomputable def ik:Cfg:=mkc ["tie","waits","day","a","b","rides"] c9 7
noncomputable def cW:Ss:=(.cons (.set (.tup (.cons (.name 3) (.cons (.name 4) (.cons (.name 5) .nil)))) (.var 0)) (.cons (.ret (.bop true (.cons (.cmp .In (.var 3) (.var 1)) (.cons (.tmp (.blt .all1 (.cons (.comp (.call 4 (.cons (.ix (.var 0) (.int 1)) (.cons (.var 1) .nil))) (.name 0) (.seq (.var 5)) .nil ["ride"] [2]) .nil))) .nil)))) .nil))
theorem nz:aD ik  cW (ah c9)=true:=by decide +kernel
noncomputable abbrev qR:Stmt:=top 17
theorem Dp:ak ["net","day","many","end","waits","ties","told","name","a","b","rides"] ["net","day","many"] (ae qR):=by walk_at "SC"
noncomputable def Bj:Cfg:=mkc ["net","day","many","end","waits","ties","told","name","a","b","rides"] qR 8
noncomputable def jU:XSs:=(.cons (.st (.set (.tup (.cons (.name 3) (.cons (.name 4) (.cons (.name 5) .nil)))) (.var 0))) (.cons (.st (.set (.name 6) .dct0)) (.cons (.forX (.name 7) (.seq (.blt .sortD (.cons (.var 5) .nil))) (.cons (.ifX (.not (.call 7 (.cons (.ix (.var 5) (.var 7)) (.cons (.var 4) (.cons (.var 1) .nil))))) (.cons (.raiV 0 1 (.cons (.var 7) .nil)) .nil) .nil) (.cons (.st (.set (.tup (.cons (.name 8) (.cons (.name 9) (.cons (.name 10) .nil)))) (.ix (.var 5) (.var 7)))) (.cons (.st (.set (.sub (.var 6) (.var 7)) (.tup (.cons (.var 8) (.cons (.var 9) (.cons (.call 6 (.cons (.var 10) (.cons (.var 1) (.cons (.var 2) .nil)))) .nil)))))) .nil)))) (.cons (.st (.ret (.tup (.cons (.call 3 (.cons (.tup (.cons (.var 2) (.cons (.int 1) .nil))) (.cons (.var 1) .nil))) (.cons (.var 4) (.cons (.var 6) .nil)))))) .nil))))
theorem HJ:iz Bj FX jU (ah qR)=true:=by decide +kernel
noncomputable abbrev eG:Stmt:=top 19
theorem rn:ak ["one","other"] ["one","other"] (ae eG):=by walk_at "SC"
noncomputable def kz:Cfg:=mkc ["one","other"] eG 9
noncomputable def dR:Ss:=(.cons (.ret (.bin .Sub (.bin .Mult (.ix (.var 0) (.int 0)) (.ix (.var 1) (.int 1))) (.bin .Mult (.ix (.var 1) (.int 0)) (.ix (.var 0) (.int 1))))) .nil)
theorem rP:aD kz  dR (ah eG)=true:=by decide +kernel
noncomputable abbrev cY:Stmt:=top 20
theorem mM:ak ["near","far","x","near_x","near_y","far_x","far_y","done","left","above"] ["near","far","x"] (ae cY):=by walk_at "SC"
noncomputable def iD:Cfg:=mkc ["near","far","x","near_x","near_y","far_x","far_y","done","left","above"] cY 10
noncomputable def cV:Ss:=(.cons (.set (.tup (.cons (.tup (.cons (.name 3) (.cons (.name 4) .nil))) (.cons (.tup (.cons (.name 5) (.cons (.name 6) .nil))) .nil))) (.tup (.cons (.var 0) (.cons (.var 1) .nil)))) (.cons (.set (.name 7) (.bin .Mult (.call 9 (.cons (.var 2) (.cons (.var 3) .nil))) (.ix (.var 5) (.int 1)))) (.cons (.set (.name 8) (.bin .Mult (.call 9 (.cons (.var 5) (.cons (.var 2) .nil))) (.ix (.var 3) (.int 1)))) (.cons (.set (.name 9) (.bin .Add (.bin .Mult (.bin .Mult (.ix (.var 4) (.int 0)) (.ix (.var 6) (.int 1))) (.var 8)) (.bin .Mult (.bin .Mult (.ix (.var 6) (.int 0)) (.ix (.var 4) (.int 1))) (.var 7)))) (.cons (.ret (.call 1 (.cons (.var 9) (.cons (.bin .Mult (.bin .Mult (.ix (.var 4) (.int 1)) (.ix (.var 6) (.int 1))) (.bin .Add (.var 8) (.var 7))) .nil)))) .nil)))))
theorem nH:aD iD  cV (ah cY)=true:=by decide +kernel
noncomputable abbrev gZ:Stmt:=top 23
theorem uT:ak ["ride","t","first","last","come","comes"] ["ride","t"] (ae gZ):=by walk_at "SC"
noncomputable def oD:Cfg:=mkc ["ride","t","first","last","come","comes"] gZ 11
noncomputable def fU:Ss:=(.cons (.set (.tup (.cons (.name 2) (.cons (.name 3) (.cons (.name 4) (.cons (.name 5) .nil))))) (.var 0)) (.cons (.ifS (.cmp .Eq (.var 2) (.var 3)) (.cons (.ret (.var 4)) .nil) .nil) (.cons (.ret (.call 10 (.cons (.tup (.cons (.var 2) (.cons (.var 4) .nil))) (.cons (.tup (.cons (.var 3) (.cons (.var 5) .nil))) (.cons (.var 1) .nil))))) .nil)))
theorem yX:aD oD  fU (ah gZ)=true:=by decide +kernel
noncomputable abbrev lz:Stmt:=top 25
theorem zC:ak ["ride"] ["ride"] (ae lz):=by walk_at "SC"
noncomputable def xr:Cfg:=mkc ["ride"] lz 12
noncomputable def iH:Ss:=(.cons (.ret (.call 4 (.cons (.ix (.var 0) (.int 3)) (.cons (.ix (.var 0) (.int 2)) .nil)))) .nil)
theorem Dc:aD xr  iH (ah lz)=true:=by decide +kernel
noncomputable abbrev eK:Stmt:=top 26
theorem qq:ak ["ride","t","out"] ["ride","t"] (ae eK):=by walk_at "SC"
noncomputable def kN:Cfg:=mkc ["ride","t","out"] eK 13
noncomputable def eA:Ss:=(.cons (.ifS (.call 12 (.cons (.var 0) .nil)) (.cons (.ret (.tup (.cons (.ix (.var 0) (.int 1)) (.cons (.ix (.var 0) (.int 3)) .nil)))) .nil) .nil) (.cons (.set (.name 2) (.ite (.call 4 (.cons (.ix (.var 0) (.int 0)) (.cons (.var 1) .nil))) (.var 1) (.ix (.var 0) (.int 0)))) (.cons (.ret (.tup (.cons (.var 2) (.cons (.call 11 (.cons (.var 0) (.cons (.var 2) .nil))) .nil)))) .nil)))
theorem rZ:aD kN  eA (ah eK)=true:=by decide +kernel
noncomputable abbrev eR:Stmt:=top 27
theorem pZ:ak ["pair","best"] ["pair","best"] (ae eR):=by walk_at "SC"
noncomputable def kG:Cfg:=mkc ["pair","best"] eR 14
noncomputable def eo:Ss:=(.cons (.ifS (.cmp .Eq (.ix (.var 0) (.int 1)) (.ix (.var 1) (.int 1))) (.cons (.ret (.call 4 (.cons (.ix (.var 0) (.int 0)) (.cons (.ix (.var 1) (.int 0)) .nil)))) .nil) .nil) (.cons (.ret (.call 4 (.cons (.ix (.var 0) (.int 1)) (.cons (.ix (.var 1) (.int 1)) .nil)))) .nil))
theorem rT:aD kG  eo (ah eR)=true:=by decide +kernel
noncomputable abbrev gO:Stmt:=top 28
theorem uX:ak ["rides","wait","t","come","best","ride","pair"] ["rides","wait","t"] (ae gO):=by walk_at "SC"
noncomputable def pe:Cfg:=mkc ["rides","wait","t","come","best","ride","pair"] gO 15
noncomputable def fV:Ss:=(.cons (.ifS (.not (.var 1)) (.cons .bad (.cons (.ret (.ite (.cmp .Is (.var 3) .non) .non (.tup (.cons (.var 2) (.cons (.var 3) .nil))))) .nil)) .nil) (.cons (.set (.name 4) .non) (.cons (.forS (.name 5) (.seq (.var 0)) (.cons (.ifS (.not (.call 4 (.cons (.ix (.var 5) (.int 1)) (.cons (.var 2) .nil)))) (.cons (.set (.name 6) (.call 13 (.cons (.var 5) (.cons (.var 2) .nil)))) (.cons (.ifS (.bop false (.cons (.cmp .Is (.var 4) .non) (.cons (.call 14 (.cons (.var 6) (.cons (.var 4) .nil))) .nil))) (.cons (.set (.name 4) (.var 6)) .nil) .nil) .nil)) .nil) .nil)) (.cons (.ret (.var 4)) .nil))))
theorem yH:aD pe  fV (ah gO)=true:=by decide +kernel
noncomputable abbrev fZ:Stmt:=top 31
theorem tP:ak ["found","is_ahead","best","place"] ["found","is_ahead"] (ae fZ):=by walk_at "SC"
noncomputable def lO:Cfg:=mkc ["found","is_ahead","best","place"] fZ 16
noncomputable def eY:Ss:=(.cons (.set (.name 2) .non) (.cons (.forS (.name 3) (.seq (.blt .sortD (.cons (.var 0) .nil))) (.cons (.ifS (.bop false (.cons (.cmp .Is (.var 2) .non) (.cons (.pcg 1 4 "is_below" (.cons (.ix (.ix (.var 0) (.var 3)) (.int 0)) (.cons (.ix (.ix (.var 0) (.var 2)) (.int 0)) .nil))) .nil))) (.cons (.set (.name 2) (.var 3)) .nil) .nil) .nil)) (.cons (.ret (.var 2)) .nil)))
theorem uY:aD lO  eY (ah fZ)=true:=by decide +kernel
noncomputable abbrev bX:Stmt:=top 34
theorem jr:ak ["net","name","moment","end","waits","ties","a","b","rides"] ["net","name","moment"] (ae bX):=by walk_at "SC"
noncomputable def ft:Cfg:=mkc ["net","name","moment","end","waits","ties","a","b","rides"] bX 17
noncomputable def b7:Ss:=(.cons (.set (.tup (.cons (.name 3) (.cons (.name 4) (.cons (.name 5) .nil)))) (.var 0)) (.cons (.set (.tup (.cons (.name 6) (.cons (.name 7) (.cons (.name 8) .nil)))) (.ix (.var 5) (.var 1))) (.cons (.ret (.call 15 (.cons (.var 8) (.cons (.cmp .In (.var 6) (.var 4)) (.cons (.var 2) .nil))))) .nil)))
theorem j9:aD ft  b7 (ah bX)=true:=by decide +kernel
noncomputable abbrev cK:Stmt:=top 35
theorem lj:ak ["net","place","moment","end","waits","ties","told","name","pair"] ["net","place","moment"] (ae cK):=by walk_at "SC"
noncomputable def gz:Cfg:=mkc ["net","place","moment","end","waits","ties","told","name","pair"] cK 18
noncomputable def cM:Ss:=(.cons (.set (.tup (.cons (.name 3) (.cons (.name 4) (.cons (.name 5) .nil)))) (.var 0)) (.cons (.set (.name 6) (.lst .nil)) (.cons (.forS (.name 7) (.seq (.blt .sortD (.cons (.var 5) .nil))) (.cons (.ifS (.cmp .Eq (.ix (.ix (.var 5) (.var 7)) (.int 0)) (.var 1)) (.cons (.set (.name 8) (.call 17 (.cons (.var 0) (.cons (.var 7) (.cons (.var 2) .nil))))) (.cons (.ifS (.cmp .IsNot (.var 8) .non) (.cons (.expr (.met .append (.var 6) (.cons (.tup (.cons (.ix (.ix (.var 5) (.var 7)) (.int 1)) (.cons (.ix (.var 8) (.int 1)) (.cons (.var 7) .nil)))) .nil))) .nil) .nil) .nil)) .nil) .nil)) (.cons (.ret (.var 6)) .nil))))
theorem lM:aD gz  cM (ah cK)=true:=by decide +kernel
noncomputable abbrev fX:Stmt:=top 39
theorem tN:ak ["_law_script","_law_k","_law_cell"] ["_law_script","_law_k"] (ae fX):=by walk_at "SC"
noncomputable def mU:Cfg:=mkc ["_law_script","_law_k","_law_cell"] fX 19
noncomputable def e_:Ss:=(.cons (.set (.name 2) (.ite (.cmp .Lt (.var 1) (.blt .len (.cons (.var 0) .nil))) (.ix (.var 0) (.var 1)) (.int 0))) (.cons (.ret (.lst (.cons (.blt .max2 (.cons (.int 0) (.cons (.bin .Sub (.var 2) (.bin .Pow (.int 10) (.int 18))) .nil))) (.cons (.bin .Mod (.bin .Add (.bin .Add (.bin .Mult (.bin .Mod (.var 2) (.int 2147483587)) (.int 39119)) (.bin .Mult (.int 7919) (.var 1))) (.int 41)) (.int 2147483629)) .nil)))) .nil))
theorem uW:aD mU  e_ (ah fX)=true:=by decide +kernel
noncomputable abbrev bB:Stmt:=top 32
theorem sv:ak ["root","moment","steps","is_ahead","paper","found","place","other","its_moment","tie"] ["root","moment","steps","is_ahead"] (ae bB):=by walk_at "SC"
noncomputable def iR:Cfg:={ N:=["root","moment","steps","is_ahead","paper","found","place","other","its_moment","tie"],names:=(ae bB).names,fns:=HW,lim:=20,blts:=zq,gl:=glL,pc:=true }
noncomputable def eW:Ss:=(.cons (.set (.name 4) .dct0) (.cons (.set (.name 5) (.dct2 (.var 0) (.tup (.cons (.var 1) (.cons (.gv "NO_TIE" gI) .nil))))) (.cons (.whileS (.eqd true (.var 5) .dct0) (.cons (.set (.name 6) (.call 16 (.cons (.var 5) (.cons (.var 3) .nil)))) (.cons (.set (.sub (.var 4) (.var 6)) (.ix (.var 5) (.var 6))) (.cons (.del (.var 5) (.var 6)) (.cons (.forS (.tup (.cons (.name 7) (.cons (.name 8) (.cons (.name 9) .nil)))) (.seq (.pcl 2 (.cons (.var 6) (.cons (.ix (.ix (.var 4) (.var 6)) (.int 0)) .nil)))) (.cons (.ifS (.bop true (.cons (.cmp .NotIn (.var 7) (.var 4)) (.cons (.bop false (.cons (.cmp .NotIn (.var 7) (.var 5)) (.cons (.pcg 3 4 "is_below" (.cons (.var 8) (.cons (.ix (.ix (.var 5) (.var 7)) (.int 0)) .nil))) .nil))) .nil))) (.cons (.set (.sub (.var 5) (.var 7)) (.tup (.cons (.var 8) (.cons (.var 9) .nil)))) .nil) .nil) .nil)) .nil))))) (.cons (.ret (.var 4)) .nil))))
theorem uV:aD iR  eW (ah bB)=true:=by decide +kernel
noncomputable abbrev a7:Stmt:=top 36
theorem rJ:ak ["net","start","moment"] ["net","start","moment"] (ae a7):=by walk_at "SC"
noncomputable def iN:Cfg:={ N:=["net","start","moment"],names:=(ae a7).names,fns:=HW,lim:=21,blts:=zq,gl:=glL,hm:=some (19,some (35,18,"paper_by")) }
noncomputable def eS:Ss:=(.cons (.ret (.plm 35 18 (.var 1) (.var 2) (.call 18 (.cons (.var 2) (.cons (.var 0) (.cons (.var 1) .nil)))) "is_below" 0)) .nil)
theorem uU:aD iN  eS (ah a7)=true:=by decide +kernel
noncomputable abbrev gJ:Stmt:=top 37
theorem ux:ak ["net","start","goal","moment","paper"] ["net","start","goal","moment"] (ae gJ):=by walk_at "SC"
noncomputable def pF:Cfg:=mkc ["net","start","goal","moment","paper"] gJ 22
noncomputable def fO:Ss:=(.cons (.set (.name 4) (.call 21 (.cons (.var 0) (.cons (.var 1) (.cons (.var 3) .nil))))) (.cons (.ret (.ite (.cmp .In (.var 2) (.var 4)) (.ix (.ix (.var 4) (.var 2)) (.int 0)) .non)) .nil))
theorem x_:aD pF  fO (ah gJ)=true:=by decide +kernel
noncomputable abbrev eM:Stmt:=top 40
theorem qP:ak ["_law_pot_here","_law_many","_law_digit"] ["_law_pot_here","_law_many"] (ae eM):=by walk_at "SC"
noncomputable def kH:Cfg:=mkc ["_law_pot_here","_law_many","_law_digit"] eM 23
noncomputable def dU:Ss:=(.cons (.ifS (.cmp .Gt (.ix (.var 0) (.int 0)) (.int 0)) (.cons (.set (.tup (.cons (.sub (.var 0) (.int 0)) (.cons (.name 2) .nil))) (.blt .divmod (.cons (.ix (.var 0) (.int 0)) (.cons (.var 1) .nil)))) (.cons (.ret (.var 2)) .nil)) .nil) (.cons (.set (.sub (.var 0) (.int 1)) (.bin .Mod (.bin .Add (.bin .Mult (.ix (.var 0) (.int 1)) (.int 40487)) (.int 12289)) (.int 2147483629))) (.cons (.ret (.bin .Mod (.bin .FloorDiv (.bin .Mod (.bin .Mult (.ix (.var 0) (.int 1)) (.ix (.var 0) (.int 1))) (.int 2147483563)) (.int 13)) (.var 1))) .nil)))
theorem t5:aD kH  dU (ah eM)=true:=by decide +kernel
noncomputable abbrev fR:Stmt:=top 41
theorem t6:ak ["_law_n","_law_d","_law_one","_law_other"] ["_law_n","_law_d"] (ae fR):=by walk_at "SC"
noncomputable def lN:Cfg:=mkc ["_law_n","_law_d","_law_one","_law_other"] fR 24
noncomputable def fh:Ss:=(.cons (.par 2 3 (.var 0) (.var 1)) (.cons (.whileS (.cmp .Gt (.var 3) (.int 0)) (.cons (.par 2 3 (.var 3) (.bin .Mod (.var 2) (.var 3))) .nil)) (.cons (.ret (.tup (.cons (.bin .FloorDiv (.var 0) (.var 2)) (.cons (.bin .FloorDiv (.var 1) (.var 2)) .nil)))) .nil)))
theorem uw:aD lN  fh (ah fR)=true:=by decide +kernel
noncomputable abbrev dC:Stmt:=top 42
theorem nP:ak ["_law_one","_law_other"] ["_law_one","_law_other"] (ae dC):=by walk_at "SC"
noncomputable def jv:Cfg:=mkc ["_law_one","_law_other"] dC 25
noncomputable def dm:Ss:=(.cons (.ret (.cmp .Lt (.bin .Mult (.ix (.var 0) (.int 0)) (.ix (.var 1) (.int 1))) (.bin .Mult (.ix (.var 1) (.int 0)) (.ix (.var 0) (.int 1))))) .nil)
theorem qk:aD jv  dm (ah dC)=true:=by decide +kernel
noncomputable abbrev eI:Stmt:=top 43
theorem pR:ak ["_law_one","_law_other"] ["_law_one","_law_other"] (ae eI):=by walk_at "SC"
noncomputable def kE:Cfg:=mkc ["_law_one","_law_other"] eI 26
noncomputable def dX:Ss:=(.cons (.ret (.call 24 (.cons (.bin .Add (.bin .Mult (.ix (.var 0) (.int 0)) (.ix (.var 1) (.int 1))) (.bin .Mult (.ix (.var 1) (.int 0)) (.ix (.var 0) (.int 1)))) (.cons (.bin .Mult (.ix (.var 0) (.int 1)) (.ix (.var 1) (.int 1))) .nil)))) .nil)
theorem tS:aD kE  dX (ah eI)=true:=by decide +kernel
noncomputable abbrev dB:Stmt:=top 44
theorem nJ:ak ["_law_pot_here","_law_part","_law_found","_law_k","_law_first","_law_late","_law_come","_law_comes"] ["_law_pot_here","_law_part"] (ae dB):=by walk_at "SC"
noncomputable def jH:Cfg:=mkc ["_law_pot_here","_law_part","_law_found","_law_k","_law_first","_law_late","_law_come","_law_comes"] dB 27
noncomputable def dq:Ss:=(.cons (.set (.name 2) (.lst .nil)) (.cons (.forS (.name 3) (.range1 (.call 23 (.cons (.var 0) (.cons (.tmp (.ix (.lst (.cons (.int 3) (.cons (.int 3) (.cons (.int 5) .nil)))) (.call 23 (.cons (.var 0) (.cons (.int 3) .nil))))) .nil)))) (.cons (.set (.name 4) (.call 23 (.cons (.var 0) (.cons (.int 24) .nil)))) (.cons (.set (.name 5) (.bin .Add (.var 4) (.bin .Mult (.call 23 (.cons (.var 0) (.cons (.int 12) .nil))) (.call 23 (.cons (.var 0) (.cons (.int 2) .nil)))))) (.cons (.set (.name 6) (.bin .Add (.var 4) (.call 23 (.cons (.var 0) (.cons (.int 40) .nil))))) (.cons (.set (.name 7) (.bin .Add (.var 5) (.call 23 (.cons (.var 0) (.cons (.int 40) .nil))))) (.cons (.ifS (.cmp .Eq (.var 5) (.var 4)) (.cons (.set (.name 7) (.var 6)) .nil) .nil) (.cons (.expr (.met .append (.var 2) (.cons (.tmp (.blt .tuple1 (.cons (.comp (.call 24 (.cons (.var 0) (.cons (.var 1) .nil))) (.name 0) (.seq (.tup (.cons (.var 4) (.cons (.var 5) (.cons (.var 6) (.cons (.var 7) .nil)))))) .nil ["_law_number"] [1]) .nil))) .nil))) .nil))))))) (.cons (.ret (.blt .tuple1 (.cons (.var 2) .nil))) .nil)))
theorem pY:aD jH  dq (ah dB)=true:=by decide +kernel
noncomputable abbrev fW:Stmt:=top 45
theorem rE:ak ["_law_pot_here","_law_part","_law_places","_law_bound","_law_waits","_law_ties","_law_name","_law_a","_law_b","_law_rides_here"] ["_law_pot_here","_law_part"] (ae fW):=by walk_at "SC"
noncomputable def mT:Cfg:=mkc ["_law_pot_here","_law_part","_law_places","_law_bound","_law_waits","_law_ties","_law_name","_law_a","_law_b","_law_rides_here"] fW 28
noncomputable def fg:Ss:=(.cons (.set (.name 2) (.sl (.lst (.cons (.str "a") (.cons (.str "b") (.cons (.str "c") (.cons (.str "d") .nil))))) .no (.yes (.bin .Add (.int 2) (.call 23 (.cons (.var 0) (.cons (.int 3) .nil))))))) (.cons (.set (.name 3) (.tmp (.ix (.lst (.cons (.int 0) (.cons (.int 0) (.cons (.int 0) (.cons (.int 1) (.cons (.int 5) .nil)))))) (.call 23 (.cons (.var 0) (.cons (.int 5) .nil)))))) (.cons (.set (.name 4) (.tmp (.blt .tuple1 (.cons (.comp (.var 0) (.name 0) (.seq (.var 2)) (.cons (.cmp .GtE (.call 23 (.cons (.var 1) (.cons (.int 5) .nil))) (.var 2)) .nil) ["_law_place"] [0,3]) .nil)))) (.cons (.set (.name 5) .dct0) (.cons (.forS (.name 6) (.seq (.sl (.lst (.cons (.str "s") (.cons (.str "q") (.cons (.str "r") (.cons (.str "p") (.cons (.str "t") .nil)))))) .no (.yes (.bin .Add (.int 1) (.call 23 (.cons (.var 0) (.cons (.int 5) .nil))))))) (.cons (.set (.name 7) (.call 23 (.cons (.var 0) (.cons (.blt .len (.cons (.var 2) .nil)) .nil)))) (.cons (.set (.name 8) (.bin .Mod (.bin .Add (.bin .Add (.var 7) (.int 1)) (.call 23 (.cons (.var 0) (.cons (.bin .Sub (.blt .len (.cons (.var 2) .nil)) (.int 1)) .nil)))) (.blt .len (.cons (.var 2) .nil)))) (.cons (.set (.name 9) (.call 27 (.cons (.var 0) (.cons (.var 1) .nil)))) (.cons (.ifS (.cmp .NotIn (.ix (.var 2) (.var 7)) (.var 4)) (.cons (.set (.name 9) (.sl (.tup (.cons (.tup (.cons (.tup (.cons (.int 0) (.cons (.int 1) .nil))) (.cons (.tup (.cons (.int 2) (.cons (.int 1) .nil))) (.cons (.tup (.cons (.int 3) (.cons (.int 1) .nil))) (.cons (.tup (.cons (.int 5) (.cons (.int 1) .nil))) .nil))))) .nil)) .no (.yes (.call 23 (.cons (.var 0) (.cons (.int 3) .nil)))))) .nil) .nil) (.cons (.set (.sub (.var 5) (.var 6)) (.tup (.cons (.ix (.var 2) (.var 7)) (.cons (.ix (.var 2) (.var 8)) (.cons (.var 9) .nil))))) .nil)))))) (.cons (.ret (.tup (.cons (.call 24 (.cons (.int 60) (.cons (.var 1) .nil))) (.cons (.var 4) (.cons (.var 5) .nil))))) .nil))))))
theorem uO:aD mT  fg (ah fW)=true:=by decide +kernel
noncomputable abbrev fL:Stmt:=top 46
theorem tD:ak ["_law_pot_here","_law_net_here","_law_lasts","_law_a","_law_b","_law_rides_here"] ["_law_pot_here","_law_net_here"] (ae fL):=by walk_at "SC"
noncomputable def mi:Cfg:=mkc ["_law_pot_here","_law_net_here","_law_lasts","_law_a","_law_b","_law_rides_here"] fL 29
noncomputable def fe:Ss:=(.cons (.set (.name 2) (.lst .nil)) (.cons (.forK (.tup (.cons (.name 3) (.cons (.name 4) (.cons (.name 5) .nil)))) .values (.ix (.var 1) (.int 2)) (.cons (.set (.name 2) (.bin .Add (.var 2) (.comp (.ix (.var 0) (.int 1)) (.name 0) (.seq (.var 5)) (.cons (.cmp .Gt (.ix (.ix (.var 0) (.int 1)) (.int 0)) (.int 0)) .nil) ["_law_ride"] []))) .nil)) (.cons (.ifS (.bop false (.cons (.un .isE (.var 2)) (.cons (.cmp .Gt (.call 23 (.cons (.var 0) (.cons (.int 3) .nil))) (.int 0)) .nil))) (.cons (.ret (.call 24 (.cons (.bin .Add (.int 36) (.call 23 (.cons (.var 0) (.cons (.int 9) .nil)))) (.cons (.int 1) .nil)))) .nil) .nil) (.cons (.ret (.ix (.var 2) (.call 23 (.cons (.var 0) (.cons (.blt .len (.cons (.var 2) .nil)) .nil))))) .nil))))
theorem vm:aD mi  fe (ah fL)=true:=by decide +kernel
noncomputable abbrev bx:Stmt:=top 47
theorem ij:ak ["_law_net_here","_law_day_here","_law_name","_law_a","_law_b","_law_rides_here"] ["_law_net_here","_law_day_here"] (ae bx):=by walk_at "SC"
noncomputable def ei:Cfg:=mkc ["_law_net_here","_law_day_here","_law_name","_law_a","_law_b","_law_rides_here"] bx 30
noncomputable def bK:Ss:=(.cons (.forS (.name 2) (.seq (.blt .sortD (.cons (.ix (.var 0) (.int 2)) .nil))) (.cons (.set (.tup (.cons (.name 3) (.cons (.name 4) (.cons (.name 5) .nil)))) (.ix (.ix (.var 0) (.int 2)) (.var 2))) (.cons (.ifS (.bop false (.cons (.cmp .NotIn (.var 3) (.ix (.var 0) (.int 1))) (.cons (.cmp .NotEq (.comp (.var 0) (.name 0) (.seq (.var 5)) (.cons (.not (.call 25 (.cons (.ix (.var 0) (.int 1)) (.cons (.var 1) .nil)))) .nil) ["_law_ride"] [1]) (.lst .nil)) .nil))) (.cons (.ret (.var 2)) .nil) .nil) .nil))) (.cons (.ret (.str "")) .nil))
theorem iI:aD ei  bK (ah bx)=true:=by decide +kernel
noncomputable abbrev dE:Stmt:=top 48
theorem nA:ak ["_law_net_here","_law_day_here","_law_many","_law_ties","_law_name","_law_a","_law_b","_law_rides_here","_law_found","_law_j","_law_far"] ["_law_net_here","_law_day_here","_law_many"] (ae dE):=by walk_at "SC"
noncomputable def jE:Cfg:=mkc ["_law_net_here","_law_day_here","_law_many","_law_ties","_law_name","_law_a","_law_b","_law_rides_here","_law_found","_law_j","_law_far"] dE 31
noncomputable def dh:Ss:=(.cons (.set (.name 3) .dct0) (.cons (.forK (.name 4) .keys (.ix (.var 0) (.int 2)) (.cons (.set (.tup (.cons (.name 5) (.cons (.name 6) (.cons (.name 7) .nil)))) (.ix (.ix (.var 0) (.int 2)) (.var 4))) (.cons (.set (.name 8) (.lst .nil)) (.cons (.forS (.name 9) (.range1 (.var 2)) (.cons (.set (.name 10) (.call 24 (.cons (.bin .Mult (.var 9) (.ix (.var 1) (.int 0))) (.cons (.ix (.var 1) (.int 1)) .nil)))) (.cons (.set (.name 8) (.bin .Add (.var 8) (.comp (.tmp (.blt .tuple1 (.cons (.comp (.call 26 (.cons (.var 0) (.cons (.var 1) .nil))) (.name 0) (.seq (.var 0)) .nil ["_law_moment"] [1]) .nil))) (.name 0) (.seq (.var 7)) .nil ["_law_ride"] [10]))) .nil))) (.cons (.set (.sub (.var 3) (.var 4)) (.tup (.cons (.var 5) (.cons (.var 6) (.cons (.blt .tuple1 (.cons (.var 8) .nil)) .nil))))) .nil))))) (.cons (.ret (.tup (.cons (.call 24 (.cons (.bin .Mult (.var 2) (.ix (.var 1) (.int 0))) (.cons (.ix (.var 1) (.int 1)) .nil))) (.cons (.ix (.var 0) (.int 1)) (.cons (.var 3) .nil))))) .nil)))
theorem rj:aD jE  dh (ah dE)=true:=by decide +kernel
noncomputable abbrev eL:Stmt:=top 49
theorem rm:ak ["_law_net_here","_law_day_here","_law_many","e","_law_found"] ["_law_net_here","_law_day_here","_law_many"] (ae eL):=by walk_at "SC"
noncomputable def kJ:Cfg:=mkc ["_law_net_here","_law_day_here","_law_many","e","_law_found"] eL 32
noncomputable def f9:Es:=(.cons (.var 0) (.cons (.var 1) (.cons (.var 2) .nil)))
noncomputable def jd:HR:={ i:=4,a1:=[(.iso 1),(.iso 2),(.iso 3),(.iso 4)],a2:=[(.iso 5),.isv],t:=(.iso 1),nm:="name" }
theorem sd:wO kJ FX ysL 8 f9 3 jd (ah eL)=true:=by decide +kernel
noncomputable abbrev dI:Stmt:=top 50
theorem nQ:ak ["_law_one","_law_more_here","_law_day_here","_law_t","_law_place","_law_due"] ["_law_one","_law_more_here","_law_day_here","_law_t"] (ae dI):=by walk_at "SC"
noncomputable def jm:Cfg:=mkc ["_law_one","_law_more_here","_law_day_here","_law_t","_law_place","_law_due"] dI 33
noncomputable def dw:Ss:=(.cons (.forS (.name 4) (.seq (.lst (.cons (.str "a") (.cons (.str "b") (.cons (.str "c") (.cons (.str "d") .nil)))))) (.cons (.set (.name 5) (.call 22 (.cons (.var 0) (.cons (.str "a") (.cons (.var 4) (.cons (.var 3) .nil)))))) (.cons (.ifS (.cmp .IsNot (.var 5) .non) (.cons (.set (.name 5) (.call 26 (.cons (.var 5) (.cons (.var 2) .nil)))) .nil) .nil) (.cons (.ifS (.cmp .NotEq (.call 22 (.cons (.var 1) (.cons (.str "a") (.cons (.var 4) (.cons (.call 26 (.cons (.var 3) (.cons (.var 2) .nil))) .nil))))) (.var 5)) (.cons (.ret (.bl false)) .nil) .nil) .nil)))) (.cons (.ret (.bl true)) .nil))
theorem p_:aD jm  dw (ah dI)=true:=by decide +kernel
noncomputable abbrev kn:Stmt:=top 51
theorem IH:ak ["_law_script","_law_pot_here","_law_part","_law_net_here","_law_day_here","_law_many","_law_before","_law_wrong","_law_one","_law_more_here","_law_moments"] ["_law_script"] (ae kn):=by walk_at "SC"
noncomputable def F5:Cfg:=mkc ["_law_script","_law_pot_here","_law_part","_law_net_here","_law_day_here","_law_many","_law_before","_law_wrong","_law_one","_law_more_here","_law_moments"] kn 34
noncomputable def l_:Ss:=(.cons (.set (.name 1) (.call 19 (.cons (.var 0) (.cons (.int 0) .nil)))) (.cons (.set (.name 2) (.bin .Add (.int 1) (.call 23 (.cons (.var 1) (.cons (.int 4) .nil))))) (.cons (.set (.name 3) (.call 28 (.cons (.var 1) (.cons (.var 2) .nil)))) (.cons (.set (.name 4) (.call 29 (.cons (.var 1) (.cons (.var 3) .nil)))) (.cons (.set (.name 5) (.bin .Add (.int 1) (.call 23 (.cons (.var 1) (.cons (.int 4) .nil))))) (.cons (.set (.name 6) (.blt .repr2 (.cons (.var 3) .nil))) (.cons (.set (.name 7) (.call 30 (.cons (.var 3) (.cons (.var 4) .nil)))) (.cons (.set (.name 8) (.call 32 (.cons (.var 3) (.cons (.var 4) (.cons (.var 5) .nil))))) (.cons (.ifS (.cmp .NotEq (.var 7) (.str "")) (.cons (.ret (.bop true (.cons (.eqd false (.var 8) (.tup (.cons (.lst (.cons (.bl true) (.cons (.bl false) (.cons (.bl false) (.cons (.bl false) (.cons (.bl false) (.cons (.bl true) .nil))))))) (.cons (.var 7) .nil)))) (.cons (.cmp .Eq (.blt .repr2 (.cons (.var 3) .nil)) (.var 6)) .nil)))) .nil) .nil) (.cons (.set (.name 9) (.call 32 (.cons (.var 3) (.cons (.var 4) (.cons (.bin .Add (.var 5) (.int 1)) .nil))))) (.cons (.ifS (.bop false (.cons (.eqd true (.var 8) (.call 31 (.cons (.var 3) (.cons (.var 4) (.cons (.var 5) .nil))))) (.cons (.eqd true (.var 9) (.call 31 (.cons (.var 3) (.cons (.var 4) (.cons (.bin .Add (.var 5) (.int 1)) .nil))))) .nil))) (.cons (.ret (.bl false)) .nil) .nil) (.cons (.ifS (.cmp .NotEq (.blt .repr2 (.cons (.var 3) .nil)) (.var 6)) (.cons (.ret (.bl false)) .nil) .nil) (.cons (.set (.name 10) (.bin .Add (.comp (.call 24 (.cons (.call 23 (.cons (.var 1) (.cons (.bin .Mult (.int 50) (.var 3)) .nil))) (.cons (.var 2) .nil))) (.name 0) (.range1 (.int 3)) .nil ["_law_k"] [1,2,5]) (.lst (.cons (.tup (.cons (.int 0) (.cons (.int 1) .nil))) (.cons (.ix (.var 8) (.int 0)) .nil))))) (.cons (.ifS (.not (.tmp (.blt .all1 (.cons (.comp (.call 33 (.cons (.var 2) (.cons (.var 3) (.cons (.var 1) (.cons (.var 0) .nil))))) (.name 0) (.seq (.var 10)) .nil ["_law_t"] [4,8,9]) .nil)))) (.cons (.ret (.bl false)) .nil) .nil) (.cons (.expr (.clr (.ix (.var 8) (.int 2)))) (.cons (.ret (.eqd false (.call 8 (.cons (.var 3) (.cons (.var 4) (.cons (.var 5) .nil)))) (.call 31 (.cons (.var 3) (.cons (.var 4) (.cons (.var 5) .nil)))))) .nil))))))))))))))))
theorem JA:aD F5  l_ (ah kn)=true:=by decide +kernel
noncomputable abbrev cN:Stmt:=(Lr (top 6)).getD 0 (.Pass ⟨0,0,0,0⟩)
theorem nF:ak ["self","name"] ["self","name"] (ae cN):=by walk_at "SC"
theorem qZ:JJ "HourError" "self" "name" "name" (ah cN)=true:=by decide +kernel
local macro_rules | `(tactic| walk_at "WP")=>do
 let l<-(("nX EW GD FN E8 Gh GC Ab CH An CP wA E1 ER Fs Gm zN Fy Gv AV zg zh vM Ay EZ Fx BE Fc zP Jz wB E_ zw zD Ar zG F3 BZ EX FH KB Gb E4 KJ Fi Gu B4 Gk Gx FU FD KC F1 KY JF AS GE FT CN Gz AO Gy Fb Gc KP K4 Ga xc zk xt JH Fo F6 JI EO FP Ft Cp Fw EE Ji Cj xA B_ wK uJ zT wD A9 vN Cs EM eP lZ lT xC rL F9 FR Fu FE E6 E7 Cv BV ES EC Fd EB F4 FS CM Jp Ju F_ Fq zK Cz JM K3 KL FA GI EY pk rV oi oX ou ph wu xb vQ wQ rM tI tK oB og mK n9 tO oz oH oS pB Ew GJ Gf ow lS vY vK Fl FY Ey Gq Bu AJ A3 Gi tW BU AX EL v_ FI Kr Kf KG K0 I0 FV Cm CD CK EU Fp zQ Fh F8 CG Ez BS IZ JN zB Gw GB E3 A5 FF BP EV FK Cc Fj frame Γ_0 Γ_1 Γ_2 Γ_3 Γ_4 Γ_5 Γ_6 Γ_7 Γ_8 Γ_9 J0 KS Kw Ko Jr K' J9 KW Ij Kj K_ JY Jt Kq Jh J_ JV Kb Kx JU JB K7 Jk Ku Kd Js Nat.add_assoc eE cC List.append_assoc List.length_append List.length_set List.map_cons List.map_nil List.length_cons List.length_nil List.replicate List.cons_append List.nil_append List.append_nil List.getElem?_cons_zero List.getElem?_cons_succ List.set_cons_zero List.set_cons_succ Option.some.injEq Cell.lst.injEq PV.int.injEq PV.bl.injEq PV.ref.injEq PV.str.injEq PV.tup.injEq PV.rdl.injEq List.cons.injEq and_true true_and exists_eq_left exists_eq_left' exists_eq_right exists_and_left exists_and_right exists_const Bool.not_true Bool.not_false Bool.not_not Bool.not_eq_true' decide_eq_true_eq decide_eq_false_iff_not false_and and_false false_or or_false if_true if_false Bool.false_eq_true reduceCtorEq reduceIte not_false_eq_true Nat.add_zero Nat.zero_add Nat.reduceAdd Nat.reduceSub Nat.reduceLeDiff Int.reduceToNat Int.reducePow Int.reduceLT Int.reduceLE Int.reduceNeg Int.reduceAdd Int.reduceSub Int.reduceMul zH xi exists_eq exists_eq' exists_false ne_eq not_true_eq_false and_assoc Option.join_some Option.join_none decide_true decide_false AG Ct BW BF Bd BM B6 Int.reduceEq Nat.reduceEqDiff Bool.not_eq_false Bool.not_eq_true Bool.and_true Bool.true_and Bool.and_false Bool.false_and Bool.or_false Bool.or_true".splitOn " ").toArray.mapM fun s=>`(Lean.Parser.Tactic.simpLemma|$(Lean.mkIdent s.toName):ident))
 `(tactic|simp only[↓FL,↓E5,↓Fe,↓Fg,$l,*])
noncomputable def nxE (P:Fr->AH->Prop):aC:={ nx:=P,rt:=fun _ _=>False }
theorem IG:(nxE P).nx ρ st=P ρ st:=rfl
local macro_rules | `(tactic| walk_at "WPN")=>`(tactic| ((try walk_at "WP");repeat (simp only [IG];try walk_at "WP")))
theorem a8 {D:aC}(P:Fr->AH->Prop)(h1:wpS Γ s ρ st (nxE P))(h2:∀ρ' st',P ρ' st'->az Γ ss ρ' st' D):az Γ (.cons s ss) ρ st D:=by
 cases ss with
 | nil=>exact ej (D:=nxE P) Γm s ⟨fun ρ st z=>h2 ρ st z,fun _ _ z=>False.elim z,fun _ _ z=>False.elim z,fun _ _ z=>False.elim z⟩ h1
 | cons s2 ss=>exact ej (D:=nxE P) (D':=aft Γ (.cons s2 ss) D) Γm s ⟨fun ρ st z=>h2 ρ st z,fun _ _ z=>False.elim z,fun _ _ z=>False.elim z,fun _ _ z=>False.elim z⟩ h1
theorem jX {as st Q}(h:aN as st Q):az Γ b8 (frame 2 as) st (aj st Q):=by
 obtain⟨n,d,rfl,k⟩:=h;unfold b8;walk_at "WP";refine while_by Γm (fun m ρ s=>∃a b:Nat,ρ=[some (.int a),some (.int b)]/\s=st/\Nat.gcd a b=Nat.gcd n d/\m=b) (n:=d) ⟨n,d,rfl,rfl,rfl,rfl⟩ ?_;rintro m ρ s ⟨a,b,rfl,rfl,hg,rfl⟩;walk_at "WP";by_cases hb:(m:Int)=0
 ·rw[ML (fun z=>z hb)];have:m=0:=by omega
  subst this;rw[Nat.gcd_zero_right] at hg;rw[hg];exact .inl k
 ·rw[MN hb];refine⟨by omega,a % m,Nat.mod_lt _ (by omega),m,rfl,a % m,?_,?_,rfl⟩
  ·simp
  ·rw[<-hg,O7 a m,Nat.gcd_rec m a,O7]
theorem vH {as st Q}(h:bR as st Q):az Γ fc (frame 3 as) st (aj st Q):=by obtain⟨n,d,rfl,h1,h2,k⟩:=h;unfold fc;walk_at "WP";refine⟨n,d,rfl,?_⟩;walk_at "WP";refine⟨lA h1 h2,lA h1 h2,?_⟩;rw[<-PB,<-PB];exact .inl k
theorem Hl {as st Q}(h:cZ as st Q):az Γ j' (frame 2 as) st (aj st Q):=by obtain⟨p,q,rfl,hp,hq,k⟩:=h;unfold j';walk_at "WP";refine⟨iS hp.a hq.b,iS hq.a hp.b,iS hp.b hq.b,p.1*q.2+q.1*p.2,p.2*q.2,?_,M3 hp.pos hq.pos,HK hp.b hq.b,.inl k⟩;rw[PP,M6,M6,M6]
theorem Da {as st Q}(h:fJ as st Q):az Γ iL (frame 2 as) st (aj st Q):=by obtain⟨p,q,rfl,hp,hq,k⟩:=h;unfold iL;walk_at "WP";refine⟨iS hp.a hq.a,iS hp.b hq.b,p.1*q.1,p.2*q.2,?_,M3 hp.pos hq.pos,HK hp.b hq.b,.inl k⟩;rw[M6,M6]
theorem fH {α:Type}{chk:AH->Prop}{ρ:Fr}{xs:List α}{Q:LK}(g f:α->PV)(hc:chk st)(hs:∀a∈xs,∀K:EK,K (f a) st->bt Γ tg (g a) ρ st fun ρ' st3=>wpE Γ elt ρ' st3 K)(q:Q (xs.map f) st):B7 Γ elt tg .nil chk ρ (xs.map g) st Q:=by
 refine gR Γm (fun i acc s=>s=st/\acc=(xs.take i).map f) ⟨rfl,rfl⟩ ?_ ?_
 ·rintro i x acc s hx ⟨rfl,rfl⟩;rw[MI] at hx;obtain⟨a,ha,rfl⟩:=MP.mp hx;refine⟨hc,?_⟩;simp only[uJ,if_true];refine hs a (MT ha) _ ⟨rfl,?_⟩;rw[N8,ha];simp
 ·rintro acc s ⟨rfl,rfl⟩;rw[ME,NX];exact⟨hc,q⟩
theorem iM {P:Prop}[Decidable P]{A B:Prop}(h1:P->A)(h2:¬P->B):(if P then A else B):=by split;exact h1 ‹_›;exact h2 ‹_›
theorem DG {as st Q}(h:fq as st Q):az Γ iE (frame 2 as) st (aj st Q):=by
 obtain⟨r,y,rfl,hr,hy,k⟩:=h;unfold iE;walk_at "WP";refine⟨by decide,fH (xs:=[r.a,r.b,r.c,r.d]) fr (fun p=>fr (ax p y)) trivial (fun p hp K kk=>?_) ?_⟩
 ·walk_at "WP";refine⟨p,y,rfl,?_,hy.mono (by decide),kk⟩;simp only[List.mem_cons,List.not_mem_nil,or_false] at hp;rcases hp with rfl|rfl|rfl|rfl
  ·exact hr.a.mono (by decide)
  ·exact hr.b.mono (by decide)
  ·exact hr.c.mono (by decide)
  ·exact hr.d.mono (by decide)
 ·exact⟨_,ao get_last,.app rfl (.inl k)⟩
theorem kR {as st Q}(h:a6 as st Q):az Γ cg (frame 5 as) st (aj st Q):=by
 obtain⟨L,day,n,rfl,hL,hd,hn,hl,k⟩:=h;unfold cg;refine a8 (fun ρ s=>s=st++[.lst []]/\ρ=[some (.tup (L.map rdV)),some (fr day),some (.int n),some (.ref st.length),none]) (by walk_at "WPN") ?_;rintro _ _ ⟨rfl,rfl⟩;refine a8 (fun ρ s=>(∃g,s=st++.lst ((dY L day n).map rdV)::g)/\∃x,ρ=[some (.tup (L.map rdV)),some (fr day),some (.int n),some (.ref st.length),x]) ?_ ?_
 ·walk_at "WPN";refine⟨by omega,by omega,for_by Γm (fun i ρ s=>(∃g,s=st++.lst ((dY L day i).map rdV)::g)/\∃x,ρ=[some (.tup (L.map rdV)),some (fr day),some (.int n),some (.ref st.length),x]) ⟨⟨[],rfl⟩,_,rfl⟩ ?_ ?_⟩
  ·rintro i v ρ s hi ⟨⟨g,rfl⟩,x,rfl⟩;refine⟨trivial,?_⟩;walk_at "WPN";obtain⟨rfl,hin⟩:=iV hi;have hm:Sz 35 (bM (i,1) day):=(lp (j:=4) ⟨by show i<2 ^ 4;omega,by show 1<2 ^ 4;decide,by show 0<1;decide⟩ hd).mono (by decide);refine⟨by rw[ME];omega,fH (xs:=L) rdV (fun r=>rdV (shR (bM (i,1) day) r)) trivial (fun r hr K kk=>?_) ?_⟩
   ·walk_at "WP";have hr':=hL r hr;exact⟨(i,1),day,rfl,⟨by show i<2 ^ 3000;exact MK (show i<2 ^ 4 by omega) (gF (by decide)),by show 1<2 ^ 3000;exact P4 (by decide),by show 0<1;decide⟩,hd.mono (by decide),r,_,rfl,hr'.mono (by decide),hm.mono (by decide),kk⟩
   ·refine⟨(dY L day i).map rdV,by simp,by simp only[List.length_map,i6];have:i*L.length<=10*10:=QN (by omega) hl;omega,g++[.lst (L.map fun r=>rdV (shR (bM (i,1) day) r))],?_⟩;simp[dY,List.map_map,Function.comp_def]
  ·rintro ρ s ⟨⟨g,rfl⟩,x,rfl⟩;refine⟨trivial,⟨g,?_⟩,x,rfl⟩;have:(cO 0 (n:Int).toNat).length=n:=by simp[cO]
   rw[this]
 rintro _ _ ⟨⟨g,rfl⟩,x,rfl⟩;walk_at "WP";exact⟨_,ao (by simp),.inl (k _ (Pre.refl.app))⟩
theorem su {α:Type}{f:α->Bool}:∀ {xs:List α},iy (xs.map fun x=>.bl (f x))=some (xs.map f)
 | []=>rfl
 | x::xs=>by rw[MF,iy,su];rfl
theorem nu {as st Q}(h:bq as st Q):az Γ cW (frame 6 as) st (aj st Q):=by
 obtain⟨t,ws,day,rfl,hr,hd,hl,k⟩:=h;unfold cW;refine a8 (fun ρ s=>s=st/\ρ=[some (teV t),some (.tup (sV ws)),some (fr day),some (.str t.a),some (.str t.b),some (.tup (t.rs.map rdV))]) (by walk_at "WPN") ?_;rintro _ _ ⟨rfl,rfl⟩;walk_at "WP";refine⟨ws,rfl,?_⟩;cases e:ws.any fun j=>j == t.a with
 | false =>
  rw[ML MA];refine .inl ?_;have:again ws day t=false:=by unfold again;rw[e];rfl
  rw[this] at k;exact k
 | true =>
  rw[MN rfl];have ha:again ws day t=(t.rs.map fun r=>blt r.b day).all id:=by unfold again;rw[e,Bool.true_and,List.all_map];rfl
  refine⟨by rw[ME];omega,fH (xs:=t.rs) rdV (fun r=>.bl (blt r.b day)) trivial (fun r hm K kk=>?_) ⟨_,cq get_last,_,su,.app rfl (.inl ?_)⟩⟩
  ·walk_at "WP";exact⟨r.b,day,rfl,(hr r hm).b.mono (by decide),hd.mono (by decide),kk⟩
  ·rw[<-ha];exact k
theorem vF {as st Q}(h:aV as st Q):az Γ eZ (frame 2 as) st (aj st Q):=by obtain⟨p,q,rfl,hp,hq,k⟩:=h;unfold eZ;walk_at "WP";refine⟨iS hp.a hq.b,iS hq.a hp.b,?_⟩;rw[<-M6,<-M6];simp only[Int.ofNat_lt];exact .inl k
theorem qO {as st Q}(h:c7 as st Q):az Γ dm (frame 2 as) st (aj st Q):=by obtain⟨p,q,rfl,hp,hq,k⟩:=h;unfold dm;walk_at "WP";refine⟨iS hp.a hq.b,iS hq.a hp.b,?_⟩;rw[<-M6,<-M6];simp only[Int.ofNat_lt];exact .inl k
theorem rG {as st Q}(h:cI as st Q):az Γ dX (frame 2 as) st (aj st Q):=by obtain⟨p,q,rfl,hp,hq,k⟩:=h;unfold dX;walk_at "WP";refine⟨iS hp.a hq.b,iS hq.a hp.b,iS hp.b hq.b,p.1*q.2+q.1*p.2,p.2*q.2,?_,M3 hp.pos hq.pos,HK hp.b hq.b,.inl k⟩;rw[PP,M6,M6,M6]
theorem sW {as st Q}(h:bS as st Q):az Γ dR (frame 2 as) st (aj st Q):=by obtain⟨p,q,rfl,hp,hq,hl,k⟩:=h;have le:q.1*p.2<=p.1*q.2:=NW.mp hl;unfold dR;walk_at "WP";refine⟨iS (hp.mono (by decide)).a (hq.mono (by decide)).b,iS (hq.mono (by decide)).a (hp.mono (by decide)).b,?_⟩;rw[Int.natCast_sub le,M6,M6] at k;exact .inl k
theorem nC {a b:Nat}(h1:a<2 ^ j)(h2:b<2 ^ k)(z1:j<=3000)(z2:k<=3000):CMB (a:Int) (b:Int):=iS (MK h1 (gF z1)) (MK h2 (gF z2))
theorem cU {a k:Nat}(h:a<2 ^ j)(z:j<=k):a<2 ^ k:=MK h (gF z)
theorem dj {α:Type}{P:α->Prop}{c:Prop}[Decidable c]{x y:α}(h1:c->P x)(h2:¬c->P y):P (if c then x else y):=by split;exact h1 ‹_›;exact h2 ‹_›
theorem lH {f l t:F2}(pf:0<f.2)(pl:0<l.2)(pt:0<t.2)(tf:¬bb t f)(lt:¬bb l t)(fl:bb f l):0<(l.1*t.2-t.1*l.2)*f.2+(t.1*f.2-f.1*t.2)*l.2:=by
 have le1:f.1*t.2<=t.1*f.2:=NW.mp tf;by_cases z:f.1*t.2<t.1*f.2
 ·have:=M3 (Nat.sub_pos_of_lt z) pl;omega
 ·have e:t.1*f.2=f.1*t.2:=by omega
  have z2:t.1*l.2<l.1*t.2:=by
   refine Nat.lt_of_mul_lt_mul_right (a:=f.2) ?_;have:t.1*l.2*f.2=f.1*l.2*t.2:=by
    calc t.1*l.2*f.2=t.1*f.2*l.2:=by grind
     _=f.1*t.2*l.2:=by rw[e]
     _=f.1*l.2*t.2:=by grind
   rw[this,show l.1*t.2*f.2=l.1*f.2*t.2 by grind];exact Nat.mul_lt_mul_of_pos_right fl pt
  have:=M3 (Nat.sub_pos_of_lt z2) pf;omega
theorem xw {f l c d t:F2}(zf:Sz 66 f)(zl:Sz 66 l)(zc:Sz 66 c)(zd:Sz 66 d)(zt:Sz m t)(tf:¬bb t f)(lt:¬bb l t)(fl:bb f l):∃U V:Nat,(t.1*f.2-f.1*t.2)*l.2=U/\(l.1*t.2-t.1*l.2)*f.2=V/\U<2 ^ (m+132)/\V<2 ^ (m+132)/\0<V+U/\V+U<2 ^ (m+133):=by
 have u1:=bc (M_ (QP (t.1*f.2) (f.1*t.2)) (bc zt.a zf.b)) zl.b;have v1:=bc (M_ (QP (l.1*t.2) (t.1*l.2)) (bc zl.a zt.b)) zf.b;have u2:=cU u1 (show m+66+66<=m+132 by omega);have v2:=cU v1 (show 66+m+66<=m+132 by omega);have:(2:Nat) ^ (m+133)=2*2 ^ (m+132):=by rw[QS,OW]
 exact⟨_,_,rfl,rfl,u2,v2,lH zf.pos zl.pos zt.pos tf lt fl,by omega⟩
theorem zF {m U V:Nat}{c d:F2}(zc:Sz 66 c)(zd:Sz 66 d)(hU:U<2 ^ (m+132))(hV:V<2 ^ (m+132))(h0:0<V+U)(h1:V+U<2 ^ (m+133)):c.1*d.2*V+d.1*c.2*U<2 ^ (m+265)/\c.2*d.2*(V+U)<2 ^ (m+265)/\0<c.2*d.2*(V+U):=by
 have b1:=cU (bc (bc zc.a zd.b) hV) (show 66+66+(m+132)<=m+264 by omega);have b2:=cU (bc (bc zd.a zc.b) hU) (show 66+66+(m+132)<=m+264 by omega);have:(2:Nat) ^ (m+265)=2*2 ^ (m+264):=by rw[QS,OW]
 exact⟨by omega,cU (bc (bc zc.b zd.b) h1) (by omega),M3 (M3 zc.pos zd.pos) h0⟩
theorem nq {as st Q}(h:br as st Q):az Γ cV (frame 10 as) st (aj st Q):=by
 obtain⟨m,f,l,c,d,t,rfl,zf,zl,zc,zd,zt,hm,tf,lt,fl,k⟩:=h;obtain⟨U,V,eU,eV,u2,v2,q0,q1⟩:=xw zf zl zc zd zt tf lt fl;obtain⟨s1,s2,s3⟩:=zF zc zd u2 v2 q0 q1;have p1:=M_ (QP (t.1*f.2) (f.1*t.2)) (bc zt.a zf.b);have p2:=M_ (QP (l.1*t.2) (t.1*l.2)) (bc zl.a zt.b);unfold k7 at k;rw[eU,eV] at k;unfold cV;refine a8 (fun ρ s=>st=s/\ρ=[some (.tup [fr f,fr c]),some (.tup [fr l,fr d]),some (fr t),some (fr f),some (fr c),some (fr l),some (fr d),none,none,none]) (by walk_at "WPN") ?_;rintro _ _ ⟨rfl,rfl⟩;refine a8 (fun ρ s=>st=s/\ρ=[some (.tup [fr f,fr c]),some (.tup [fr l,fr d]),some (fr t),some (fr f),some (fr c),some (fr l),some (fr d),some (.int U),none,none]) ?_ ?_
 ·walk_at "WPN";refine⟨t,f,rfl,zt.mono (by omega),zf.mono (by decide),tf,?_⟩;walk_at "WPN";refine⟨nC p1 zl.b (by omega) (by decide),?_⟩;rw[<-eU,M6]
 rintro _ _ ⟨rfl,rfl⟩;refine a8 (fun ρ s=>st=s/\ρ=[some (.tup [fr f,fr c]),some (.tup [fr l,fr d]),some (fr t),some (fr f),some (fr c),some (fr l),some (fr d),some (.int U),some (.int V),none]) ?_ ?_
 ·walk_at "WPN";refine⟨l,t,rfl,zl.mono (by decide),zt.mono (by omega),lt,?_⟩;walk_at "WPN";refine⟨nC p2 zf.b (by omega) (by decide),?_⟩;rw[<-eV,M6]
 rintro _ _ ⟨rfl,rfl⟩;refine a8 (fun ρ s=>st=s/\ρ=[some (.tup [fr f,fr c]),some (.tup [fr l,fr d]),some (fr t),some (fr f),some (fr c),some (fr l),some (fr d),some (.int U),some (.int V),some (.int (c.1*d.2*V+d.1*c.2*U:Nat))]) ?_ ?_
 ·walk_at "WPN";have k1:=bc zc.a zd.b;have k2:=bc zd.a zc.b;refine⟨nC zc.a zd.b (by decide) (by decide),?_⟩;rw[<-M6];refine⟨nC k1 v2 (by decide) (by omega),nC zd.a zc.b (by decide) (by decide),?_⟩;rw[<-M6,<-M6];refine⟨nC k2 u2 (by decide) (by omega),?_⟩;rw[<-M6,<-PP]
 rintro _ _ ⟨rfl,rfl⟩;walk_at "WP";refine⟨nC zc.b zd.b (by decide) (by decide),?_⟩;rw[<-M6,<-PP];refine⟨nC (bc zc.b zd.b) q1 (by decide) (by omega),?_⟩;rw[<-M6];exact⟨_,_,rfl,s3,cU s2 (by omega),.inl k⟩
theorem lG {α β:Type}{f:β->α->β}{P:β->Prop}:∀ {L:List α}{o:β},P o->(∀r∈L,∀o,P o->P (f o r))->P (L.foldl f o)
 | [],_,h,_=>h
 | r::L,o,h,hs=>lG (L:=L) (o:=f o r) (hs r MQ o h) fun x hx=>hs x (MM _ hx)
theorem blt_iff:blt p q=true↔bb p q:=by unfold blt bb;exact decide_eq_true_iff
theorem blt_no:blt p q=false↔¬bb p q:=by rw[<-blt_iff];simp
theorem Ik {f l c d t:F2}(zf:Sz 66 f)(zl:Sz 66 l)(zc:Sz 66 c)(zd:Sz 66 d)(zt:Sz m t)(tf:¬bb t f)(lt:¬bb l t)(fl:bb f l):Mok (m+266) (k7 f l c d t):=by obtain⟨U,V,eU,eV,u2,v2,q0,q1⟩:=xw zf zl zc zd zt tf lt fl;obtain⟨s1,s2,s3⟩:=zF zc zd u2 v2 q0 q1;unfold k7;rw[eU,eV];exact⟨⟨cU (M_ (iZ _ _) s1) (by omega),cU (M_ (ji _ _) s2) (by omega),bE s3⟩,.low s3⟩
abbrev vL (r:Rd):Prop:=RdS 66 r/\RdK r
theorem Ck {t:F2}(hr:vL r)(zt:Sz m t)(hm:66<=m)(h1:¬bb t r.a)(h2:¬bb r.b t):Mok (m+266) (cbF r t):=by
 obtain⟨hs,hk⟩:=hr;unfold cbF;by_cases e:r.a=r.b
 ·rw[MN e];exact⟨hs.c.mono (by omega),hk.c⟩
 ·rw[ML e];have fl:bb r.a r.b:=NY fun z=>e (hk.a.ext hk.b (PQ (NW.mp hk.ab) (NW.mp z)));exact Ik hs.a hs.b hs.c hs.d zt h1 h2 fl
theorem xW {as st Q}(h:cR as st Q):az Γ fU (frame 6 as) st (aj st Q):=by
 obtain⟨m,r,t,rfl,hs,hk,zt,hm,h1,h2,k⟩:=h;unfold fU;walk_at "WP";refine u_ ?_;unfold cbF at k;by_cases e:r.a=r.b
 ·rw[MN e] at k;rw[NF e,MN rfl];exact .inl k
 ·rw[ML e] at k;rw[NI e,ML MA];have fl:bb r.a r.b:=NY fun z=>e (hk.a.ext hk.b (PQ (NW.mp hk.ab) (NW.mp z)));exact⟨m,_,_,_,_,_,rfl,hs.a,hs.b,hs.c,hs.d,zt,hm,h1,h2,fl,.inl k⟩
theorem Eh {as st Q}(h:fA as st Q):az Γ iH (frame 1 as) st (aj st Q):=by obtain⟨r,rfl,hs,k⟩:=h;unfold iH;walk_at "WP";exact⟨_,_,rfl,hs.d.mono (by decide),hs.c.mono (by decide),.inl k⟩
theorem Cf (hr:vL r)(ht:Mok m t)(hm:66<=m)(h2:¬bb r.b t):Mok (m+266) (bfF r t).1/\Mok (m+266) (bfF r t).2:=by obtain⟨hs,hk⟩:=id hr;unfold bfF;refine dj (P:=fun p:F2 × F2=>Mok (m+266) p.1/\Mok (m+266) p.2) (fun _=>⟨⟨hs.b.mono (by omega),hk.b⟩,hs.d.mono (by omega),hk.d⟩) fun _=>dj (P:=fun p:F2 × F2=>Mok (m+266) p.1/\Mok (m+266) p.2) (fun z=>⟨ht.up (by omega),Ck hr ht.z hm (fun y=>?_) h2⟩) fun _=>⟨⟨hs.a.mono (by omega),hk.a⟩,(Ck hr hs.a (MJ _) (OD _) hk.ab).up (by omega)⟩;exact QF (blt_iff.mp z) y
theorem tH {as st Q}(h:bY as st Q):az Γ eA (frame 3 as) st (aj st Q):=by
 obtain⟨m,r,t,rfl,hs,hk,zt,hm,hm2,h2,k⟩:=h;unfold bfF at k;unfold eA;walk_at "WP";refine⟨r,rfl,hs,?_⟩;walk_at "WP";cases e:blt r.d r.c with
 | true =>rw[MN e] at k;rw[MN rfl];exact .inl k
 | false =>
  rw[e,ML MA] at k;rw[ML MA];refine⟨_,_,rfl,hs.a.mono (by omega),zt.mono (by omega),?_⟩;cases e2:blt r.a t with
  | true =>rw[e2,MN rfl] at k;walk_at "WP";exact⟨m,r,t,rfl,hs,hk,zt,hm2,fun y=>QF (blt_iff.mp e2) y,h2,.inl k⟩
  | false =>rw[e2,ML MA] at k;walk_at "WP";exact⟨66,r,r.a,rfl,hs,hk,hs.a,by decide,OD _,hk.ab,.inl k⟩
theorem tU {as st Q}(h:bT as st Q):az Γ eo (frame 2 as) st (aj st Q):=by
 obtain⟨p,q,rfl,⟨z1,z2,z3,z4⟩,k⟩:=h;unfold ibF at k;unfold eo;walk_at "WP";refine u_ ?_;by_cases e:p.2=q.2
 ·rw[MN e] at k;rw[NF e,MN rfl];exact⟨_,_,rfl,z1.mono (by decide),z3.mono (by decide),.inl k⟩
 ·rw[ML e] at k;rw[NI e,ML MA];exact⟨_,_,rfl,z2.mono (by decide),z4.mono (by decide),.inl k⟩
def OkO (m:Nat)(o:Option (F2 × F2)):Prop:=∀p,o=some p->Mok m p.1/\Mok m p.2
theorem HG (hr:vL r)(ht:Mok m t)(hm:66<=m)(h:OkO (m+266) o):OkO (m+266) (soS t o r):=by
 unfold soS;refine dj (fun _=>h) fun e=>?_;have b:=Cf hr ht hm fun z=>e (blt_iff.mpr z);cases o with
 | none=>intro p e;cases e;exact b
 | some q=>exact dj (fun _ p e=>by cases e;exact b) fun _=>h
theorem A8 {L:List Rd}(hL:∀r∈L,vL r)(ht:Mok m t)(hm:66<=m):OkO (m+266) (soF L t) :=
 lG (fun _ e=>nomatch e) fun r hr _ h=>HG (hL r hr) ht hm h
def SoI (st:AH)(L:List Rd)(t:F2)(i:Nat)(ρ:Fr)(s:AH):Prop:=s=st/\∃a b c:Option PV,ρ=[some (.tup (L.map rdV)),some (.bl true),some (fr t),a,some (o2V ((L.take i).foldl (soS t) none)),b,c]
theorem yy {as st Q}(h:cS as st Q):az Γ fV (frame 7 as) st (aj st Q):=by
 obtain⟨m,L,t,rfl,hL,ct,zt,hm,hm2,k⟩:=h;unfold fV;walk_at "WP";refine for_by Γm (SoI st L t) ⟨rfl,_,_,_,rfl⟩ ?_ ?_
 ·rintro i v ρ s hi ⟨rfl,a,b,c,rfl⟩;refine⟨trivial,?_⟩;rw[MI] at hi;obtain⟨r,hq,rfl⟩:=MP.mp hi;have hr:=hL r (MT hq);have et:(L.take (i+1)).foldl (soS t) none=soS t ((L.take i).foldl (soS t) none) r:=by rw[N8,hq,P_];rfl
  have oo:OkO (m+266) ((L.take i).foldl (soS t) none):=A8 (fun r hr=>hL r (PH hr)) ⟨zt,ct⟩ hm;unfold SoI;rw[et];generalize (L.take i).foldl (soS t) none=o at *;unfold soS;walk_at "WP";refine⟨_,_,rfl,hr.1.b.mono (by decide),zt.mono (by omega),?_⟩;cases e:blt r.b t with
  | true=>walk_at "WP"
  | false =>
   have nb:=blt_no.mp e;have bo:=Cf hr ⟨zt,ct⟩ hm nb;walk_at "WP";refine⟨m,r,t,rfl,hr.1,hr.2,zt,hm,hm2,nb,?_⟩;walk_at "WP";cases o with
   | none =>simp only[o2V];walk_at "WP"
   | some q =>
    obtain⟨q1,q2⟩:=oo q rfl;simp only[o2V];walk_at "WP";refine⟨bfF r t,q,rfl,⟨bo.1.z.mono (by omega),bo.2.z.mono (by omega),q1.z.mono (by omega),q2.z.mono (by omega)⟩,?_⟩;walk_at "WP";cases e2:ibF (bfF r t) q with
    | true=>rw[MN rfl];rfl
    | false=>rw[ML MA];rfl
 ·rintro ρ s ⟨rfl,a,b,c,rfl⟩;refine⟨trivial,?_⟩;rw[ME,NX];walk_at "WP";exact .inl k
theorem DF {i:Nat}(h:(cH .keys (kd ps))[i]?=some x):∃p,ps[i]?=some p/\x=.str p.1:=by
 unfold cH kd at h;rw[MI,MI] at h;cases q:ps[i]? with
 | none=>rw[q] at h;cases h
 | some p=>rw[q] at h;cases h;exact⟨p,rfl,rfl⟩
theorem td {ps:List (Str × PV)}:(cH wk (kd ps)).length=ps.length:=by cases wk <;> simp[cH]
theorem qr:∀ {ps:List (Str × PV)}{p:Str × PV},(ps.map (·.1)).Nodup->p∈ps->bW (kd ps) (.inr p.1)=some p.2
 | [],p,_,h=>nomatch h
 | q::ps,p,hn,h=>by
  rw[MF,NO] at hn;by_cases e:q.1=p.1
  ·rcases NB.mp h with z|z
   ·subst z;simp[bW,kd]
   ·exact absurd (e ▸ MV.mpr ⟨p,z,rfl⟩) hn.1
  ·rcases NB.mp h with z|z
   ·subst z;exact absurd rfl e
   ·have:=qr hn.2 z;unfold bW kd at this |-
    rw[MF,List.find?_cons];have ne:decide ((Sum.inr q.1:Key)=Sum.inr p.1)=false:=NI fun z=>e (P8 z);simp only[ne];exact this
theorem qU {ps:List (Str × PV)}{z:Str}(h:z ∉ ps.map (·.1)):ie (kd ps) (.inr z) v=kd (ps++[(z,v)]):=by
 unfold ie;have:((kd ps).any fun kv=>decide (kv.1=(.inr z:Key)))=false:=by rw[List.any_eq_false];intro x hx;obtain⟨p,hp,rfl⟩:=MV.mp hx;simp only[decide_eq_true_eq];exact fun e=>h (MV.mpr ⟨p,hp,P8 e⟩)
 rw[this,ML MA];simp[kd]
theorem By {ps:List (Str × PV)}{z:Str}(h:z∈ps.map (·.1)):ie (kd ps) (.inr z) v=kd (ps.map fun p=>if p.1=z then (p.1,v) else p):=by
 unfold ie;have:((kd ps).any fun kv=>decide (kv.1=(.inr z:Key)))=true:=by rw[List.any_eq_true];obtain⟨p,hp,rfl⟩:=MV.mp h;exact⟨_,MV.mpr ⟨p,hp,rfl⟩,by simp⟩
 rw[this,MN rfl];unfold kd;rw[NG,NG];refine N9 fun p _=>?_;simp only[Function.comp,Sum.inr.injEq];by_cases e:p.1=z
 ·rw[MN e,MN e]
 ·rw[ML e,ML e]
theorem AZ {α:Type}:∀ {T:List (Str × α)}{r p:Str × α},(T.map (·.1)).Nodup->r∈T->p∈T->r.1=p.1->r=p
 | [],_,_,_,h,_,_=>nomatch h
 | q::T,r,p,hn,hr,hp,e=>by
  rw[MF,NO] at hn;rcases NB.mp hr with a|a
  ·rcases NB.mp hp with b|b
   ·rw[a,b]
   ·exact absurd (MV.mpr ⟨p,b,by rw[<-e,a]⟩) hn.1
  ·rcases NB.mp hp with b|b
   ·exact absurd (MV.mpr ⟨r,a,by rw[e,b]⟩) hn.1
   ·exact AZ hn.2 a b e
theorem yN {ps:List (Str × PV)}{z:Str}(h:z ∉ ps.map (·.1)):bW (kd ps) (.inr z)=none:=by unfold bW kd;rw[Option.map_eq_none_iff,O2];intro x hx e;obtain⟨p,hp,rfl⟩:=MV.mp hx;exact h (MV.mpr ⟨p,hp,P8 (N6 e)⟩)
theorem lu {α:Type}:∀ {T:List (Str × α)}{p:Str × α},(T.map (·.1)).Nodup->p∈T->(T.find? fun q=>decide (q.1=p.1))=some p:=fun {T p} hn hp=>by
 cases e:T.find? fun q=>decide (q.1=p.1) with
 | none=>exact absurd (NF rfl) (O2.mp e p hp)
 | some r =>have r1:=OA e;have r2:r.1=p.1:=N6 (p:=r.1=p.1) (QJ (p:=fun q:Str × α=>decide (q.1=p.1)) e);rw[AZ hn r1 hp r2]
theorem n_:∀ {l:List Str}{x:Str},PyProof.Rows.risingS x l=true->(x::l).Pairwise fun a b:Str=>a.cps.toList<=b.cps.toList
 | [],x,_=>List.pairwise_singleton _ _
 | y::l,x,h=>by
  rw[PyProof.Rows.risingS,MG,PyProof.Rows.ltCps_eq] at h;have le:x.cps.toList<=y.cps.toList:=List.not_lt.mp (by simpa using h.1);have pw:=n_ h.2;refine List.pairwise_cons.mpr ⟨fun z hz=>?_,pw⟩;rcases NB.mp hz with rfl|hz
  ·exact le
  ·exact List.le_trans le ((List.pairwise_cons.mp pw).1 z hz)
theorem qB {ss:List Str}(hp:ss.Perm l)(hs:PyProof.Rows.sortedS ss=true):srt l=ss:=by
 have pw:∀ {l:List Str},PyProof.Rows.sortedS l=true->l.Pairwise fun a b:Str=>a.cps.toList<=b.cps.toList:=fun {l} h=>by
  cases l with
  | nil=>exact .nil
  | cons x l=>exact n_ h
 obtain⟨h1,h2⟩:=Classical.epsilon_spec (p:=fun ss:List Str=>ss.Perm l/\PyProof.Rows.sortedS ss=true) ⟨ss,hp,hs⟩;exact List.Perm.eq_of_pairwise (fun a b _ _ h h'=>by have:=List.le_antisymm h h';obtain⟨⟨a⟩⟩:=a;obtain⟨⟨b⟩⟩:=b;cases this;rfl) (pw h2) (pw hs) (h1.trans hp.symm)
theorem yE {α:Type}{F:List (Str × α)}{a:α}{v:α->PV}:ie (kd (F.map fun p=>(p.1,v p.2))) (.inr z) (v a)=kd ((c_ F z a).map fun p=>(p.1,v p.2)):=by
 have e:(F.map fun p=>(p.1,v p.2)).map (·.1)=F.map (·.1):=by rw[NG];rfl
 unfold c_;by_cases h:z∈F.map (·.1)
 ·rw[MN h,By (by rw[e];exact h),NG,NG];congr 1;refine N9 fun p _=>?_;simp only[Function.comp];by_cases q:p.1=z
  ·rw[MN q,MN q]
  ·rw[ML q,ML q]
 ·rw[ML h,qU (by rw[e];exact h),NA];rfl
theorem AU {α:Type}{F:List (Str × α)}{a:α}{p:Str × α}(h:p∈c_ F z a):p∈F\/p=(z,a):=by
 unfold c_ at h;split at h
 ·obtain⟨q,hq,rfl⟩:=MV.mp h;split
  ·rename_i e;exact .inr (by rw[e])
  ·exact .inl hq
 ·rcases M9.mp h with h|h
  ·exact .inl h
  ·exact .inr (M1.mp h)
theorem Bi {α β:Type}{F:List (Str × α)}{a:α}{g:α->β}:(c_ F z a).map (fun p=>(p.1,g p.2))=c_ (F.map fun p=>(p.1,g p.2)) z (g a):=by
 have e:(F.map fun p=>(p.1,g p.2)).map (·.1)=F.map (·.1):=by rw[NG];rfl
 unfold c_;by_cases h:z∈F.map (·.1)
 ·rw[MN h,MN (by rw[e];exact h),NG,NG];refine N9 fun p _=>?_;simp only[Function.comp];by_cases q:p.1=z
  ·rw[MN q,MN q]
  ·rw[ML q,ML q]
 ·rw[ML h,ML (by rw[e];exact h),NA];rfl
theorem qQ {T:Tb}:(pv T).map (·.1)=T.map (·.1):=by rw[NG];rfl
theorem wg {G:Pap}:(gP G).map (·.1)=G.map (·.1):=by rw[NG];rfl
theorem tT {T:Tb}(nd:(T.map (·.1)).Nodup){p:Str × Te}(hp:p∈T):bW (kd (pv T)) (.inr p.1)=some (teV p.2):=qr (ps:=pv T) (p:=(p.1,teV p.2)) (by rw[qQ];exact nd) (MV.mpr ⟨p,hp,rfl⟩)
noncomputable def tk (T:Tb)(ss:List Str):Tb:=ss.filterMap fun z=>T.find? fun p=>decide (p.1=z)
theorem lE {T:Tb}{ss:List Str}{i:Nat}{p:Str × Te}(nd:(T.map (·.1)).Nodup)(hp:p∈T)(h:ss[i]?=some p.1):tk T (ss.take (i+1))=tk T (ss.take i)++[p]:=by unfold tk;rw[N8,h,O_];congr 1;simp only[Option.toList_some,List.filterMap_cons,List.filterMap_nil,lu nd hp]
theorem uZ {T:Tb}{ss:List Str}(hp:ss.Perm (T.map (·.1)))(hs:PyProof.Rows.sortedS ss=true):tk T ss=dA T:=by unfold dA tk;rw[qB hp hs]
theorem kh {as st Q}(h:aX as st Q):az Γ b7 (frame 9 as) st (aj st Q):=by obtain⟨m,e,ws,d,T,p,t,rfl,hd,hT,hp,ct,zt,hm,hm2,k⟩:=h;unfold b7;walk_at "WP";refine⟨_,.inl hd,_,tT hT.nd hp,?_⟩;walk_at "WP";refine⟨ws,rfl,m,p.2.rs,t,?_,hT.rs p hp,ct,zt,hm,hm2,.inl k⟩;rw[hT.wt p hp]
def CfI (st:AH)(T:Tb)(e:F2)(ws:List Str)(d:Nat)(z:Str)(t:F2)(ss:List Str)(i:Nat)(ρ:Fr)(s:AH):Prop:=∃a b:Option PV,s=st++[.lst (((tk T (ss.take i)).filterMap (cfO z t)).map sF),.lst (sV ss)] /\
 ρ=[some (bh e ws d),some (PV.str z),some (fr t),some (fr e),some (PV.tup (sV ws)),some (PV.ref d),some (PV.ref (List.length st)),a,b]
theorem get_last2 {st:AH}{a:Cell}:(st++[a,b])[st.length+1]?=some b:=by simp
theorem Ig {ss:List Str}:((tk T ss).filterMap (cfO z t)).length<=ss.length:=MY (N3 _ _) (N3 _ _)
theorem mE {as st Q}(h:ba as st Q):az Γ cM (frame 9 as) st (aj st Q):=by
 obtain⟨m,e,ws,d,T,y,t,rfl,hd,hT,ct,zt,hm,hm2,k⟩:=h;have ln:=hT.ln;unfold cM;walk_at "WP";refine⟨_,.inl (aR hd),T.map (·.1),by simp,by simp;omega,fun ss hp hso=>⟨_,ao get_last2,?_⟩⟩;have sl:ss.length<=5:=by rw[hp.length_eq,ME];exact ln
 refine for_by Γm (CfI st T e ws d y t ss) ⟨_,_,rfl,rfl⟩ ?_ ?_
 ·rintro i v ρ s hi ⟨a,b,rfl,rfl⟩;refine⟨get_last2.trans get_last2.symm,?_⟩;rw[MI] at hi;obtain⟨z,hz,rfl⟩:=MP.mp hi;have zm:z∈T.map (·.1):=hp.subset (MT hz);obtain⟨p,hpT,rfl⟩:=MV.mp zm;have et:=lE hT.nd hpT hz;have il:=(MC.mp hz).1;have hl:((tk T (ss.take i)).filterMap (cfO y t)).length<=5:=MY Ig (by rw[N5];omega);have hI:∀a b,CfI st T e ws d y t ss (i+1) [some (bh e ws d),some (PV.str y),some (fr t),some (fr e),some (PV.tup (sV ws)),some (PV.ref d),some (PV.ref (List.length st)),a,b] (st++[.lst (((tk T (ss.take i)).filterMap (cfO y t)++(cfO y t p).toList).map sF),.lst (sV ss)]):=fun a b=>⟨a,b,by rw[et,O_];simp only[List.filterMap_cons,List.filterMap_nil];cases cfO y t p <;> rfl,rfl⟩;generalize (tk T (ss.take i)).filterMap (cfO y t)=L at *;have hn0:(st++[Cell.lst (L.map sF),Cell.lst (sV ss)])[st.length]?=some (.lst (L.map sF)):=by rw[cC];rfl
  walk_at "WP";refine⟨_,.inl (aR hd),_,tT hT.nd hpT,?_⟩;walk_at "WP";refine iM (fun c=>?_) fun c=>?_
  ·refine⟨m,e,ws,d,T,p,t,rfl,aR hd,hT,hpT,ct,zt,hm,hm2,?_⟩;cases o:soF p.2.rs t with
   | none =>
    have:cfO y t p=none:=by unfold cfO;rw[MN c,o];rfl
    have hI:=hI (some (.str p.1)) (some .non);rw[this,Option.toList_none,OE] at hI;simp only[o2V];walk_at "WP";exact hI
   | some q =>
    have:cfO y t p=some (p.2.b,q.2,p.1):=by unfold cfO;rw[MN c,o];rfl
    have hI:=hI (some (.str p.1)) (some (f2V q));rw[this,Option.toList_some] at hI;simp only[o2V];walk_at "WP";refine⟨⟨_,cq hn0⟩,_,.inl (aR hd),_,tT hT.nd hpT,?_⟩;walk_at "WP";refine⟨by simp;omega,?_⟩;rw[List.set_append_right _ _ (MJ _),Nat.sub_self,P1];rw[NA] at hI;exact hI
  ·have:cfO y t p=none:=by unfold cfO;rw[ML c]
   have hI:=hI (some (.str p.1)) b;rw[this,Option.toList_none,OE] at hI;exact hI
 ·rintro ρ s ⟨a,b,rfl,rfl⟩;refine⟨get_last2.trans get_last2.symm,?_⟩;walk_at "WP";refine .inl (k _ _ Pre.refl.app (MJ _) ?_);rw[ME,NX,uZ hp hso,cC];rfl
theorem xq {G:Pap}(nd:(G.map (·.1)).Nodup){p:Str × F2 × Str}(hp:p∈G):at' G p.1=some p.2:=by unfold at';rw[lu nd hp];rfl
theorem JK {G:Pap}(nd:(G.map (·.1)).Nodup){p:Str × F2 × Str}(hp:p∈G):mo G p.1=p.2.1:=by unfold mo;rw[xq nd hp];rfl
theorem zi {G:Pap}(nd:(G.map (·.1)).Nodup){p:Str × F2 × Str}(hp:p∈G):bW (kd (gP G)) (.inr p.1)=some (.tup [fr p.2.1,.str p.2.2]):=qr (ps:=gP G) (p:=(p.1,.tup [fr p.2.1,.str p.2.2])) (by rw[wg];exact nd) (MV.mpr ⟨p,hp,rfl⟩)
def FoI (st:AH)(n:Nat)(G:Pap)(ss:List Str)(i:Nat)(ρ:Fr)(s:AH):Prop:=s=st++[.lst (sV ss)]/\(∀b,(ss.take i).foldl (foS G) none=some b->b∈G.map (·.1))/\∃x:Option PV,ρ=[some (.ref n),some (.gf "is_below"),some (foV ((ss.take i).foldl (foS G) none)),x]
theorem uN {as st Q}(h:bO as st Q):az Γ eY (frame 4 as) st (aj st Q):=by
 obtain⟨n,G,rfl,hn,nd,hz,hl,k⟩:=h;unfold eY;walk_at "WP";refine⟨_,.inl hn,G.map (·.1),by simp,by simp;omega,fun ss hp hso=>⟨_,ao get_last,?_⟩⟩;have hn2:(st++[Cell.lst (sV ss)])[n]?=some (.dk (kd (gP G))):=aR hn;refine for_by Γm (FoI st n G ss) ⟨rfl,fun b e=>(nomatch e),_,rfl⟩ ?_ ?_
 ·rintro i v ρ s hi ⟨rfl,hb,x,rfl⟩;refine⟨get_last.trans get_last.symm,?_⟩;rw[MI] at hi;obtain⟨z,hz',rfl⟩:=MP.mp hi;have zm:z∈G.map (·.1):=hp.subset (MT hz');have et:(ss.take (i+1)).foldl (foS G) none=foS G ((ss.take i).foldl (foS G) none) z:=by rw[N8,hz',P_];rfl
  unfold FoI;rw[et];generalize (ss.take i).foldl (foS G) none=o at *;obtain⟨p,hpG,rfl⟩:=MV.mp zm;cases o with
  | none =>simp only[foV];walk_at "WP";exact⟨fun b e=>by cases e;exact zm,rfl⟩
  | some b =>
   obtain⟨q,hqG,rfl⟩:=MV.mp (hb b rfl);simp only[foV];walk_at "WP";refine⟨_,.inl hn2,_,zi nd hpG,?_⟩;walk_at "WP";refine⟨_,.inl hn2,_,zi nd hqG,?_⟩;walk_at "WP";refine⟨_,_,rfl,(hz p hpG).mono (by decide),(hz q hqG).mono (by decide),?_⟩;walk_at "WP";have e:foS G (some q.1) p.1=if blt p.2.1 q.2.1=true then some p.1 else some q.1:=by show (if bl2 G p.1 q.1=true then some p.1 else some q.1)=_;unfold bl2;rw[xq nd hpG,xq nd hqG]
   rw[e];cases blt p.2.1 q.2.1 with
   | true=>rw[MN rfl,MN rfl];exact⟨fun b e=>by cases e;exact zm,rfl⟩
   | false=>rw[ML MA,ML MA];exact⟨hb,rfl⟩
 ·rintro ρ s ⟨rfl,hb,x,rfl⟩;refine⟨get_last.trans get_last.symm,?_⟩;walk_at "WP";rw[ME,NX];have:=k _ (Pre.refl.app (g:=[.lst (sV ss)])) (by rw[qB hp hso];exact hp);unfold foF at this;rw[qB hp hso] at this;exact .inl this
theorem HI {Γ':Nat->FSp}(G:aJ Γ'){D:aC}(P:Fr->AH->Prop)(h1:wpS Γ' s ρ st (nxE P))(h2:∀ρ' st',P ρ' st'->az Γ' ss ρ' st' D):az Γ' (.cons s ss) ρ st D:=by
 cases ss with
 | nil=>exact ej (D:=nxE P) G s ⟨fun ρ st z=>h2 ρ st z,fun _ _ z=>False.elim z,fun _ _ z=>False.elim z,fun _ _ z=>False.elim z⟩ h1
 | cons s2 ss=>exact ej (D:=nxE P) (D':=aft Γ' (.cons s2 ss) D) G s ⟨fun ρ st z=>h2 ρ st z,fun _ _ z=>False.elim z,fun _ _ z=>False.elim z,fun _ _ z=>False.elim z⟩ h1
structure PgI (P G:Pap)(m:Nat):Prop where
 nd:((P++G).map (·.1)).Nodup
 pl:∀x∈P++G,x.1∈PL
 mz:∀x∈P++G,Mok m x.2.1/\PyData.strOk x.2.2=true
structure PbS (st s:AH)(T:Tb)(z:Str)(t:F2)(i:Nat)(P G:Pap):Prop where
 it:itF T ([],[(z,t,"")]) i=(P,G)
 pre:Pre st s
 len:st.length+2<=s.length
 hp:s[st.length]?=some (.dk (kd (gP P)))
 hg:s[st.length+1]?=some (.dk (kd (gP G)))
 inv:PgI P G (66+266*i)
 ln:P.length=i
theorem wY:∀ {l m:List Str},l.Nodup->(∀x∈l,x∈m)->l.length<=m.length
 | [],_,_,_=>NV _
 | x::l,m,nd,h=>by obtain⟨n1,n2⟩:=NO.mp nd;have hx:=h x MQ;have:=wY (m:=m.erase x) n2 fun y hy=>(List.mem_erase_of_ne fun e=>n1 (by rw[<-e];exact hy)).mpr (h y (MM _ hy));rw[List.length_erase_of_mem hx] at this;have:=List.length_pos_of_mem hx;rw[NS];omega
theorem PgI.le (h:PgI P G m):P.length+G.length<=4:=by
 have:=wY h.nd (m:=PL) fun x hx=>by obtain⟨q,hq,rfl⟩:=MV.mp hx;exact h.pl q hq
 rw[ME,NU] at this;exact this
theorem DO {G:Pap}(h:G≠[])(hp:(srt (G.map (·.1))).Perm (G.map (·.1))):∃p∈G,foF G=some p.1:=by
 unfold foF;cases e:srt (G.map (·.1)) with
 | nil=>rw[e] at hp;exact absurd (List.map_eq_nil_iff.mp (List.nil_perm.mp hp)) h
 | cons w r =>
  rw[e] at hp;have m:∀y,y∈w::r->y∈G.map (·.1):=fun y hy=>hp.subset hy;have:=lG (f:=foS G) (P:=fun o=>∃p∈G,o=some p.1) (L:=r) (o:=some w) (by obtain⟨p,hp,e⟩:=MV.mp (m w MQ);exact⟨p,hp,by rw[e]⟩) fun y hy o ho=>by obtain⟨p,hp,rfl⟩:=ho;refine dj (P:=fun o=>∃p∈G,o=some p.1) (fun _=>?_) fun _=>⟨p,hp,rfl⟩;obtain⟨q,hq,e⟩:=MV.mp (m y (MM _ hy));exact⟨q,hq,by rw[e]⟩
  exact this
theorem oW:∀ {G:Pap}{p:Str × F2 × Str},(G.map (·.1)).Nodup->p∈G->G.Perm (p::ff G p.1)
 | [],_,_,h=>nomatch h
 | q::G,p,nd,h=>by
  rw[MF] at nd;obtain⟨n1,n2⟩:=NO.mp nd;by_cases e:q.1=p.1
  ·have hq:q=p:=AZ (T:=q::G) nd MQ h e;subst hq;have:ff (q::G) q.1=G:=by unfold ff;rw[O3 (by simp)];refine List.filter_eq_self.mpr fun x hx=>NF fun z=>n1 (MV.mpr ⟨x,hx,z⟩)
   rw[this]
  ·have hG:p∈G:=(NB.mp h).resolve_left fun z=>e (by rw[z]);have:ff (q::G) p.1=q::ff G p.1:=by unfold ff;rw[O4 (by simpa using e)]
   rw[this];exact((oW n2 hG).cons q).trans (List.Perm.swap _ _ _)
theorem PgI.perm {P' G':Pap}(h:PgI P G m)(p:(P++G).Perm (P'++G')):PgI P' G' m :=
 ⟨(p.map _).nodup_iff.mp h.nd,fun x hx=>h.pl x (p.mem_iff.mpr hx),fun x hx=>h.mz x (p.mem_iff.mpr hx)⟩
theorem PgI.up {m':Nat}(h:PgI P G m)(z:m<=m'):PgI P G m':=⟨h.nd,h.pl,fun x hx=>⟨(h.mz x hx).1.up z,(h.mz x hx).2⟩⟩
theorem PgI.ndG (h:PgI P G m):(G.map (·.1)).Nodup:=by have:=h.nd;rw[NA] at this;exact(NP.mp this).2.1
theorem PgI.ndP (h:PgI P G m):(P.map (·.1)).Nodup:=by have:=h.nd;rw[NA] at this;exact(NP.mp this).1
theorem PgI.no (h:PgI P G m){z:Str}(hz:z∈G.map (·.1)):z ∉ P.map (·.1):=fun hp=>by have:=h.nd;rw[NA] at this;exact(NP.mp this).2.2 z hp z hz rfl
theorem sM {P:Pap}{z:Str}(h:z ∉ P.map (·.1)):c_ P z a=P++[(z,a)]:=ML h
theorem PgI.take (h:PgI P G m){p:Str × F2 × Str}(hp:p∈G):PgI (c_ P p.1 p.2) (ff G p.1) m:=by rw[sM (h.no (MV.mpr ⟨p,hp,rfl⟩))];refine h.perm ?_;rw[N0];exact(oW h.ndG hp).append_left P
theorem PgI.rlx (h:PgI P G m){x:Row}(hx:x.1∈PL)(hz:Mok m x.2.1/\PyData.strOk x.2.2=true):PgI P (rlx P G x) m:=by
 unfold My.rlx;by_cases c:x.1∈P.map (·.1)
 ·rw[MN c];exact h
 ·rw[ML c];refine dj (P:=fun G=>PgI P G m) (fun _=>h) fun _=>?_;unfold c_;by_cases c2:x.1∈G.map (·.1)
  ·rw[MN c2];have ek:(G.map fun p=>if p.1=x.1 then (p.1,x.2) else p).map (·.1)=G.map (·.1):=by rw[NG];exact N9 fun p _=>by simp only[Function.comp];split <;> rfl
   have el:∀y∈P++(G.map fun p=>if p.1=x.1 then (p.1,x.2) else p),y∈P++G\/y=x:=fun y hy=>by
    rcases M9.mp hy with hy|hy
    ·exact .inl (NT _ hy)
    ·obtain⟨q,hq,rfl⟩:=MV.mp hy;split
     ·rename_i e;exact .inr (by rw[e])
     ·exact .inl (M7 _ hq)
   refine⟨by rw[NA,ek,<-NA];exact h.nd,fun y hy=>?_,fun y hy=>?_⟩
   ·rcases el y hy with z|rfl
    ·exact h.pl y z
    ·exact hx
   ·rcases el y hy with z|rfl
    ·exact h.mz y z
    ·exact hz
  ·rw[ML c2];have el:∀y∈P++(G++[(x.1,x.2)]),y∈P++G\/y=x:=fun y hy=>by
    rw[<-N0] at hy;rcases M9.mp hy with hy|hy
    ·exact .inl hy
    ·exact .inr (M1.mp hy)
   refine⟨?_,fun y hy=>?_,fun y hy=>?_⟩
   ·rw[<-N0,NA,NP];refine⟨h.nd,by simp,fun a ha b hb e=>?_⟩;simp only[List.map_cons,List.map_nil,List.mem_singleton] at hb;subst hb e;rw[NA] at ha;rcases M9.mp ha with ha|ha
    ·exact c ha
    ·exact c2 ha
   ·rcases el y hy with z|rfl
    ·exact h.pl y z
    ·exact hx
   ·rcases el y hy with z|rfl
    ·exact h.mz y z
    ·exact hz
theorem eJ {p:Str × Te}(h:p∈dA T):p∈T:=by obtain⟨z,_,e⟩:=NR.mp h;exact OA e
theorem Jw (hT:uv T ws)(ht:Mok m t)(hm:66<=m){x:Row}(hx:x∈cfF T z t):x.1∈PL/\Mok (m+266) x.2.1/\PyData.strOk x.2.2=true:=by
 obtain⟨p,hp,e⟩:=NR.mp hx;have hp:=eJ hp;unfold cfO at e;by_cases c:p.2.a=z
 ·rw[MN c] at e;obtain⟨o,ho,rfl⟩:=MP.mp e;exact⟨hT.pl p hp,(A8 (hT.rs p hp) ht hm o ho).2,hT.nm p hp⟩
 ·rw[ML c] at e;cases e
theorem Lw:tJ (kd (gP G)) (.inr z)=kd (gP (ff G z)):=by unfold tJ ff;rw[QK,QK];congr 2;refine List.filter_congr fun x _=>?_;simp only[Function.comp];exact decide_eq_decide.mpr ⟨fun h e=>h (by rw[e]),fun h e=>h (P8 e)⟩
theorem JO {a:F2 × Str}:ie (kd (gP G)) (.inr z) (.tup [fr a.1,.str a.2])=kd (gP (c_ G z a)):=yE (F:=G) (v:=fun a=>.tup [fr a.1,.str a.2])
theorem Jd:ΓP Γ a cs g 16=bO:=ML (by decide)
theorem Kp:ΓP Γ a cs g 4=aV:=ML (by decide)
theorem uj {G:Pap}:(bW (kd (gP G)) (.inr z)).isSome=decide (z∈G.map (·.1)):=by
 by_cases h:z∈G.map (·.1)
 ·rw[NF h];unfold bW;rw[OO,List.find?_isSome];obtain⟨p,hp,rfl⟩:=MV.mp h;exact⟨_,MV.mpr ⟨_,MV.mpr ⟨p,hp,rfl⟩,rfl⟩,NF rfl⟩
 ·rw[NI h,yN (by rw[wg];exact h)];rfl
noncomputable def pbF (z:Str)(t:F2)(a:Nat)(cs:List V)(e:F2)(ws:List Str)(d l:Nat)(A B C D:Option PV):Fr:=[some (.str z),some (fr t),some (.clo a cs [bh e ws d]),some (.gf "is_below"),some (.ref l),some (.ref (l+1)),A,B,C,D]
theorem xh {P:Pap}(h:itF T s0 i=(P,[])):∀j,itF T s0 (i+j)=(P,[])
 | 0=>h
 | j+1=>by show ir T (itF T s0 (i+j))=_;rw[xh h j];unfold ir;cases foF [] <;> rfl
theorem PbS.mono (h:PbS st s T z t i P G)(p:Pre s s'):PbS st s' T z t i P G:=⟨h.it,h.pre.trans p,MY h.len p.len,p.get h.hp,p.get h.hg,h.inv,h.ln⟩
def PbJ (st:AH)(T:Tb)(z:Str)(t:F2)(a:Nat)(cs:List V)(e:F2)(ws:List Str)(d m:Nat)(ρ:Fr)(s:AH):Prop:=∃i P G A B C D,PbS st s T z t i P G/\m=4-i/\ρ=pbF z t a cs e ws d st.length A B C D
def PbE (st:AH)(T:Tb)(z:Str)(t:F2)(a:Nat)(cs:List V)(e:F2)(ws:List Str)(d:Nat)(ρ:Fr)(s:AH):Prop:=∃i A B C D,PbS st s T z t i (ic T z t) []/\ρ=pbF z t a cs e ws d st.length A B C D
theorem Lz {G:Pap}(h:∀x∈G,PyData.strOk x.2.2=true):∀p∈kd (gP G),∃d,p.2.toD=some d/\SeqAt.shaped d=true:=fun p hp=>by obtain⟨q,hq,rfl⟩:=MV.mp hp;obtain⟨x,hx,rfl⟩:=MV.mp hq;exact⟨.tuple [.tuple [.int x.2.1.1,.int x.2.1.2],.str x.2.2],by simp[PV.toD,PV.toDs],by simp[SeqAt.shaped,PyData.canLay0,PyData.canLayAll0,PyData.depth,PyData.depthAll,h x hx]⟩
noncomputable abbrev m9:Tg:=(.tup (.cons (.name 7) (.cons (.name 8) (.cons (.name 9) .nil))))
noncomputable abbrev nW:Ss:=(.cons (.ifS (.bop true (.cons (.cmp .NotIn (.var 7) (.var 4)) (.cons (.bop false (.cons (.cmp .NotIn (.var 7) (.var 5)) (.cons (.pcg 3 4 "is_below" (.cons (.var 8) (.cons (.ix (.ix (.var 5) (.var 7)) (.int 0)) .nil))) .nil))) .nil))) (.cons (.set (.sub (.var 5) (.var 7)) (.tup (.cons (.var 8) (.cons (.var 9) .nil)))) .nil) .nil) .nil)
structure RlI (st:AH)(T:Tb)(z:Str)(t:F2)(a:Nat)(cs:List V)(e:F2)(ws:List Str)(d n:Nat)(P G:Pap)(L:List Row)(M j:Nat)(ρ:Fr)(s:AH):Prop where
 hp:s[st.length]?=some (.dk (kd (gP P)))
 hg:s[st.length+1]?=some (.dk (kd (gP ((L.take j).foldl (rlx P) G))))
 n:s[n]?=some (.lst (L.map sF))
 pre:Pre st s
 len:st.length+2<=s.length
 inv:PgI P ((L.take j).foldl (rlx P) G) M
 fr:∃A B C D,ρ=pbF z t a cs e ws d st.length A B C D
theorem Ei {M:Nat}{D:aC}(h:RlI st T z t a cs e ws d n P G L M j ρ s)(hn:st.length+2<=n)(hM:M<=2900)(hx:L[j]?=some x)(ok:x.1∈PL/\Mok M x.2.1/\PyData.strOk x.2.2=true) :
  bt (ΓP Γ a cs g) m9 (sF x) ρ s fun ρ2 st2=>az (ΓP Γ a cs g) nW ρ2 st2 (LD (RlI st T z t a cs e ws d n P G L M (j+1)) D):=by
 obtain⟨hp,hg,hn',pre,len,inv,A,B,C,D',rfl⟩:=h;have et:(L.take (j+1)).foldl (rlx P) G=rlx P ((L.take j).foldl (rlx P) G) x:=by rw[N8,hx,P_];rfl
 have up:=inv.rlx ok.1 ok.2;have go:∀s' A B C D',Pre st s'->s.length<=s'.length->s'[st.length]?=some (.dk (kd (gP P)))->s'[n]?=some (.lst (L.map sF))->s'[st.length+1]?=some (.dk (kd (gP (rlx P ((L.take j).foldl (rlx P) G) x))))->RlI st T z t a cs e ws d n P G L M (j+1) (pbF z t a cs e ws d st.length A B C D') s':=fun s' A B C D' a1 a2 a3 a4 a5=>⟨a3,by rw[et];exact a5,a4,a1,by omega,by rw[et];exact up,_,_,_,_,rfl⟩;generalize (L.take j).foldl (rlx P) G=G' at *;unfold rlx at go;unfold pbF;walk_at "WP";refine .inr ⟨_,.inl hp,?_⟩;have gl:=inv.le;have put:¬x.1∈P.map (·.1)->¬(x.1∈G'.map (·.1)/\blt x.2.1 (mo G' x.1)=false)->∀A B C D',∃kvs,s[st.length+1]?=some (.dk kvs)/\kvs.length<=1000/\RlI st T z t a cs e ws d n P G L M (j+1) (pbF z t a cs e ws d st.length A B C D') (s.set (st.length+1) (.dk (ie kvs (.inr x.1) (.tup [fr x.2.1,.str x.2.2])))):=fun c1 c2 A B C D'=>by refine⟨_,hg,by simp[kd,gP];omega,?_⟩;rw[JO];refine go _ _ _ _ _ (pre.setN (PF _)) (by rw[OF];exact MJ _) (by rw[MH (by omega)];exact hp) (by rw[MH (by omega)];exact hn') ?_;rw[ML c1,ML c2,MW (aB hg)]
 rw[uj];by_cases c1:x.1∈P.map (·.1)
 ·rw[NF c1];show ite _ _ _;rw[ML (by decide)];exact go s _ _ _ _ pre (MJ _) hp hn' (by rw[MN c1];exact hg)
 ·rw[NI c1];show ite _ _ _;rw[MN rfl];refine .inr ⟨_,.inl hg,?_⟩;rw[uj];by_cases c2:x.1∈G'.map (·.1)
  ·rw[NF c2];show ite _ _ _;rw[ML (by decide)];obtain⟨q,hq,eq⟩:=MV.mp c2;have em:mo G' x.1=q.2.1:=by rw[<-eq];exact JK inv.ndG hq
   refine⟨_,.inl hg,_,(by rw[<-eq];exact zi inv.ndG hq),?_⟩;walk_at "WP";rw[Kp];refine⟨_,_,rfl,ok.2.1.z.mono (by omega),(inv.mz q (M7 _ hq)).1.z.mono (by omega),?_⟩;walk_at "WP";cases eb:blt x.2.1 q.2.1 with
   | true =>rw[MN rfl];exact put c1 (fun z=>by rw[em,eb] at z;cases z.2) _ _ _ _
   | false =>rw[ML MA];exact go s _ _ _ _ pre (MJ _) hp hn' (by rw[ML c1,MN ⟨c2,by rw[em,eb]⟩];exact hg)
  ·rw[NI c2];show ite _ _ _;rw[MN rfl];exact put c1 (fun z=>c2 z.1) _ _ _ _
theorem uE {as st Q}(hx:∃x y ds z,as=[x,y,.clo a cs ds,z])(h:eQ as st Q):az (ΓP Γ a cs 18) eW (frame 10 as) st (aj st Q):=by
 obtain⟨a',us,e,ws,d,T,z,t,rfl,hd,hT,hz,ct,zt,k⟩:=h;obtain⟨_,_,_,_,e1⟩:=hx;cases e1;unfold eW;refine HI (gW Γm) (fun ρ s=>st++[.dk []]=s/\ρ=[some (.str z),some (fr t),some (.clo a cs [bh e ws d]),some (.gf "is_below"),some (.ref st.length),none,none,none,none,none]) (by walk_at "WPN") ?_;rintro _ _ ⟨rfl,rfl⟩;refine HI (gW Γm) (fun ρ s=>st++[.dk [],.dk (kd (gP [(z,t,"")]))]=s/\ρ=pbF z t a cs e ws d st.length none none none none) ?_ ?_
 ·walk_at "WPN";rfl
 rintro _ _ ⟨rfl,rfl⟩;refine HI (gW Γm) (PbE st T z t a cs e ws d) ?_ ?_
 ·unfold pbF;walk_at "WPN";refine FW.while_by (gW Γm) (PbJ st T z t a cs e ws d) (n:=4) ⟨0,[],[(z,t,"")],none,none,none,none,⟨rfl,Pre.refl.app,by simp,by rw [cC];rfl,by rw [eE (k:=1)];rfl,⟨by simp,by simpa using hz,by simp;exact ⟨⟨zt,ct⟩,by decide +kernel⟩⟩,rfl⟩,rfl,rfl⟩ ?_;rintro m ρ s ⟨i,P,G,A,B,C,D,hS,rfl,rfl⟩;unfold pbF;walk_at "WPN";have le:=hS.inv.le;have li:=hS.ln;by_cases hG:G=[]
  ·subst hG;have e4:itF T ([],[(z,t,"")]) 4=(P,[]):=by have:=xh hS.it (4-i);rwa [show i+(4-i)=4 by omega] at this
   have e5:ic T z t=P:=by unfold ic;rw[e4]
   refine .inl ⟨.inr ⟨_,_,rfl,rfl,.inr (.inl ⟨_,_,[],[],rfl,rfl,aR hS.hg,get_last,rfl,fun p hp=>(nomatch hp)⟩)⟩,i,A,B,C,D,?_,rfl⟩;rw[e5];exact hS.mono Pre.refl.app
  ·have M:66+266*i<=900:=by have:=PU.mpr hG;omega
   refine .inr ⟨⟨_,_,kd (gP G),[],rfl,rfl,aR hS.hg,get_last,Lz (fun x hx=>(hS.inv.mz x (M7 _ hx)).2),fun p hp=>(nomatch hp),.inl (by simpa using hG)⟩,?_⟩;rw[Jd];refine⟨_,G,rfl,aR hS.hg,hS.inv.ndG,fun x hx=>(hS.inv.mz x (M7 _ hx)).1.z.mono (by omega),by omega,fun s2 p2 hperm=>?_⟩;obtain⟨p,hp,efo⟩:=DO hG hperm;have h2:=hS.mono (Pre.refl.app.trans p2);rw[efo];simp only[foV];walk_at "WPN";refine⟨_,.inl h2.hg,_,zi h2.inv.ndG hp,?_⟩;have pm:p∈P++G:=M7 _ hp;obtain⟨pz,po⟩:=hS.inv.mz p pm;have pn:p.1 ∉ P.map (·.1):=hS.inv.no (MV.mpr ⟨p,hp,rfl⟩);have iv:=h2.inv.take hp;have e9:c_ P p.1 p.2=P++[(p.1,p.2)]:=sM pn;refine⟨_,h2.hp,by simp[kd,gP];omega,?_⟩;rw[JO];refine⟨_,(by rw[MH (by omega)];exact h2.hg),(by rw[uj];exact NF (MV.mpr ⟨p,hp,rfl⟩)),?_⟩;rw[Lw];have w1:((s2.set st.length (.dk (kd (gP (c_ P p.1 p.2))))).set (st.length+1) (.dk (kd (gP (ff G p.1)))))[st.length]?=some (.dk (kd (gP (c_ P p.1 p.2)))):=by rw[MH (by omega),MW (aB h2.hp)]
   have w2:((s2.set st.length (.dk (kd (gP (c_ P p.1 p.2))))).set (st.length+1) (.dk (kd (gP (ff G p.1)))))[st.length+1]?=some (.dk (kd (gP (ff G p.1)))):=MW (by rw[OF];exact aB h2.hg);have w3:Pre st ((s2.set st.length (.dk (kd (gP (c_ P p.1 p.2))))).set (st.length+1) (.dk (kd (gP (ff G p.1))))):=(h2.pre.setN (MJ _)).setN (PF _);have w4:st.length+2<=((s2.set st.length (.dk (kd (gP (c_ P p.1 p.2))))).set (st.length+1) (.dk (kd (gP (ff G p.1))))).length:=by rw[OF,OF];exact h2.len
   generalize (s2.set st.length (.dk (kd (gP (c_ P p.1 p.2))))).set (st.length+1) (.dk (kd (gP (ff G p.1))))=s4 at *;refine⟨a,cs,_,rfl,_,.inl w1,_,zi iv.ndP (p:=(p.1,p.2)) (by rw[e9];simp),?_⟩;walk_at "WPN";rw[Gg];refine⟨_,_,_,rfl,?_⟩;rw[Ij];refine⟨66+266*i,e,ws,d,T,p.1,p.2.1,rfl,w3.get hd,hT,pz.c,pz.z,by omega,by omega,fun n s5 p5 hn5 hL=>⟨_,ao hL,FW.for_by (gW Γm) (RlI st T z t a cs e ws d n (c_ P p.1 p.2) (ff G p.1) (cfF T p.1 p.2.1) (66+266*(i+1))) ⟨p5.get w1,p5.get w2,hL,w3.trans p5,MY w4 p5.len,iv.up (by omega),_,_,_,_,rfl⟩ ?_ ?_⟩⟩
   ·rintro j v ρ s hj hR;rw[MI] at hj;obtain⟨x,hxj,rfl⟩:=MP.mp hj;refine⟨hR.n.trans hL.symm,Ei hR (by omega) (by omega) hxj ?_⟩;have:=Jw hT pz (by omega) (MT hxj);exact⟨this.1,this.2.1.up (by omega),this.2.2⟩
   ·rintro ρ s hR;refine⟨hR.n.trans hL.symm,4-(i+1),?_,?_⟩
    ·have:=PU.mpr hG;omega
    rw[ME] at hR;obtain⟨q1,q2,q3,q4,q5,q6,A,B,C,D,rfl⟩:=hR;rw[NX] at q2 q6;refine⟨i+1,_,_,A,B,C,D,⟨?_,q4,q5,q1,q2,q6,by rw[e9];simp[li]⟩,rfl,rfl⟩;show ir T (itF T ([],[(z,t,"")]) i)=_;rw[hS.it];unfold ir;rw[show foF (P,G).2=some p.1 from efo];show (match at' G p.1 with|none=>(P,G)|some m=>_)=_;rw[xq hS.inv.ndG hp]
 rintro _ s ⟨i,A,B,C,D,hS,rfl⟩;unfold pbF;walk_at "WP";have li:=hS.ln;have le:=hS.inv.le;exact .inl (k _ _ hS.pre (MJ _) hS.hp fun x hx=>(hS.inv.mz x (NT _ hx)).1.up (by omega))
theorem vC {as st Q}(h:df as st Q):az Γ eS (frame 3 as) st (aj st Q):=by obtain⟨e,ws,d,T,z,t,rfl,hd,hT,hz,ct,zt,k⟩:=h;unfold eS;walk_at "WP";exact fun l us=>⟨l,us,e,ws,d,T,z,t,rfl,hd,hT,hz,ct,zt,fun n s a b c h=>.inl (k n s a b c h)⟩
theorem lI (h:at' G z=some a):(z,a)∈G:=by unfold at' at h;obtain⟨p,h1,rfl⟩:=MP.mp h;have:=QJ h1;have e:p.1=z:=N6 this;rw[<-e];exact OA h1
theorem qi:∀ {G:Pap}{y:Str},bW (kd (gP G)) (.inr y)=(at' G y).map fun a=>.tup [fr a.1,.str a.2]
 | [],_=>rfl
 | p::G,y=>by
  have ih:=qi (G:=G) (y:=y);unfold bW at' at ih |-
  simp only[List.map_cons,List.find?_cons];by_cases e:p.1=y
  ·simp[e]
  ·simp only[e,Sum.inr.injEq,decide_false];exact ih
theorem yA {as st Q}(h:cj as st Q):az Γ fO (frame 5 as) st (aj st Q):=by
 obtain⟨e,ws,d,T,z,y,t,rfl,hd,hT,hz,ct,zt,k⟩:=h;unfold fO;walk_at "WP";refine⟨e,ws,d,T,z,t,rfl,hd,hT,hz,ct,zt,fun n s p hn hs hm=>?_⟩;have kk:=k s p fun m e=>by obtain⟨a,ha,rfl⟩:=MP.mp e;exact hm _ (lI ha)
 walk_at "WP";refine .inr ⟨_,.inl hs,?_⟩;rw[qi,OO];cases e:at' (ic T z t) y with
 | none =>rw[e] at kk;exact .inl kk
 | some x =>rw[e] at kk;refine⟨_,.inl hs,_,by rw[qi,e];rfl,?_⟩;walk_at "WP";exact .inl kk
noncomputable def val (p:Nat × Nat):Rat:=(p.1:Rat)/(p.2:Rat)
theorem cF {d:Nat}(h:0<d):(0:Rat)<(d:Rat):=by have:((0:Nat):Rat)<(d:Rat):=Rat.natCast_lt_natCast.mpr h;simpa using this
theorem xF {d:Nat}(h:0<d):val (aZ n d)=(n:Rat)/(d:Rat):=by
 have c:=cf n d;have p:=bE (n:=n) h;unfold val;generalize aZ n d=z at *;have e:(z.1:Rat)*d=n*z.2:=by have:=NC (fun k:Nat=>(k:Rat)) c;simpa using this
 have p1:=cF p;have p2:=cF h;grind
theorem Ie {p:Nat × Nat}(hp:0<p.2):0<=val p:=by unfold val;rw[<-QV,Rat.div_lt_iff (cF hp),Rat.zero_mul,QV];exact Rat.natCast_nonneg
theorem f_ {p q:Nat × Nat}(hp:0<p.2)(hq:0<q.2):val (ax p q)=val p+val q:=by unfold ax;rw[xF (M3 hp hq)];unfold val;have p1:=cF hp;have p2:=cF hq;simp only[Rat.natCast_mul,Rat.natCast_add];grind
theorem AA {p q:Nat × Nat}(hp:0<p.2)(hq:0<q.2):p.1*q.2<q.1*p.2↔val p<val q:=by
 have p1:=cF hp;have p2:=cF hq;have e:(p.1*q.2<q.1*p.2)↔((p.1:Rat)*q.2<q.1*p.2):=by rw[<-Rat.natCast_lt_natCast];simp
 rw[e];unfold val;rw[Rat.div_lt_iff p1];have e2:(q.1:Rat)/q.2*p.2=q.1*p.2/q.2:=by grind
 rw[e2,Rat.lt_div_iff p2]
theorem A7 {p q:Nat × Nat}(hp:0<p.2)(hq:0<q.2):p.1*q.2<=q.1*p.2↔val p<=val q:=by rw[<-NW,<-QV,AA hq hp]
theorem DZ (hp:Cop p)(hq:Cop q)(h:val p=val q):p=q:=by refine hp.ext hq ?_;have a:=(A7 hp.pos hq.pos).mpr (by rw[h];exact Rat.le_refl);have b:=(A7 hq.pos hp.pos).mpr (by rw[h];exact Rat.le_refl);omega
theorem v8 {a b:Nat}(h:a=b):(a:Rat)=(b:Rat):=by rw[h]
theorem fD {p:F2}(h:0<p.2):(p.1:Rat)=val p*p.2:=by have:=cF h;unfold val;grind
theorem xm {f l c d t:F2}(pf:0<f.2)(pl:0<l.2)(pc:0<c.2)(pd:0<d.2)(pt:0<t.2)(tf:¬bb t f)(lt:¬bb l t)(h0:0<(l.1*t.2-t.1*l.2)*f.2+(t.1*f.2-f.1*t.2)*l.2):val (k7 f l c d t)*(val l-val f)=val c*(val l-val t)+val d*(val t-val f):=by
 have le1:f.1*t.2<=t.1*f.2:=NW.mp tf;have le2:t.1*l.2<=l.1*t.2:=NW.mp lt;have p0:0<c.2*d.2*((l.1*t.2-t.1*l.2)*f.2+(t.1*f.2-f.1*t.2)*l.2):=M3 (M3 pc pd) h0;unfold k7;rw[xF p0];have q0:=cF p0;obtain⟨x,hx⟩:∃x,t.1*f.2=f.1*t.2+x:=⟨t.1*f.2-f.1*t.2,by omega⟩;obtain⟨w,hw⟩:∃w,l.1*t.2=t.1*l.2+w:=⟨l.1*t.2-t.1*l.2,by omega⟩;have ex:t.1*f.2-f.1*t.2=x:=by omega
 have ew:l.1*t.2-t.1*l.2=w:=by omega
 rw[ex,ew] at q0 |-
 have cx:=v8 hx;have cw:=v8 hw;simp only[Rat.natCast_mul,Rat.natCast_add] at cx cw q0 |-
 rw[fD pf,fD pt] at cx;rw[fD pl,fD pt] at cw;rw[fD pc,fD pd];have r1:=cF pf;have r2:=cF pl;have r3:=cF pc;have r4:=cF pd;have r5:=cF pt;generalize val f=F at *;generalize val l=L at *;generalize val c=C at *;generalize val d=D at *;generalize val t=T at *;generalize (f.2:Rat)=f2 at *;generalize (l.2:Rat)=l2 at *;generalize (c.2:Rat)=c2 at *;generalize (d.2:Rat)=d2 at *;generalize (t.2:Rat)=t2 at *;generalize (x:Rat)=X at *;generalize (w:Rat)=W at *;have e1:X=(T-F)*(t2*f2):=by grind
 have e2:W=(L-T)*(t2*l2):=by grind
 subst e1 e2;have n:c2*d2*((L-T)*(t2*l2)*f2+(T-F)*(t2*f2)*l2)=c2*d2*t2*f2*l2*(L-F):=by grind
 have m:C*c2*d2*((L-T)*(t2*l2)*f2)+D*d2*c2*((T-F)*(t2*f2)*l2)=c2*d2*t2*f2*l2*(C*(L-T)+D*(T-F)):=by grind
 rw[n] at q0 |-
 rw[m];generalize c2*d2*t2*f2*l2=K at *;generalize C*(L-T)+D*(T-F)=E at *;generalize L-F=Z at *;grind
theorem pO {p q:F2}(hp:0<p.2)(hq:0<q.2):bb p q↔val p<val q:=AA hp hq
theorem iQ {p q y:F2}(hp:0<p.2)(hq:0<q.2)(hy:0<y.2):blt (ax p y) (ax q y)=blt p q:=by rw[OM,blt_iff,blt_iff];exact jb hp hq hy
theorem xB {p q y:F2}(hp:Cop p)(hq:Cop q)(hy:0<y.2):ax p y=ax q y↔p=q:=by refine⟨fun h=>?_,fun h=>by rw[h]⟩;have a:=(xD hp hy).2;have b:=(xD hq hy).2;rw[h] at a;exact a.symm.trans b
theorem GH {t y:F2}(hk:RdK r)(ct:Cop t)(hy:0<y.2)(h1:¬bb t r.a)(h2:¬bb r.b t):cbF (shR y r) (ax t y)=ax (cbF r t) y:=by
 unfold cbF shR;show (if ax r.a y=ax r.b y then ax r.c y else k7 (ax r.a y) (ax r.b y) (ax r.c y) (ax r.d y) (ax t y))=_;by_cases e:r.a=r.b
 ·rw[MN e,MN (by rw[e])]
 ·rw[ML e,ML fun z=>e ((xB hk.a hk.b hy).mp z)];have fl:bb r.a r.b:=NY fun z=>e (hk.a.ext hk.b (PQ (NW.mp hk.ab) (NW.mp z)));have pa:=hk.a.pos;have pb:=hk.b.pos;have pc:=hk.c.pos;have pd:=hk.d.pos;have pt:=ct.pos;have qa:=(bF pa hy).pos;have qb:=(bF pb hy).pos;have qc:=(bF pc hy).pos;have qd:=(bF pd hy).pos;have qt:=(bF pt hy).pos;have n1:=lH pa pb pt h1 h2 fl;have g1:¬bb (ax t y) (ax r.a y):=fun z=>h1 ((jb pt pa hy).mp z);have g2:¬bb (ax r.b y) (ax t y):=fun z=>h2 ((jb pb pt hy).mp z);have n2:=lH qa qb qt g1 g2 ((jb pa pb hy).mpr fl);have v1:=xm pa pb pc pd pt h1 h2 n1;have v2:=xm qa qb qc qd qt g1 g2 n2;have cs1:Cop (k7 r.a r.b r.c r.d t):=.low (M3 (M3 pc pd) n1);have cs2:Cop (k7 (ax r.a y) (ax r.b y) (ax r.c y) (ax r.d y) (ax t y)):=.low (M3 (M3 qc qd) n2);refine DZ cs2 (bF cs1.pos hy) ?_;rw[f_ cs1.pos hy];rw[f_ pa hy,f_ pb hy,f_ pc hy,f_ pd hy,f_ pt hy] at v2;have lt:=(pO pa pb).mp fl;generalize val (k7 r.a r.b r.c r.d t)=S1 at *;generalize val (k7 (ax r.a y) (ax r.b y) (ax r.c y) (ax r.d y) (ax t y))=S2 at *;generalize val r.a=F at *;generalize val r.b=L at *;generalize val r.c=C at *;generalize val r.d=D at *;generalize val t=T at *;generalize val y=Y at *;have z:L-F≠0:=by grind
  have:S2*(L-F)=(S1+Y)*(L-F):=by grind
  grind
noncomputable def sh2 (y:F2)(p:F2 × F2):F2 × F2:=(ax p.1 y,ax p.2 y)
theorem Ax {t:F2}(hk:RdK r)(ct:Cop t)(h1:¬bb t r.a)(h2:¬bb r.b t):Cop (cbF r t):=by
 unfold cbF;by_cases e:r.a=r.b
 ·rw[MN e];exact hk.c
 ·rw[ML e];have fl:bb r.a r.b:=NY fun z=>e (hk.a.ext hk.b (PQ (NW.mp hk.ab) (NW.mp z)));exact .low (M3 (M3 hk.c.pos hk.d.pos) (lH hk.a.pos hk.b.pos ct.pos h1 h2 fl))
theorem CC {t:F2}(hk:RdK r)(ct:Cop t)(h2:¬bb r.b t):Cop (bfF r t).1/\Cop (bfF r t).2:=by unfold bfF;refine dj (P:=fun p:F2 × F2=>Cop p.1/\Cop p.2) (fun _=>⟨hk.b,hk.d⟩) fun _=>dj (P:=fun p:F2 × F2=>Cop p.1/\Cop p.2) (fun z=>⟨ct,Ax hk ct (fun y=>?_) h2⟩) fun _=>⟨hk.a,Ax hk hk.a (OD _) hk.ab⟩;exact QF (blt_iff.mp z) y
theorem KQ {t y:F2}(hk:RdK r)(ct:Cop t)(hy:0<y.2)(h2:¬bb r.b t):bfF (shR y r) (ax t y)=sh2 y (bfF r t):=by
 unfold bfF;have e1:blt (shR y r).d (shR y r).c=blt r.d r.c:=iQ hk.d.pos hk.c.pos hy;have e2:blt (shR y r).a (ax t y)=blt r.a t:=iQ hk.a.pos ct.pos hy;rw[e1,e2];cases blt r.d r.c with
 | true=>rfl
 | false =>
  rw[ML MA,ML MA];cases z:blt r.a t with
  | true =>rw[MN rfl,MN rfl,GH hk ct hy (fun y=>QF (blt_iff.mp z) y) h2];rfl
  | false =>rw[ML MA,ML MA];show (ax r.a y,cbF (shR y r) (ax r.a y))=_;rw[GH hk hk.a hy (OD _) hk.ab];rfl
def CpO (o:Option (F2 × F2)):Prop:=∀p,o=some p->Cop p.1/\Cop p.2
theorem Kz {p q:F2 × F2}{y:F2}(hp:Cop p.1/\Cop p.2)(hq:Cop q.1/\Cop q.2)(hy:0<y.2):ibF (sh2 y p) (sh2 y q)=ibF p q:=by
 unfold ibF sh2;show (if ax p.2 y=ax q.2 y then blt (ax p.1 y) (ax q.1 y) else blt (ax p.2 y) (ax q.2 y))=_;rw[iQ hp.1.pos hq.1.pos hy,iQ hp.2.pos hq.2.pos hy];by_cases e:p.2=q.2
 ·rw[MN e,MN (by rw[e])]
 ·rw[ML e,ML fun z=>e ((xB hp.2 hq.2 hy).mp z)]
theorem AB {t:F2}(hk:RdK r)(ct:Cop t)(h:CpO o):CpO (soS t o r):=by
 unfold soS;refine dj (fun _=>h) fun e=>?_;have b:=CC hk ct fun z=>e (blt_iff.mpr z);cases o with
 | none=>intro p e;cases e;exact b
 | some q=>exact dj (fun _ p e=>by cases e;exact b) fun _=>h
theorem Hw {t y:F2}(hk:RdK r)(ct:Cop t)(hy:0<y.2)(h:CpO o):soS (ax t y) (o.map (sh2 y)) (shR y r)=(soS t o r).map (sh2 y):=by
 unfold soS;have e1:blt (shR y r).b (ax t y)=blt r.b t:=iQ hk.b.pos ct.pos hy;rw[e1];cases z:blt r.b t with
 | true=>rfl
 | false =>
  have nb:=blt_no.mp z;rw[ML MA,ML MA,KQ hk ct hy nb];cases o with
  | none=>rfl
  | some q =>show (if ibF (sh2 y (bfF r t)) (sh2 y q)=true then some (sh2 y (bfF r t)) else some (sh2 y q))=Option.map (sh2 y) (if ibF (bfF r t) q=true then some (bfF r t) else some q);rw[Kz (CC hk ct nb) (h q rfl) hy];cases ibF (bfF r t) q <;> rfl
theorem Be {t y:F2}(ct:Cop t)(hy:0<y.2):∀ {L:List Rd}{o:Option (F2 × F2)},(∀r∈L,RdK r)->CpO o->(L.map (shR y)).foldl (soS (ax t y)) (o.map (sh2 y))=(L.foldl (soS t) o).map (sh2 y)
 | [],_,_,_=>rfl
 | r::L,o,h,ho=>by have hk:=h r MQ;rw[MF,O0,O0,Hw hk ct hy ho];exact Be ct hy (fun x hx=>h x (MM _ hx)) (AB hk ct ho)
theorem Kc {L:List Rd}{t y:F2}(ct:Cop t)(hy:0<y.2)(h:∀r∈L,RdK r):soF (L.map (shR y)) (ax t y)=(soF L t).map (sh2 y):=Be ct hy h (o:=none) fun _ e=>nomatch e
theorem Ky {L:List Rd}{t:F2}(ct:Cop t)(h:∀r∈L,RdK r):CpO (soF L t):=lG (P:=CpO) (fun _ e=>nomatch e) fun r hr _ ho=>AB (h r hr) ct ho
theorem wJ {L:List Rd}:∀ {L0:List Rd},(∀r∈L0,blt r.b t=true)->soF (L0++L) t=soF L t
 | [],_=>rfl
 | r::L0,h=>by
  have:soS t none r=none:=by unfold soS;rw[h r MQ,MN rfl]
  unfold soF;rw[QC,O0,this];exact wJ fun x hx=>h x (MM _ hx)
theorem J7 {y:F2}(h:RdK r)(hy:0<y.2):RdK (shR y r):=⟨bF h.a.pos hy,bF h.b.pos hy,bF h.c.pos hy,bF h.d.pos hy,fun z=>h.ab ((jb h.b.pos h.a.pos hy).mp z)⟩
theorem tE {n:Nat}{day:F2}(hd:0<day.2):0<(bM (n,1) day).2:=(rW (p:=(n,1)) Nat.one_pos hd).pos
theorem qF {L:List Rd}{day:F2}(hL:∀r∈L,RdK r)(hd:0<day.2):∀n,∀r∈dY L day n,RdK r
 | 0,_,h=>nomatch h
 | n+1,r,h=>by
  rcases M9.mp h with h|h
  ·exact qF hL hd n r h
  ·obtain⟨q,hq,rfl⟩:=MV.mp h;exact J7 (hL q hq) (tE hd)
theorem yF {day:F2}(hd:0<day.2):bM (0,1) day=(0,1):=by unfold bM;simp[aZ,Nat.gcd_zero_left,Nat.div_self hd]
theorem gQ {p:F2}(hp:Cop p):ax p (0,1)=p:=by
 have:ax p (0,1)=aZ p.1 p.2:=by unfold ax;simp
 rw[this,hp.self]
theorem yx {n:Nat}{day:F2}(hd:0<day.2):ax (bM (n,1) day) day=bM (n+1,1) day:=by unfold bM;rw[q_ (M3 Nat.one_pos hd) hd];refine qx (M3 (M3 Nat.one_pos hd) hd) (M3 Nat.one_pos hd) ?_;show (n*day.1*day.2+day.1*(1*day.2))*(1*day.2)=(n+1)*day.1*(1*day.2*day.2);grind
theorem CS {n:Nat}{day:F2}(h:RdK r)(hd:0<day.2):shR day (shR (bM (n,1) day) r)=shR (bM (n+1,1) day) r:=by unfold shR;have q:=tE (n:=n) hd;rw[fQ h.a.pos q hd,fQ h.b.pos q hd,fQ h.c.pos q hd,fQ h.d.pos q hd,yx hd]
theorem Bh {day:F2}(h:RdK r)(hd:0<day.2):shR (bM (0,1) day) r=r:=by unfold shR;rw[yF hd,gQ h.a,gQ h.b,gQ h.c,gQ h.d]
theorem o_ {L:List Rd}{day:F2}(hL:∀r∈L,RdK r)(hd:0<day.2):∀n,dY L day (n+1)=L++(dY L day n).map (shR day)
 | 0=>by show []++L.map (shR (bM (0,1) day))=L++[];rw[List.nil_append,OE];exact(N9 fun r hr=>Bh (hL r hr) hd).trans (List.map_id L)
 | n+1=>by show dY L day (n+1)++L.map (shR (bM (n+1,1) day))=L++(dY L day n++L.map (shR (bM (n,1) day))).map (shR day);rw[o_ hL hd n,N0,NA,NG];congr 2;exact N9 fun r hr=>(CS (hL r hr) hd).symm
noncomputable def shA (y:F2)(a:F2 × Str):F2 × Str:=(ax a.1 y,a.2)
noncomputable def shG (y:F2)(G:Pap):Pap:=G.map fun p=>(p.1,shA y p.2)
theorem w9 {G:Pap}:(shG y G).map (·.1)=G.map (·.1):=by unfold shG;rw[NG];rfl
theorem Hx {t day:F2}{n:Nat}{p:Str × Te}(ct:Cop t)(hd:0<day.2)(hp:∀r∈p.2.rs,RdK r)(ha:again ws day p.2=true):cfO z (ax t day) (mvT day (n+1) p)=(cfO z t (mvT day n p)).map fun x=>(x.1,shA day x.2):=by
 unfold cfO mvT;by_cases c:p.2.a=z
 ·rw[MN c,MN c];show Option.map _ (soF (dY p.2.rs day (n+1)) (ax t day))=Option.map _ (Option.map _ (soF (dY p.2.rs day n) t));rw[o_ hp hd n,wJ,Kc ct hd (qF hp hd n),P5,P5]
  ·rfl
  ·intro r hr;unfold again at ha;rw[MG] at ha;have:=QE.mp ha.2 r hr;rw[blt_iff] at this |-
   have pr:=(hp r hr).b.pos;rw[pO pr hd] at this;rw[pO pr (bF ct.pos hd).pos,f_ ct.pos hd];have:=Ie ct.pos;grind
 ·rw[ML c,ML c];rfl
theorem tm {f:Str × Te->Str × Te}(hf:∀p,(f p).1=p.1){S:Tb}:dA (S.map f)=(dA S).map f:=by
 unfold dA;have:(S.map f).map (·.1)=S.map (·.1):=by rw[NG];exact N9 fun p _=>hf p
 rw[this,List.map_filterMap];congr 1;funext z;rw[List.find?_map];congr 2;funext p;simp only[Function.comp,hf]
structure GdT (ws:List Str)(day:F2)(S:Tb):Prop where
 k:∀p∈S,∀r∈p.2.rs,RdK r
 a:∀p∈S,again ws day p.2=true
theorem IP {S:Tb}{t day:F2}{n:Nat}(ct:Cop t)(hd:0<day.2)(g:GdT ws day S):cfF (S.map (mvT day (n+1))) z (ax t day)=(cfF (S.map (mvT day n)) z t).map fun x=>(x.1,shA day x.2):=by
 unfold cfF;rw[tm (f:=mvT day (n+1)) (fun _=>rfl),tm (f:=mvT day n) (fun _=>rfl),PZ,PZ,List.map_filterMap];have:∀ {L:Tb},(∀p∈L,p∈S)->L.filterMap (cfO z (ax t day) ∘ mvT day (n+1))=L.filterMap fun p=>((cfO z t ∘ mvT day n) p).map fun x=>(x.1,shA day x.2):=fun {L} h=>by
  induction L with
  | nil=>rfl
  | cons p L ih =>have hp:=h p MQ;rw[ND,ND,ih fun q hq=>h q (MM _ hq)];simp only[Function.comp];rw[Hx ct hd (g.k p hp) (g.a p hp)]
 exact this fun p hp=>eJ hp
theorem Hc {S:Tb}{z:Str}{t day:F2}{n:Nat}(ct:Cop t)(hd:0<day.2)(g:GdT ws day S):∀x∈cfF (S.map (mvT day n)) z t,Cop x.2.1:=fun x hx=>by
 obtain⟨p,hp,e⟩:=NR.mp hx;obtain⟨q,hq,rfl⟩:=MV.mp (eJ hp);unfold cfO at e;by_cases c:(mvT day n q).2.a=z
 ·rw[MN c] at e;obtain⟨o,ho,rfl⟩:=MP.mp e;exact(Ky ct (qF (g.k q hq) hd n) o ho).2
 ·rw[ML c] at e;cases e
theorem pI:∀ {G:Pap}{z:Str},at' (shG y G) z=(at' G z).map (shA y)
 | [],_=>rfl
 | p::G,z=>by
  have ih:=pI (y:=y) (G:=G) (z:=z);unfold at' shG at ih |-
  simp only[List.map_cons,List.find?_cons];by_cases e:p.1=z
  ·simp[e]
  ·simp only[e,decide_false];exact ih
abbrev CpG (G:Pap):Prop:=∀x∈G,Cop x.2.1
theorem Hi {y:F2}(hy:0<y.2)(h:CpG G):bl2 (shG y G) z b=bl2 G z b:=by
 unfold bl2;rw[pI,pI];cases e1:at' G z with
 | none=>rfl
 | some a =>
  cases e2:at' G b with
  | none=>rfl
  | some c=>exact iQ (h _ (lI e1)).pos (h _ (lI e2)).pos hy
theorem KD {y:F2}(hy:0<y.2)(h:CpG G):foF (shG y G)=foF G:=by
 unfold foF;rw[w9];congr 1;funext o z;unfold foS;cases o with
 | none=>rfl
 | some b=>simp only[Hi hy h]
theorem C8:ff (shG y G) z=shG y (ff G z):=by unfold ff shG;rw[QK];rfl
theorem qu:c_ (shG y G) z (shA y a)=shG y (c_ G z a):=(Bi (g:=shA y)).symm
theorem HL {y:F2}{x:Row}(hy:0<y.2)(h:CpG G)(hx:Cop x.2.1):rlx (shG y P) (shG y G) (x.1,shA y x.2)=shG y (rlx P G x):=by
 unfold rlx;simp only[w9];by_cases c:x.1∈P.map (·.1)
 ·rw[MN c,MN c]
 ·rw[ML c,ML c];have e:x.1∈G.map (·.1)->blt (shA y x.2).1 (mo (shG y G) x.1)=blt x.2.1 (mo G x.1):=fun hm=>by
   unfold mo;rw[pI];cases e1:at' G x.1 with
   | none =>exfalso;unfold at' at e1;rw[Option.map_eq_none_iff,O2] at e1;obtain⟨p,hp,e2⟩:=MV.mp hm;exact e1 p hp (NF e2)
   | some a=>exact iQ hx.pos (h _ (lI e1)).pos hy
  by_cases m:x.1∈G.map (·.1)
  ·rw[e m];by_cases b:blt x.2.1 (mo G x.1)=false
   ·rw[MN ⟨m,b⟩,MN ⟨m,b⟩]
   ·rw[ML fun z=>b z.2,ML fun z=>b z.2,qu]
  ·rw[ML fun z=>m z.1,ML fun z=>m z.1,qu]
theorem D3 {a:F2 × Str}(h:CpG G)(ha:Cop a.1):CpG (c_ G z a):=fun x hx=>by
 rcases AU hx with hx|rfl
 ·exact h x hx
 ·exact ha
theorem Iq {x:Row}(h:CpG G)(hx:Cop x.2.1):CpG (rlx P G x):=by unfold rlx;exact dj (P:=CpG) (fun _=>h) fun _=>dj (P:=CpG) (fun _=>h) fun _=>D3 h hx
theorem vR {y:F2}(hy:0<y.2):∀ {L:List Row}{G:Pap},CpG G->(∀x∈L,Cop x.2.1)->(L.map fun x=>(x.1,shA y x.2)).foldl (rlx (shG y P)) (shG y G)=shG y (L.foldl (rlx P) G)/\CpG (L.foldl (rlx P) G)
 | [],_,h,_=>⟨rfl,h⟩
 | x::L,G,h,hL=>by have hx:=hL x MQ;rw[MF,O0,O0,HL hy h hx];exact vR hy (Iq h hx) fun q hq=>hL q (MM _ hq)
theorem EA {S:Tb}{z:Str}{t day:F2}{n:Nat}(ct:Cop t)(hd:0<day.2)(g:GdT ws day S):∀i,itF (S.map (mvT day (n+1))) ([],[(z,ax t day,"")]) i=(shG day (itF (S.map (mvT day n)) ([],[(z,t,"")]) i).1,shG day (itF (S.map (mvT day n)) ([],[(z,t,"")]) i).2)/\CpG (itF (S.map (mvT day n)) ([],[(z,t,"")]) i).2
 | 0=>⟨rfl,fun x hx=>by rw[M1.mp hx];exact ct⟩
 | i+1=>by
  obtain⟨ih,h2⟩:=EA ct hd g (z:=z) (n:=n) i;show ir _ (itF _ _ i)=(shG day (ir _ (itF _ _ i)).1,shG day (ir _ (itF _ _ i)).2)/\CpG (ir _ (itF _ _ i)).2;rw[ih];generalize itF (S.map (mvT day n)) ([],[(z,t,"")]) i=s at *;unfold ir;rw[show foF (shG day s.1,shG day s.2).2=foF s.2 from KD hd h2];cases e1:foF s.2 with
  | none=>exact⟨rfl,h2⟩
  | some w =>
   simp only[pI];cases e2:at' s.2 w with
   | none=>exact⟨rfl,h2⟩
   | some m =>have cm:Cop m.1:=h2 _ (lI e2);have hdel:CpG (ff s.2 w):=fun x hx=>h2 x (QG.mp hx).1;have q:=vR (y:=day) (P:=c_ s.1 w m) hd hdel (Hc (n:=n) (z:=w) cm hd g);simp only[Option.map_some];refine⟨?_,q.2⟩;rw[<-q.1,<-IP cm hd g,C8,<-qu];rfl
theorem Hm {S:Tb}{t day:F2}{n:Nat}(ct:Cop t)(hd:0<day.2)(g:GdT ws day S)(y:Str):at' (ic (S.map (mvT day (n+1))) z (ax t day)) y=(at' (ic (S.map (mvT day n)) z t) y).map (shA day):=by unfold ic;rw[(EA ct hd g 4).1];exact pI
theorem uf {as st Q}(h:cy as st Q):az Γ e_ (frame 3 as) st (aj st Q):=by
 obtain⟨ns,m,rfl,hl,hm,k⟩:=h;unfold e_;refine a8 (fun ρ s=>st=s/\∃c:Int,ρ=[some (.rdl (ns.map .int)),some (.int m),some (.int c)]) ?_ ?_
 ·walk_at "WPN";rw[ME];by_cases hk:m<ns.length
  ·rw[MN (by omega)];exact⟨_,Ba hk,_,rfl⟩
  ·rw[ML (by omega)];trivial
 rintro _ _ ⟨rfl,z,rfl⟩;walk_at "WP";refine⟨K6,Fk (by decide) (by decide),wF (by decide) (by decide),.inl (k _ _ ⟨?_,by omega,by omega⟩)⟩;split <;> omega
theorem rR {as st Q}(h:bA as st Q):az Γ dU (frame 3 as) st (aj st Q):=by
 obtain⟨p,many,rfl,⟨q,r,hp,hq,hr0,hr1⟩,hm,hm2,k⟩:=h;have g0:Gr st p st:=.refl ⟨q,r,hp,hq,hr0,hr1⟩;unfold dU;walk_at "WP";refine⟨_,ao hp,_,ow,?_⟩;walk_at "WP";by_cases hz:0<q
 ·rw[MN hz];refine⟨_,ao hp,_,ow,?_⟩;walk_at "WP";refine⟨vX hm hm2,_,hp,0,rfl,?_⟩;exact .inl (k _ _ (PR _ (by omega)) (P6 _ hm) (g0.set ⟨Int.ediv_nonneg (by omega) (by omega),hr0,hr1⟩))
 ·rw[ML hz];refine⟨_,ao hp,_,lS,?_⟩;walk_at "WP";refine⟨Fk (by decide) (by decide),_,hp,1,rfl,?_⟩;have hs:∀z,(st.set p (pc q z))[p]?=some (pc q z):=fun z=>MW (aB hp);refine⟨_,ao (hs _),_,lS,_,ao (hs _),_,lS,?_⟩;walk_at "WP";refine⟨wF (by omega) (by omega),vX (by decide) (by decide),hm,?_⟩;exact .inl (k _ _ (PR _ (by omega)) (P6 _ hm) (g0.set ⟨hq,by omega,by omega⟩))
theorem vo {as st Q}(h:bu as st Q):az Γ fh (frame 4 as) st (aj st Q):=by
 obtain⟨n,d,rfl,h0,h1,k⟩:=h;unfold fh;walk_at "WP";refine while_by Γm (fun j ρ s=>s=st/\∃a:Nat,ρ=[some (.int n),some (.int d),some (.int a),some (.int j)]/\Nat.gcd a j=Nat.gcd n d) (n:=d) ⟨rfl,n,rfl,rfl⟩ ?_;rintro m ρ s ⟨rfl,a,rfl,hg⟩;walk_at "WP";by_cases hb:(0:Int)<m
 ·rw[MN hb];exact⟨hb,a % m,Nat.mod_lt _ (by omega),m,rfl,by simp,by rw[<-hg,O7 a m,Nat.gcd_rec m a,O7]⟩
 ·rw[ML hb];have:m=0:=by omega
  subst this;rw[Nat.gcd_zero_right] at hg;subst hg;refine⟨lA h0 h1,lA h0 h1,?_⟩;rw[<-PB,<-PB];exact .inl k
theorem vE {T:Tb}{ss:List Str}{i:Nat}{p:Str × Te}(hT:(T.map (·.1)).Nodup)(hp:ss.Perm (T.map (·.1)))(hso:PyProof.Rows.sortedS ss=true)(hi:ss[i]?=some p.1)(hpT:p∈T)(hw:again ws day p.2=false)(hb:∀q∈tk T (ss.take i),again ws day q.2=true):Fst ws day T p.1:=by
 unfold Fst;rw[<-uZ hp hso];have:tk T ss=tk T (ss.take i)++p::tk T (ss.drop (i+1)):=by
  conv=>lhs;rw[<-OC (i+1) ss]
  unfold tk;rw[O_];have:=lE hT hpT hi;unfold tk at this;rw[this,N0];rfl
 rw[this,List.find?_append,O2.mpr fun q hq=>by rw[hb q hq];decide,Option.none_or,List.find?_cons_of_pos (by rw[hw];rfl)];rfl
theorem ui {ws:List Str}{T:Tb}{ss:List Str}(nd:(T.map (·.1)).Nodup)(hp:ss.Perm (T.map (·.1)))(hso:PyProof.Rows.sortedS ss=true)(hb:∀q∈tk T ss,again ws day q.2=true):All ws day T:=⟨by rw[qB hp hso];exact hp,fun p hpT=>by refine hb p ?_;unfold tk;exact NR.mpr ⟨p.1,hp.mem_iff.mpr (MV.mpr ⟨p,hpT,rfl⟩),lu nd hpT⟩⟩
theorem qN {T:Tb}{ss:List Str}(nd:(T.map (·.1)).Nodup)(hp:∀z∈ss,z∈T.map (·.1)):(tk T ss).map (·.1)=ss:=by
 induction ss with
 | nil=>rfl
 | cons z ss ih =>
  obtain⟨p,hpT,rfl⟩:=MV.mp (hp z MQ);unfold tk at ih |-
  rw[ND,lu nd hpT];show p.1::_=_;rw[ih fun y hy=>hp y (MM _ hy)]
theorem nSz {n k:Nat}(h:n<=10):Sz (k+4) (n,1):=⟨MK (show n<2 ^ 4 by omega) (gF (by omega)),P4 (by omega),Nat.one_pos⟩
theorem Fz {L:Tb}{p:Str × Te}(h:p.1 ∉ L.map (·.1)):ie (kd (pv (L.map (mvT day n)))) (.inr p.1) (.tup [.str p.2.a,.str p.2.b,.tup ((dY p.2.rs day n).map rdV)])=kd (pv (L.map (mvT day n)++[mvT day n p])):=by rw[qU (by rw[qQ,NG];exact h)];exact NC kd (NA (f:=fun p:Str × Te=>(p.1,teV p.2)) (l₂:=[mvT day n p])).symm
theorem Lx {T:Tb}{ss:List Str}{i:Nat}{p:Str × Te}(nd:(T.map (·.1)).Nodup)(hs:∀z∈ss,z∈T.map (·.1))(hn:ss.Nodup)(hz:ss[i]?=some p.1):ie (kd (pv ((tk T (ss.take i)).map (mvT day n)))) (.inr p.1) (.tup [.str p.2.a,.str p.2.b,.tup ((dY p.2.rs day n).map rdV)])=kd (pv ((tk T (ss.take i)).map (mvT day n)++[mvT day n p])):=by
 refine Fz ?_;rw[qN nd fun z hz=>hs z (PH hz)];have e:ss=ss.take i++p.1::ss.drop (i+1):=by have il:=(MC.mp hz).1;rw[<-(MC.mp hz).2,O8,OC]
 rw[e,NP] at hn;exact fun h=>hn.2.2 _ h _ MQ rfl
def DyI (st:AH)(e:F2)(ws:List Str)(d:Nat)(T:Tb)(day:F2)(n:Nat)(ss:List Str)(i:Nat)(ρ:Fr)(s:AH):Prop:=∃a b c x:Option PV,Pre st s/\s[st.length]?=some (.dk (kd (pv ((tk T (ss.take i)).map (mvT day n)))))/\s[st.length+1]?=some (.lst (sV ss))/\(∀q∈tk T (ss.take i),again ws day q.2=true) /\
 ρ=[some (bh e ws d),some (fr day),some (.int n),some (fr e),some (.tup (sV ws)),some (.ref d),some (.ref st.length),x,a,b,c]
theorem IV {as st Q}(h:c8 as st Q):bN Γ ΓR jU (frame 11 as) st (oI st Q) (wm st Q):=by
 obtain⟨e,ws,d,T,day,n,rfl,hd,hN,zd,hn,k⟩:=h;have ln:=hN.ln;unfold jU;walk_at "WP";refine⟨_,.inl (aR hd),T.map (·.1),by simp,by simp;omega,fun ss hp hso=>⟨_,ao get_last2,?_⟩⟩;refine Ee Γm ΓRm (DyI st e ws d T day n ss) ⟨none,none,none,none,Pre.refl.app,by rw[cC];rfl,get_last2,fun q hq=>(nomatch hq),rfl⟩ ?_ ?_
 ·rintro i v ρ s hi ⟨a,b,c,x,pr,h1,h2,hb,rfl⟩;refine⟨h2.trans get_last2.symm,?_⟩;rw[MI] at hi;obtain⟨z,hz,rfl⟩:=MP.mp hi;have zm:z∈T.map (·.1):=hp.subset (MT hz);obtain⟨p,hpT,rfl⟩:=MV.mp zm;have et:=lE hN.nd hpT hz;have hr:=hN.rs p hpT;have hd2:=pr.get hd;walk_at "WP";refine⟨_,.inl hd2,_,tT hN.nd hpT,p.2,ws,day,rfl,fun r h=>(hr r h).1,zd,by have:=hN.rl p hpT;omega,?_⟩;walk_at "WP";cases ea:again ws day p.2 with
  | false =>rw[MN rfl];exact .inl (k _ _ (.ex pr (vE hN.nd hp hso hz hpT ea hb)))
  | true =>
   rw[ML (by decide)];refine⟨_,.inl hd2,_,tT hN.nd hpT,_,rfl,rfl,_,_,rfl,_,_,rfl,_,_,rfl,rfl,p.2.rs,day,n,rfl,fun r h=>(hr r h).1,zd,by omega,by have:=hN.rl p hpT;omega,fun s2 p2=>?_⟩;have g1:=p2.get h1;have il:=(MC.mp hz).1;have tl:(tk T (ss.take i)).length<=5:=MY (N3 _ _) (by rw[N5];have:=hp.length_eq;rw[ME] at this;omega);refine⟨_,g1,by simp[kd,pv];omega,?_⟩;rw[Lx hN.nd (fun z hz=>hp.subset hz) (hp.nodup_iff.mpr hN.nd) hz];refine⟨_,_,_,_,(pr.trans p2).setN (MJ _),by rw[et,NA];exact MW (aB g1),by rw[MH (by omega)];exact p2.get h2,fun q hq=>?_,rfl⟩;rw[et] at hq;rcases M9.mp hq with hq|hq
   ·exact hb q hq
   ·rw[M1.mp hq];exact ea
 ·rintro ρ s ⟨a,b,c,x,pr,h1,h2,hb,rfl⟩;refine⟨h2.trans get_last2.symm,?_⟩;rw[ME,NX] at h1 hb;rw[uZ hp hso] at h1;walk_at "WP";exact⟨(n,1),day,rfl,nSz (by omega),zd.mono (by decide),.inl (k _ _ (.ok (ui hN.nd hp hso hb) pr (MJ _) h1))⟩
theorem tM {as st Q}(h:bU as st Q):vk Γ ΓR anL FX.xs.length Km 8 f9 jd (frame 5 as) st (aj st Q).rt:=by
 obtain⟨e,ws,d,T,day,n,rfl,hd,hN,zd,hn,k⟩:=h;unfold vk;unfold f9;walk_at "WP";refine⟨e,ws,d,T,day,n,rfl,hd,hN,zd,hn,fun v s hR=>?_⟩;cases hR with
 | ex pr hf =>rename_i z;rw[D5];refine⟨by decide,by decide,by decide,by decide,by decide,[.bl true,.bl false,.bl false,.bl false],fun _=>rfl,[.bl false,.bl true],fun _=>rfl,by decide,[.str z],rfl,z,rfl,.inl (k _ _ (.ex pr.app (by have:=pr.len;omega) ?_ hf))⟩;rw[eE (k:=2)];rfl
 | ok hA pr hk hd2 =>rw[wV];exact .inl (k _ _ (.ok hA pr hk hd2))
noncomputable def frD (p:F2):PyData:=.tuple [.int p.1,.int p.2]
noncomputable def rdD (r:Rd):PyData:=.tuple [frD r.a,frD r.b,frD r.c,frD r.d]
theorem IS:(rdV r).toD=some (rdD r):=by simp[PV.toD,PV.toDs,rdD,frD]
theorem qv:∀ {L:List Rd},PV.toDs (L.map rdV)=some (L.map rdD)
 | []=>rfl
 | r::L=>by rw[MF,PV.toDs,IS,qv];rfl
theorem Hk:(rdD r).canLay0=true/\(rdD r).depth<=3:=by simp[rdD,frD,PyData.canLay0,PyData.canLayAll0,PyData.depth,PyData.depthAll]
theorem qy:∀ {L:List Rd},PyData.canLayAll0 (L.map rdD)=true/\PyData.depthAll (L.map rdD)<=3
 | []=>⟨rfl,by decide⟩
 | r::L=>by obtain⟨a,b⟩:=Hk (r:=r);obtain⟨c,d⟩:=qy (L:=L);rw[MF,PyData.canLayAll0,PyData.depthAll,a,c];exact⟨rfl,by omega⟩
theorem Ci {L:List Rd}:SeqAt.shaped (.list (L.map rdD))=true:=by obtain⟨c,d⟩:=qy (L:=L);simp[SeqAt.shaped,PyData.canLay0,PyData.depth,c];omega
theorem u7 {st:AH}{n m:Nat}{L:List Rd}{k:Bool->Prop}(h1:st[n]?=some (.lst (L.map rdV)))(h2:st[m]?=some (.lst []))(h:k L.isEmpty):eqW st (.ref n) (.ref m) k:=by refine⟨.list (L.map rdD),.list [],by unfold iP;simp only[h1,qv];rfl,by unfold iP;simp only[h2];rfl,Ci,Ci (L:=[]),?_⟩;cases L <;> exact h
theorem vV {f:Rd->Bool}:∀ {L:List Rd},(L.filter fun r=>!f r).isEmpty=L.all f
 | []=>rfl
 | r::L=>by
  rw[OL,QB];cases f r with
  | true=>exact vV
  | false=>rfl
theorem iW {as st Q}(h:aQ as st Q):az Γ bK (frame 6 as) st (aj st Q):=by
 obtain⟨e,ws,d,T,day,rfl,hd,hN,zd,k⟩:=h;have ln:=hN.ln;unfold bK;walk_at "WP";refine⟨_,.inl hd,T.map (·.1),by simp,by simp;omega,fun ss hp hso=>⟨_,ao get_last,?_⟩⟩;refine for_by Γm (fun i ρ s=>∃a b c x:Option PV,Pre (st++[.lst (sV ss)]) s/\(∀q∈tk T (ss.take i),again ws day q.2=true)/\ρ=[some (bh e ws d),some (fr day),x,a,b,c]) ⟨none,none,none,none,Pre.refl,fun q hq=>(nomatch hq),rfl⟩ ?_ ?_
 ·rintro i v ρ s hi ⟨a,b,c,x,pr,hb,rfl⟩;refine⟨(pr.get get_last).trans get_last.symm,?_⟩;rw[MI] at hi;obtain⟨z,hz,rfl⟩:=MP.mp hi;have zm:z∈T.map (·.1):=hp.subset (MT hz);obtain⟨p,hpT,rfl⟩:=MV.mp zm;have et:=lE hN.nd hpT hz;have hr:=hN.rs p hpT;have pr0:Pre st s:=Pre.trans Pre.refl.app pr;have hd2:=pr0.get hd;walk_at "WP";refine⟨_,.inl hd2,_,tT hN.nd hpT,_,rfl,rfl,_,_,rfl,_,_,rfl,_,_,rfl,rfl,?_⟩;refine⟨ws,rfl,_,rfl,?_⟩;cases ew:ws.any fun j=>j == p.2.a with
  | false =>rw[MN (by rfl)];exact .inl (k _ _ (.ex pr0 (vE hN.nd hp hso hz hpT (by unfold again;rw[ew];rfl) hb)))
  | true =>
   rw[ML (by decide)];refine⟨_,rfl,by rw[ME];have:=hN.rl p hpT;omega,gR Γm (fun i acc s'=>s'=s/\acc=((p.2.rs.take i).filter fun r=>!blt r.b day).map rdV) ⟨rfl,rfl⟩ ?_ ?_⟩
   ·rintro j y acc s' hj ⟨rfl,rfl⟩;rw[MI] at hj;obtain⟨r,hrj,rfl⟩:=MP.mp hj;have rt:p.2.rs.take (j+1)=p.2.rs.take j++[r]:=by rw[N8,hrj];rfl
    refine⟨trivial,?_⟩;walk_at "WP";refine⟨r.b,day,rfl,(hr r (MT hrj)).1.b.mono (by decide),zd.mono (by decide),?_⟩;walk_at "WP";rw[rt,List.filter_append,NA];cases eb:blt r.b day with
    | true=>simp[eb]
    | false=>simp[eb]
   ·rintro acc s' ⟨rfl,rfl⟩;refine⟨trivial,?_⟩;rw[ME,NX];refine u7 (L:=p.2.rs.filter fun r=>!blt r.b day) (by rw[cC];rfl) (by rw[eE (k:=1)];rfl) ?_;rw[vV];have ea:again ws day p.2=p.2.rs.all fun r=>blt r.b day:=by unfold again;rw[ew];rfl
    rw[<-ea];cases el:again ws day p.2 with
    | true =>
     rw[ML (by decide)];refine⟨pr.app,fun q hq=>?_⟩;rw[et] at hq;rcases M9.mp hq with hq|hq
     ·exact hb q hq
     ·rw[M1.mp hq];exact el
    | false =>rw[MN rfl];exact .inl (k _ _ (.ex pr0.app (vE hN.nd hp hso hz hpT el hb)))
 ·rintro ρ s ⟨a,b,c,x,pr,hb,rfl⟩;refine⟨(pr.get get_last).trans get_last.symm,?_⟩;rw[ME,NX] at hb;walk_at "WP";exact .inl (k _ _ (.ok (ui hN.nd hp hso hb) (Pre.trans Pre.refl.app pr)))
theorem IY {y:F2}(h:RdS 30 r)(z:Sz 35 y):RdS 66 (shR y r):=⟨(jC h.a z).mono (by decide),(jC h.b z).mono (by decide),(jC h.c z).mono (by decide),(jC h.d z).mono (by decide)⟩
theorem wI {L:List Rd}{day:F2}(hL:∀r∈L,RdS 30 r)(hd:Sz 30 day):∀n,n<=10->∀r∈dY L day n,RdS 66 r
 | 0,_,_,h=>nomatch h
 | n+1,hn,r,h=>by
  rcases M9.mp h with h|h
  ·exact wI hL hd n (by omega) r h
  ·obtain⟨q,hq,rfl⟩:=MV.mp h;exact IY (hL q hq) ((lp (nSz (k:=0) (by omega)) hd).mono (by decide))
theorem L_:∀z∈(["s","q","r","p","t"]:List Str),PyData.strOk z=true:=by decide +kernel
theorem y_ {n:Nat}(hN:mQ e ws T)(hA:All ws day T)(cd:Cop day)(zd:Sz 30 day)(hn:n<=5):uv ((dA T).map (mvT day n)) ws:=by
 have sub:∀p∈(dA T).map (mvT day n),∃q∈T,p=mvT day n q:=fun p hp=>by obtain⟨q,hq,rfl⟩:=MV.mp hp;exact⟨q,eJ hq,rfl⟩
 have key:((dA T).map (mvT day n)).map (·.1)=(dA T).map (·.1):=by rw[NG];rfl
 have tkk:(dA T).map (·.1)=srt (T.map (·.1)):=qN hN.nd fun z hz=>hA.pm.subset hz;refine⟨?_,?_,fun p hp r hr=>?_,fun p hp=>?_,fun p hp=>?_,fun p hp=>?_,fun p hp=>?_⟩
 ·rw[key,tkk];exact hA.pm.nodup_iff.mpr hN.nd
 ·have:=NC List.length tkk;rw[ME,hA.pm.length_eq,ME] at this;rw[ME,this];exact hN.ln
 ·obtain⟨q,hq,rfl⟩:=sub p hp;exact⟨wI (fun r hr=>(hN.rs q hq r hr).1) zd n (by omega) r hr,qF (fun r hr=>(hN.rs q hq r hr).2) cd.pos n r hr⟩
 ·obtain⟨q,hq,rfl⟩:=sub p hp;show (dY q.2.rs day n).length<=100;rw[i6];have:=QN hn (hN.rl q hq);omega
 ·obtain⟨q,hq,rfl⟩:=sub p hp;have:=hA.ag q hq;unfold again at this;rw[MG] at this;exact this.1
 ·obtain⟨q,hq,rfl⟩:=sub p hp;exact(hN.pl q hq).2
 ·obtain⟨q,hq,rfl⟩:=sub p hp;exact L_ _ (hN.nm q hq)
theorem Dk {k:Bool->Prop}(h:k true):eqW st (zO o) (zO o) k:=by
 cases o with
 | none=>exact⟨.none,.none,rfl,rfl,rfl,rfl,h⟩
 | some p=>exact u_ (by rw[NF rfl];exact h)
theorem qD {as st Q}(h:bG as st Q):az Γ dw (frame 6 as) st (aj st Q):=by
 obtain⟨e,ws,d,d',T,day,n,t,rfl,hd,hd',hN,hA,cd,zd,hn,ct,zt,k⟩:=h;have g:GdT ws day (dA T):=⟨fun p hp r hr=>(hN.rs p (eJ hp) r hr).2,fun p hp=>hA.ag p (eJ hp)⟩;have hT1:=y_ hN hA cd zd (show n<=5 by omega);have hT2:=y_ hN hA cd zd (show n+1<=5 by omega);have cz:Mok 66 (ax t day):=⟨(jC zt zd).mono (by decide),bF ct.pos cd.pos⟩;unfold dw;walk_at "WP";refine⟨_,ao get_last,for_by Γm (fun i ρ s=>∃a b:Option PV,Pre (st++[.lst (sV PL)]) s/\ρ=[some (bh (bM (n,1) day) ws d),some (bh (bM (n+1,1) day) ws d'),some (fr day),some (fr t),a,b]) ⟨none,none,Pre.refl,rfl⟩ ?_ ?_⟩
 ·rintro i v ρ s hi ⟨a,b,pr,rfl⟩;refine⟨(pr.get get_last).trans get_last.symm,?_⟩;obtain⟨z,hz,rfl⟩:∃z,PL[i]?=some z/\v=.str z:=by have:(PL.map PV.str)[i]?=some v:=hi;rw[MI] at this;obtain⟨z,h1,h2⟩:=MP.mp this;exact⟨z,h1,h2.symm⟩
  have pr0:Pre st s:=Pre.trans Pre.refl.app pr;walk_at "WP";refine ⟨_,ws,d,_,"a",z,t,rfl,pr0.get hd,hT1,by decide,ct,zt.mono (by decide),fun s2 p2 hm1=>?_⟩;have sh:=Hm (n:=n) ct cd.pos g (z:="a") z;have sh2:(at' (ic ((dA T).map (mvT day (n+1))) "a" (ax t day)) z).map (·.1)=((at' (ic ((dA T).map (mvT day n)) "a" t) z).map (·.1)).map fun m=>ax m day:=by rw[sh,P5,P5];rfl
  have fin:∀s3,Pre s2 s3->Pre (st++[.lst (sV PL)]) s3:=fun s3 p3=>(pr.trans p2).trans p3;generalize (at' (ic ((dA T).map (mvT day n)) "a" t) z).map (·.1)=o at *;have go:∀s3,Pre s2 s3->cI [fr t,fr day] s3 fun x st1=>cj [bh (bM (n+1,1) day) ws d',.str "a",.str z,x] st1 fun x st1=>eqW st1 x (zO (o.map fun m=>ax m day)) fun k=>if k=false then Ret st Q (.bl false) st1 else Pre (st++[.lst (sV PL)]) st1:=fun s3 p3=>by refine ⟨t,day,rfl,zt.mono (by decide),zd.mono (by decide),_,ws,d',_,"a",z,ax t day,rfl,((pr0.trans p2).trans p3).get hd',hT2,by decide,cz.c,cz.z,fun s4 p4 _=>?_⟩;rw[sh2];refine Dk ?_;rw[ML (by decide)];exact fin s4 (p3.trans p4)
  cases o with
  | none =>show ite _ _ _;rw[ML (by decide)];exact go s2 Pre.refl
  | some m =>show ite _ _ _;rw[MN (show gc (zO (some m))=false from rfl)];exact⟨m,day,rfl,(hm1 m rfl).z.mono (by decide),zd.mono (by decide),go s2 Pre.refl⟩
 ·rintro ρ s ⟨a,b,pr,rfl⟩;refine⟨(pr.get get_last).trans get_last.symm,?_⟩;walk_at "WP";exact .inl (k _ (Pre.trans Pre.refl.app pr))
noncomputable abbrev kZ:Ss:=(.cons (.set (.tup (.cons (.name 5) (.cons (.name 6) (.cons (.name 7) .nil)))) (.ix (.ix (.var 0) (.int 2)) (.var 4))) (.cons (.set (.name 8) (.lst .nil)) (.cons (.forS (.name 9) (.range1 (.var 2)) (.cons (.set (.name 10) (.call 24 (.cons (.bin .Mult (.var 9) (.ix (.var 1) (.int 0))) (.cons (.ix (.var 1) (.int 1)) .nil)))) (.cons (.set (.name 8) (.bin .Add (.var 8) (.comp (.tmp (.blt .tuple1 (.cons (.comp (.call 26 (.cons (.var 0) (.cons (.var 1) .nil))) (.name 0) (.seq (.var 0)) .nil ["_law_moment"] [1]) .nil))) (.name 0) (.seq (.var 7)) .nil ["_law_ride"] [10]))) .nil))) (.cons (.set (.sub (.var 3) (.var 4)) (.tup (.cons (.var 5) (.cons (.var 6) (.cons (.blt .tuple1 (.cons (.var 8) .nil)) .nil))))) .nil))))
def Kv (st:AH)(d:Nat)(s:AH):Prop:=∀i,i<st.length->i≠d->s[i]?=st[i]?
theorem kl {n:Nat}{day:F2}:aZ (n*day.1) day.2=bM (n,1) day:=by unfold bM;rw[Nat.one_mul]
noncomputable def mvF (e:F2)(ws:List Str)(d:Nat)(day:F2)(n l:Nat)(z a b c f j g:Option PV):Fr:=[some (bh e ws d),some (fr day),some (.int n),some (.ref l),z,a,b,c,f,j,g]
def MvJ (s:AH)(e:F2)(ws:List Str)(d:Nat)(day:F2)(n l:Nat)(p:Str × Te)(u:Nat)(ρ:Fr)(t:AH):Prop:=Pre s t/\∃m j g,s.length<=m/\t[m]?=some (.lst ((dY p.2.rs day u).map rdV))/\ρ=mvF e ws d day n l (some (.str p.1)) (some (.str p.2.a)) (some (.str p.2.b)) (some (.tup (p.2.rs.map rdV))) (some (.ref m)) j g
structure MvI (st:AH)(e:F2)(ws:List Str)(d:Nat)(T:Tb)(day:F2)(n i:Nat)(ρ:Fr)(s:AH):Prop where
 pre:Kv st d s
 len:st.length<s.length
 hd:s[d]?=some (.fz (kd (pv T)))
 hp:s[st.length]?=some (.dk (kd (pv ((T.take i).map (mvT day n)))))
 fr:∃z a b c f j g,ρ=mvF e ws d day n st.length z a b c f j g
theorem rC {as st Q}(h:bH as st Q):az Γ dh (frame 11 as) st (aj st Q):=by
 obtain⟨e,ws,d,T,day,n,rfl,hd,hN,zd,hn,k⟩:=h;have dl:=aB hd;have ln:=hN.ln;unfold dh;refine a8 (fun ρ s=>st++[.dk []]=s/\ρ=mvF e ws d day n st.length none none none none none none none) (by walk_at "WPN";rfl) ?_;rintro _ _ ⟨rfl,rfl⟩;refine a8 (fun ρ s=>Pre st s/\s[st.length]?=some (.dk (kd (pv (T.map (mvT day n)))))/\∃z a b c f j g,ρ=mvF e ws d day n st.length z a b c f j g) ?_ ?_
 ·unfold mvF;walk_at "WPN";refine⟨_,aR hd,for_by Γm (MvI st e ws d T day n) ⟨fun i hi hne=>by rw[MH (by omega)];exact MS hi,by simp,MW (by simp;omega),by rw[MH (by omega),cC];rfl,_,_,_,_,_,_,_,rfl⟩ ?_ ?_⟩
  ·rintro i v ρ s hi ⟨pre,len,hfz,hp,z,a,b,c,f,j,g,rfl⟩;refine⟨trivial,?_⟩;obtain⟨q,hq,rfl⟩:=DF hi;rw[MI] at hq;obtain⟨p,hq2,rfl⟩:=MP.mp hq;have hpT:=MT hq2;have hr:=hN.rs p hpT;have hl:=hN.rl p hpT;have et:T.take (i+1)=T.take i++[p]:=by rw[N8,hq2];rfl
   rw[eP];show az Γ kZ (mvF e ws d day n st.length (some (.str p.1)) a b c f j g) s _;refine a8 (fun ρ t=>s=t/\ρ=mvF e ws d day n st.length (some (.str p.1)) (some (.str p.2.a)) (some (.str p.2.b)) (some (.tup (p.2.rs.map rdV))) f j g) ?_ ?_
   ·unfold mvF;walk_at "WPN";exact⟨_,.inr hfz,_,tT hN.nd hpT,_,rfl,rfl,_,_,rfl,_,_,rfl,_,_,rfl,rfl,rfl,rfl,rfl⟩
   rintro _ _ ⟨rfl,rfl⟩;refine a8 (fun ρ t=>s++[.lst []]=t/\ρ=mvF e ws d day n st.length (some (.str p.1)) (some (.str p.2.a)) (some (.str p.2.b)) (some (.tup (p.2.rs.map rdV))) (some (.ref s.length)) j g) (by unfold mvF;walk_at "WPN") ?_;rintro _ _ ⟨rfl,rfl⟩;refine a8 (MvJ s e ws d day n st.length p n) ?_ ?_
   ·unfold mvF;walk_at "WPN";refine⟨by omega,by omega,for_by Γm (MvJ s e ws d day n st.length p) ⟨Pre.refl.app,s.length,j,g,MJ _,get_last,rfl⟩ ?_ ?_⟩
    ·rintro u v ρ t hu ⟨pt,m,j,g,hm,ht,rfl⟩;obtain⟨rfl,hun⟩:=iV hu;refine⟨trivial,?_⟩;unfold mvF;walk_at "WPN";rw[<-M6];refine⟨nC (nSz (k:=0) (show u<=10 by omega)).a zd.a (by decide) (by decide),u*day.1,day.2,rfl,zd.pos,cU zd.b (by decide),by rw[ME];omega,?_⟩;rw[kl];refine fH (xs:=p.2.rs) rdV (fun r=>rdV (shR (bM (u,1) day) r)) trivial (fun r hrm K kk=>?_) ?_
     ·have zm:Sz 34 (bM (u,1) day):=lp (nSz (k:=0) (by omega)) zd;obtain⟨z1,z2,z3,z4⟩:=(hr r hrm).1;walk_at "WPN";refine⟨by decide,fH (xs:=[r.a,r.b,r.c,r.d]) fr (fun q=>fr (ax q (bM (u,1) day))) trivial (fun q hq K kk=>?_) ⟨_,ao get_last,Tmp.app rfl kk⟩⟩;walk_at "WPN";refine⟨q,_,rfl,?_,zm.mono (by decide),kk⟩;simp only[List.mem_cons,List.not_mem_nil,or_false] at hq;rcases hq with rfl|rfl|rfl|rfl
      ·exact z1.mono (by decide)
      ·exact z2.mono (by decide)
      ·exact z3.mono (by decide)
      ·exact z4.mono (by decide)
     ·refine⟨_,aR ht,?_,pt.app,_,_,_,MY hm (Nat.le_succ_of_le (NQ (aB ht))),?_,rfl⟩
      ·simp only[List.length_map,i6];have:u*p.2.rs.length<=10*10:=QN (by omega) (by omega);omega
      ·rw[eE (k:=1)];simp[dY,List.map_map,Function.comp_def]
    ·rintro ρ t ⟨pt,m,j,g,hm,ht,rfl⟩;have:(cO 0 (n:Int).toNat).length=n:=by simp[cO]
     rw[this] at ht;exact⟨trivial,pt,m,j,g,hm,ht,rfl⟩
   rintro _ t ⟨pt,m,j,g,hm,ht,rfl⟩;unfold mvF;walk_at "WPN";refine⟨_,ao ht,_,pt.get hp,by simp[kd,pv];omega,?_⟩;have no:p.1 ∉ (T.take i).map (·.1):=by
    have il:=(MC.mp hq2).1;have e:T=T.take i++p::T.drop (i+1):=by rw[<-(MC.mp hq2).2,O8,OC]
    have nd:=hN.nd;rw[e,NA,NP] at nd;exact fun h=>nd.2.2 _ h _ MQ rfl
   rw[Fz no];have pl:=pt.len;refine⟨fun c hc hne=>?_,by rw[OF];omega,by rw[MH (by omega)];exact pt.get hfz,by rw[et,NA];exact MW (by omega),_,_,_,_,_,_,_,rfl⟩;rw[MH (by omega)];exact(pt c (by omega)).trans (pre c hc hne)
  ·rintro ρ s ⟨pre,len,hfz,hp,z,a,b,c,f,j,g,rfl⟩;refine⟨trivial,hfz,fun i hi=>?_,?_,z,a,b,c,f,j,g,rfl⟩
   ·by_cases e:i=d
    ·subst e;rw[MW (aB hfz)];exact hd.symm
    ·rw[MH (Ne.symm e)];exact pre i hi e
   ·rw[MH (by omega),hp,td,ME,NX]
 rintro _ s ⟨pr,hp,z,a,b,c,f,j,g,rfl⟩;unfold mvF;walk_at "WP";rw[<-M6];refine⟨nC (nSz (k:=0) (show n<=10 by omega)).a zd.a (by decide) (by decide),n*day.1,day.2,rfl,zd.pos,cU zd.b (by decide),?_⟩;rw[kl];exact .inl (k _ _ pr (MJ _) hp)
noncomputable abbrev kX:Ss:=(.cons (.set (.name 4) (.call 23 (.cons (.var 0) (.cons (.int 24) .nil)))) (.cons (.set (.name 5) (.bin .Add (.var 4) (.bin .Mult (.call 23 (.cons (.var 0) (.cons (.int 12) .nil))) (.call 23 (.cons (.var 0) (.cons (.int 2) .nil)))))) (.cons (.set (.name 6) (.bin .Add (.var 4) (.call 23 (.cons (.var 0) (.cons (.int 40) .nil))))) (.cons (.set (.name 7) (.bin .Add (.var 5) (.call 23 (.cons (.var 0) (.cons (.int 40) .nil))))) (.cons (.ifS (.cmp .Eq (.var 5) (.var 4)) (.cons (.set (.name 7) (.var 6)) .nil) .nil) (.cons (.expr (.met .append (.var 2) (.cons (.tmp (.blt .tuple1 (.cons (.comp (.call 24 (.cons (.var 0) (.cons (.var 1) .nil))) (.name 0) (.seq (.tup (.cons (.var 4) (.cons (.var 5) (.cons (.var 6) (.cons (.var 7) .nil)))))) .nil ["_law_number"] [1]) .nil))) .nil))) .nil))))))
noncomputable abbrev nO:Ss:=(.cons (.set (.name 7) (.call 23 (.cons (.var 0) (.cons (.blt .len (.cons (.var 2) .nil)) .nil)))) (.cons (.set (.name 8) (.bin .Mod (.bin .Add (.bin .Add (.var 7) (.int 1)) (.call 23 (.cons (.var 0) (.cons (.bin .Sub (.blt .len (.cons (.var 2) .nil)) (.int 1)) .nil)))) (.blt .len (.cons (.var 2) .nil)))) (.cons (.set (.name 9) (.call 27 (.cons (.var 0) (.cons (.var 1) .nil)))) (.cons (.ifS (.cmp .NotIn (.ix (.var 2) (.var 7)) (.var 4)) (.cons (.set (.name 9) (.sl (.tup (.cons (.tup (.cons (.tup (.cons (.int 0) (.cons (.int 1) .nil))) (.cons (.tup (.cons (.int 2) (.cons (.int 1) .nil))) (.cons (.tup (.cons (.int 3) (.cons (.int 1) .nil))) (.cons (.tup (.cons (.int 5) (.cons (.int 1) .nil))) .nil))))) .nil)) .no (.yes (.call 23 (.cons (.var 0) (.cons (.int 3) .nil)))))) .nil) .nil) (.cons (.set (.sub (.var 5) (.var 6)) (.tup (.cons (.ix (.var 2) (.var 7)) (.cons (.ix (.var 2) (.var 8)) (.cons (.var 9) .nil))))) .nil)))))
theorem Fm {L:List Int}{B:Int}(h:∀i∈L,A<=i/\i<=B){y:Int}(y0:0<=y)(y1:y<L.length):∃i,atI (L.map PV.int) y=some (.int i)/\A<=i/\i<=B:=by
 obtain⟨m,rfl⟩:∃m:Nat,y=m:=⟨y.toNat,by omega⟩;have hm:m<L.length:=by omega
 exact⟨L[m],dF (by rw[MI,M4 hm];rfl),h _ (OV hm)⟩
theorem iU {n k:Nat}(hk:0<k)(h4:k<=4)(hn:n<2 ^ 30):Mok 30 (aZ n k):=⟨⟨M_ (iZ _ _) hn,M_ (ji _ _) (by omega),bE hk⟩,.low hk⟩
noncomputable def rdF (p k l:Nat)(x a b c d:Option PV):Fr:=[some (.ref p),some (.int k),some (.ref l),x,a,b,c,d]
def RwI (st:AH)(p k l i:Nat)(ρ:Fr)(s:AH):Prop:=∃(L:List Rd) (x a b c d:Option PV),Gr st p s/\s[l]?=some (.lst (L.map rdV))/\L.length=i/\(∀r∈L,RdS 30 r/\RdK r)/\ρ=rdF p k l x a b c d
theorem qS {as st Q}(h:bI as st Q):az Γ dq (frame 8 as) st (aj st Q):=by
 obtain⟨p,k',rfl,hp,k0,k4,k⟩:=h;have pl:=hp.lt;have g0:Gr st p (st++[.lst []]):=(Gr.refl hp).app;unfold dq;refine a8 (fun ρ s=>st++[.lst []]=s/\ρ=rdF p k' st.length none none none none none) (by walk_at "WPN";rfl) ?_;rintro _ _ ⟨rfl,rfl⟩;refine a8 (fun ρ s=>∃i,i<=4/\RwI st p k' st.length i ρ s) ?_ ?_
 ·unfold rdF;walk_at "WPN";have g1:Gr st p (st++[.lst [],.lst ([3,3,5].map PV.int)]):=(Gr.refl hp).app;refine⟨p,3,rfl,g1.pot,by decide,by decide,fun y s y0 y1 g2=>?_⟩;obtain⟨i,ev,i0,i1⟩:=Fm (L:=[3,3,5]) (A:=3) (B:=5) (by decide) y0 y1;have gl:=g2.get (get_last2 (st:=st) (a:=.lst []) (b:=.lst ([3,3,5].map PV.int))) (by omega);walk_at "WPN";have g3:Gr (st++[.lst []]) p s:=Gr.trans (by have:=(Gr.refl (hp.app (g:=[.lst []]))).app (g:=[.lst ([3,3,5].map PV.int)]);rwa [N0] at this) g2;refine⟨_,ao gl,_,ev,Gr.tmp g3 (by rw[PV.bel]) fun s2 g4 l4=>⟨p,i,rfl,g4.pot,by omega,by omega,fun y2 s3 a0 a1 g5=>?_⟩⟩;obtain⟨N,rfl⟩:∃N:Nat,y2=N:=⟨y2.toNat,by omega⟩;have h3:=(g4.trans g5).get (get_last (st:=st) (c:=.lst [])) (by omega);refine⟨_,rfl,by omega,by omega,for_by Γm (RwI st p k' st.length) ⟨[],none,none,none,none,none,g0.trans (g4.trans g5),h3,rfl,fun r hr=>(nomatch hr),rfl⟩ ?_ ?_⟩
  ·rintro u v ρ s4 hu ⟨L,x,a,b,c,d,g,hL,ll,hR,rfl⟩;obtain⟨rfl,hun⟩:=iV hu;refine⟨trivial,?_⟩;rw[eP];show az Γ kX (rdF p k' st.length (some (.int u)) a b c d) s4 _;have RV:∀ {s s':AH},Gr s p s'->s[st.length]?=some (.lst (L.map rdV))->s'[st.length]?=some (.lst (L.map rdV)):=fun g h=>g.get h (by omega);refine a8 (fun ρ t=>Gr s4 p t/\∃f:Nat,f<24/\ρ=rdF p k' st.length (some (.int u)) (some (.int f)) b c d) ?_ ?_
   ·unfold rdF;walk_at "WPN";exact⟨p,24,rfl,g.pot,by decide,by decide,fun f t f0 f1 gt=>⟨gt,f.toNat,by omega,by rw[OX f0]⟩⟩
   rintro _ s5 ⟨g5,f,f1,rfl⟩;refine a8 (fun ρ t=>Gr s4 p t/\∃l:Nat,f<=l/\l<40/\ρ=rdF p k' st.length (some (.int u)) (some (.int f)) (some (.int l)) c d) ?_ ?_
   ·unfold rdF;walk_at "WPN";refine⟨p,12,rfl,g5.pot,by decide,by decide,fun x t x0 x1 gt=>⟨p,2,rfl,gt.pot,by decide,by decide,fun z t2 z0 z1 gt2=>?_⟩⟩;walk_at "WPN";have xz:0<=x*z/\x*z<=11:=by
     have:z=0\/z=1:=by omega
     rcases this with rfl|rfl <;> omega
    exact⟨wF (by omega) (by omega),(g5.trans gt).trans gt2,(f+x*z).toNat,by omega,by omega,by omega⟩
   rintro _ s6 ⟨g6,l,fl,l1,rfl⟩;refine a8 (fun ρ t=>Gr s4 p t/\∃c:Nat,c<100/\ρ=rdF p k' st.length (some (.int u)) (some (.int f)) (some (.int l)) (some (.int c)) d) ?_ ?_
   ·unfold rdF;walk_at "WPN";exact⟨p,40,rfl,g6.pot,by decide,by decide,fun x t x0 x1 gt=>by walk_at "WPN";exact⟨g6.trans gt,(f+x).toNat,by omega,by omega⟩⟩
   rintro _ s7 ⟨g7,co,co1,rfl⟩;refine a8 (fun ρ t=>Gr s4 p t/\∃e:Nat,e<100/\ρ=rdF p k' st.length (some (.int u)) (some (.int f)) (some (.int l)) (some (.int co)) (some (.int e))) ?_ ?_
   ·unfold rdF;walk_at "WPN";exact⟨p,40,rfl,g7.pot,by decide,by decide,fun x t x0 x1 gt=>by walk_at "WPN";exact⟨g7.trans gt,(l+x).toNat,by omega,by omega⟩⟩
   rintro _ s8 ⟨g8,e,e1,rfl⟩;refine a8 (fun ρ t=>s8=t/\∃e:Nat,e<100/\ρ=rdF p k' st.length (some (.int u)) (some (.int f)) (some (.int l)) (some (.int co)) (some (.int e))) ?_ ?_
   ·unfold rdF;walk_at "WPN";exact iM (fun _=>⟨co,co1,rfl⟩) fun _=>⟨e,e1,rfl⟩
   rintro _ _ ⟨rfl,e,e1,rfl⟩;have h8:=RV g8 hL;unfold rdF;walk_at "WP";refine⟨⟨_,cq h8⟩,by decide,fH (xs:=[f,l,co,e]) (fun z:Nat=>PV.int z) (fun z=>fr (aZ z k')) trivial (fun z hz K kk=>?_) ⟨_,ao get_last,Tmp.app rfl ⟨_,h8,by rw[ME];omega,L++[⟨aZ f k',aZ l k',aZ co k',aZ e k'⟩],_,_,_,_,_,(g.trans g8).setN (MJ _),?_,by simp[ll],fun r hr=>?_,rfl⟩⟩⟩
   ·walk_at "WP";exact⟨z,k',rfl,k0,cU (show k'<2 ^ 3 by omega) (by decide),kk⟩
   ·rw[MW (aB h8),NA];rfl
   ·rcases M9.mp hr with hr|hr
    ·exact hR r hr
    ·rw[M1.mp hr];obtain⟨a1,a2⟩:=iU k0 k4 (show f<2 ^ 30 by omega);obtain⟨b1,b2⟩:=iU k0 k4 (show l<2 ^ 30 by omega);obtain⟨c1,c2⟩:=iU k0 k4 (show co<2 ^ 30 by omega);obtain⟨d1,d2⟩:=iU k0 k4 (show e<2 ^ 30 by omega);refine⟨⟨a1,b1,c1,d1⟩,a2,b2,c2,d2,fun z=>?_⟩;have:=(BR k0 k0).mp z;have:=Nat.lt_of_mul_lt_mul_right this;omega
  ·rintro ρ s4 hI;have:(cO 0 (N:Int).toNat).length=N:=by simp[cO]
   rw[this] at hI;exact⟨trivial,N,by omega,hI⟩
 rintro _ s ⟨i,i4,L,x,a,b,c,d,g,hL,ll,hR,rfl⟩;unfold rdF;walk_at "WP";exact⟨_,ao hL,.inl (k L s g hR (by omega))⟩
theorem wb:∀ {L:List Str},PV.bels k (sV L)=true
 | []=>rfl
 | r::L=>by show PV.bels k (.str r::sV L)=true;rw[PV.bels,wb];rfl
noncomputable def ntF (p k:Nat)(pl:Option PV)(bd ws d nm a b r:Option PV):Fr:=[some (.ref p),some (.int k),pl,bd,ws,d,nm,a,b,r]
def NtI (st:AH)(p k n:Nat)(names:List Str)(bd:Int)(ws:List Str)(d:Nat)(nl:List Str)(i:Nat)(ρ:Fr)(s:AH):Prop:=∃(T:Tb) (nm a b r:Option PV),Gr st p s/\s[n]?=some (.lst (sV names))/\dn s d T/\(T.map (·.1)=nl.take i/\nl.Nodup/\nl.length<=5/\∀z∈nl,z∈(["s","q","r","p","t"]:List Str)) /\
 (∀p∈T,(p.2.a∈PL/\p.2.b∈PL)/\(∀r∈p.2.rs,RdS 30 r/\RdK r)/\p.2.rs.length<=4)/\ρ=ntF p k (some (.ref n)) (some (.int bd)) (some (.tup (sV ws))) (some (.ref d)) nm a b r
theorem uD {as st Q}(h:cB as st Q):az Γ fg (frame 10 as) st (aj st Q):=by
 obtain⟨p,k',rfl,hp,k0,k4,k⟩:=h;have pl:=hp.lt;unfold fg;refine a8 (fun ρ s=>∃(n:Nat) (names:List Str),Gr st p s/\st.length<=n/\s[n]?=some (.lst (sV names))/\names.length<=4/\2<=names.length/\(∀z∈names,z∈PL)/\ρ=ntF p k' (some (.ref n)) none none none none none none none) ?_ ?_
 ·walk_at "WPN";have g1:Gr st p (st++[.lst (sV PL)]):=(Gr.refl hp).app;refine⟨p,3,rfl,g1.pot,by decide,by decide,fun y s y0 y1 g2=>?_⟩;have gl:=g2.get (get_last (st:=st) (c:=.lst (sV PL))) (by omega);walk_at "WPN";obtain⟨nl,e,n4,n2,hPL⟩:∃nl:List Str,rg (sV PL) none (some (2+y))=sV nl/\nl.length<=4/\2<=nl.length/\∀z∈nl,z∈PL:=by
   have:y=0\/y=1\/y=2:=by omega
   rcases this with rfl|rfl|rfl
   ·exact ⟨["a","b"],rfl,by decide,by decide,by decide +kernel⟩
   ·exact ⟨["a","b","c"],rfl,by decide,by decide,by decide +kernel⟩
   ·exact⟨PL,rfl,by decide,by decide,fun z hz=>hz⟩
  refine⟨_,cq gl,(g1.trans g2).app,s.length,(g1.trans g2).len,nl,?_,n4,n2,hPL,rfl⟩;rw[e];exact get_last
 rintro _ s ⟨n,names,g,hn,hnm,n4,n2,hPL,rfl⟩;refine a8 (fun ρ s'=>Gr s p s'/\∃bd:Int,ρ=ntF p k' (some (.ref n)) (some (.int bd)) none none none none none none) ?_ ?_
 ·unfold ntF;walk_at "WPN";have ga:Gr s p (s++[.lst ([0,0,0,1,5].map PV.int)]):=(Gr.refl g.pot).app;refine⟨p,5,rfl,ga.pot,by decide,by decide,fun y s1 y0 y1 g1=>?_⟩;obtain⟨i,ev,_,_⟩:=Fm (L:=[0,0,0,1,5]) (A:=0) (B:=5) (by decide) y0 y1;have gl:=g1.get (get_last (st:=s) (c:=.lst ([0,0,0,1,5].map PV.int))) (by have:=g.len;omega);walk_at "WPN";exact⟨_,ao gl,_,ev,Gr.tmp (ga.trans g1) (by rw[PV.bel]) fun s2 g2 l2=>⟨g2,i,rfl⟩⟩
 rintro _ s1 ⟨g1,bd,rfl⟩;refine a8 (fun ρ s'=>Gr s p s'/\∃ws,ws.length<=4/\(∀z∈ws,z∈PL)/\ρ=ntF p k' (some (.ref n)) (some (.int bd)) (some (.tup (sV ws))) none none none none none) ?_ ?_
 ·unfold ntF;walk_at "WPN";have np:n≠p:=by omega
  refine⟨_,ao (g1.get hnm np),by rw[ME];omega,gR Γm (fun i acc s'=>∃ws,acc=sV ws/\ws.length<=i/\(∀z∈ws,z∈PL)/\Gr s1 p s') ⟨[],rfl,MJ _,fun z hz=>(nomatch hz),Gr.refl g1.pot⟩ ?_ ?_⟩
  ·rintro i v acc s' hi ⟨ws,rfl,wl,hw,g2⟩;refine⟨g2.old n (aB (g1.get hnm np)) np,?_⟩;rw[MI] at hi;obtain⟨z,hz,rfl⟩:=MP.mp hi;walk_at "WP";refine⟨p,5,rfl,g2.pot,by decide,by decide,fun y s3 y0 y1 g3=>?_⟩;walk_at "WP";refine iM (fun _=>⟨ws++[z],by simp[sV],by simp;omega,fun x hx=>?_,g2.trans g3⟩) fun _=>⟨ws,rfl,by omega,hw,g2.trans g3⟩;rcases M9.mp hx with hx|hx
   ·exact hw x hx
   ·rw[M1.mp hx];exact hPL z (MT hz)
  ·rintro acc s' ⟨ws,rfl,wl,hw,g2⟩;refine⟨g2.old n (aB (g1.get hnm np)) np,_,ao get_last,Gr.tmp g2.app (by rw[PV.bel];exact wb) fun s3 g3 l3=>⟨g1.trans g3,ws,?_,hw,rfl⟩⟩;rw[ME] at wl;omega
 rintro _ s2 ⟨g2,ws,wl,hw,rfl⟩;refine a8 (fun ρ s'=>s2++[.dk []]=s'/\ρ=ntF p k' (some (.ref n)) (some (.int bd)) (some (.tup (sV ws))) (some (.ref s2.length)) none none none none) (by unfold ntF;walk_at "WPN") ?_;rintro _ _ ⟨rfl,rfl⟩;have g3:Gr st p (s2++[.dk []]):=(g.trans g2).app;have sl:s.length<=s2.length:=g2.len;have hn3:(s2++[.dk []])[n]?=some (.lst (sV names)):=aR (g2.get hnm (by omega));have ln:=aB hnm;have gl:=g.len;refine a8 (fun ρ s'=>∃nl i,NtI st p k' n names bd ws s2.length nl i ρ s') ?_ ?_
 ·unfold ntF;walk_at "WPN";have g4:Gr (s2++[.dk []]) p (s2++[.dk [],.lst (sV ["s","q","r","p","t"])]):=by have:=(Gr.refl g3.pot).app (g:=[.lst (sV ["s","q","r","p","t"])]);rwa [N0] at this
  refine⟨p,5,rfl,g4.pot,by decide,by decide,fun y s4 y0 y1 g5=>?_⟩;have gm:=g5.get (get_last2 (st:=s2) (a:=.dk []) (b:=.lst (sV ["s","q","r","p","t"]))) (by omega);walk_at "WPN";obtain ⟨nl,e,nd,nlen,sub⟩:∃nl:List Str,rg (sV ["s","q","r","p","t"]) none (some (1+y))=sV nl/\nl.Nodup/\nl.length<=5/\∀z∈nl,z∈(["s","q","r","p","t"]:List Str):=by
   have:y=0\/y=1\/y=2\/y=3\/y=4:=by omega
   rcases this with rfl|rfl|rfl|rfl|rfl
   ·exact ⟨["s"],rfl,by decide +kernel,by decide,by decide +kernel⟩
   ·exact ⟨["s","q"],rfl,by decide +kernel,by decide,by decide +kernel⟩
   ·exact ⟨["s","q","r"],rfl,by decide +kernel,by decide,by decide +kernel⟩
   ·exact ⟨["s","q","r","p"],rfl,by decide +kernel,by decide,by decide +kernel⟩
   ·exact ⟨["s","q","r","p","t"],rfl,by decide +kernel,by decide,fun z hz=>hz⟩
  have g6:=g4.trans g5;refine⟨_,cq gm,?_⟩;rw[e];refine⟨_,ao get_last,for_by Γm (fun i ρ s'=>NtI st p k' n names bd ws s2.length nl i ρ s'/\s'[s4.length]?=some (.lst (sV nl))) ⟨⟨[],none,none,none,none,(g3.trans g6).app,aR (g6.get hn3 (by omega)),aR (g6.get (c:=.dk []) (by rw[cC];rfl) (by omega)),⟨rfl,nd,nlen,sub⟩,fun q hq=>(nomatch hq),rfl⟩,get_last⟩ ?_ ?_⟩
  ·rintro i v ρ s' hi ⟨⟨T,nm,a,b,r,gT,hnm',hdT,hkT,hT,rfl⟩,hm⟩;refine⟨hm.trans get_last.symm,?_⟩;rw[MI] at hi;obtain⟨z,hz,rfl⟩:=MP.mp hi;have np:n≠p:=by omega
   have l6:=g6.len;simp only[List.length_append,List.length_cons,List.length_nil] at l6;have mp:s4.length≠p:=by omega
   have dp:s2.length≠p:=by omega
   rw[eP];show az Γ nO (ntF p k' (some (.ref n)) (some (.int bd)) (some (.tup (sV ws))) (some (.ref s2.length)) (some (.str z)) a b r) s' _;refine a8 (fun ρ t=>Gr s' p t/\∃x:Nat,x<names.length/\ρ=ntF p k' (some (.ref n)) (some (.int bd)) (some (.tup (sV ws))) (some (.ref s2.length)) (some (.str z)) (some (.int x)) b r) ?_ ?_
   ·unfold ntF;walk_at "WPN";refine⟨_,ao hnm',p,_,rfl,gT.pot,?_,?_,fun x t x0 x1 gt=>⟨gt,x.toNat,?_,by rw[OX x0]⟩⟩
    ·rw[ME];omega
    ·rw[ME];omega
    ·rw[ME] at x1;omega
   rintro _ s7 ⟨g7,x,xl,rfl⟩;refine a8 (fun ρ t=>Gr s' p t/\∃y:Nat,y<names.length/\ρ=ntF p k' (some (.ref n)) (some (.int bd)) (some (.tup (sV ws))) (some (.ref s2.length)) (some (.str z)) (some (.int x)) (some (.int y)) r) ?_ ?_
   ·unfold ntF;walk_at "WPN";refine⟨_,ao (g7.get hnm' np),p,_,rfl,g7.pot,?_,?_,fun y t y0 y1 gt=>?_⟩
    ·rw[ME];omega
    ·rw[ME];omega
    walk_at "WPN";refine⟨_,ao ((g7.trans gt).get hnm' np),by rw[ME];omega,g7.trans gt,(((x:Int)+1+y) % (names.length:Int)).toNat,?_,?_⟩
    ·have:=PR ((x:Int)+1+y) (b:=names.length) (by omega);have:=P6 ((x:Int)+1+y) (b:=names.length) (by omega);omega
    ·rw[ME,OX (PR _ (by omega))]
   rintro _ s8 ⟨g8,y,yl,rfl⟩;refine a8 (fun ρ t=>Gr s' p t/\∃L:List Rd,(∀r∈L,RdS 30 r/\RdK r)/\L.length<=4/\ρ=ntF p k' (some (.ref n)) (some (.int bd)) (some (.tup (sV ws))) (some (.ref s2.length)) (some (.str z)) (some (.int x)) (some (.int y)) (some (.tup (L.map rdV)))) ?_ ?_
   ·unfold ntF;walk_at "WPN";exact⟨p,k',rfl,g8.pot,k0,k4,fun L t gt hL ll=>⟨g8.trans gt,L,hL,ll,rfl⟩⟩
   rintro _ s9 ⟨g9,L,hL,ll,rfl⟩;have nx:atI (sV names) (x:Int)=some (.str names[x]):=dF (by rw[MI,M4 xl];rfl);have ny:atI (sV names) (y:Int)=some (.str names[y]):=dF (by rw[MI,M4 yl];rfl);refine a8 (fun ρ t=>Gr s' p t/\∃L:List Rd,(∀r∈L,RdS 30 r/\RdK r)/\L.length<=4/\ρ=ntF p k' (some (.ref n)) (some (.int bd)) (some (.tup (sV ws))) (some (.ref s2.length)) (some (.str z)) (some (.int x)) (some (.int y)) (some (.tup (L.map rdV)))) ?_ ?_
   ·unfold ntF;walk_at "WPN";refine⟨_,ao (g9.get hnm' np),_,nx,ws,rfl,?_⟩;walk_at "WPN";refine iM (fun _=>?_) fun _=>⟨g9,L,hL,ll,rfl⟩;refine⟨p,3,rfl,g9.pot,by decide,by decide,fun u t u0 u1 gt=>?_⟩;walk_at "WPN";refine⟨g9.trans gt,?_⟩;have fx:∀r∈([⟨(0,1),(2,1),(3,1),(5,1)⟩]:List Rd),RdS 30 r/\RdK r:=fun r hr=>by rw[M1.mp hr];exact⟨⟨⟨by decide,by decide,by decide⟩,⟨by decide,by decide,by decide⟩,⟨by decide,by decide,by decide⟩,⟨by decide,by decide,by decide⟩⟩,⟨by decide,by decide⟩,⟨by decide,by decide⟩,⟨by decide,by decide⟩,⟨by decide,by decide⟩,by decide⟩
    have:u=0\/u=1\/u=2:=by omega
    rcases this with rfl|rfl|rfl
    ·exact⟨[],fun r hr=>(nomatch hr),by decide,rfl⟩
    ·exact⟨_,fx,by decide,rfl⟩
    ·exact⟨_,fx,by decide,rfl⟩
   rintro _ s10 ⟨g10,L,hL,ll,rfl⟩;have d10:=g10.get hdT dp;have n10:=g10.get hnm' np;have m10:=g10.get hm mp;have il:=(MC.mp hz).1;have tln:T.length=(nl.take i).length:=by rw[<-hkT.1,ME]
   rw[N5] at tln;have no:z ∉ T.map (·.1):=by
    rw[hkT.1];have e:nl=nl.take i++z::nl.drop (i+1):=by rw[<-(MC.mp hz).2,O8,OC]
    have nd:=nd;rw[e,NP] at nd;exact fun h=>nd.2.2 _ h _ MQ rfl
   unfold ntF;walk_at "WP";refine⟨_,ao n10,_,nx,_,ao n10,_,ny,_,d10,by simp[kd,pv];omega,?_⟩;have ep:ie (kd (pv T)) (.inr z) (.tup [.str names[x],.str names[y],.tup (L.map rdV)])=kd (pv (T++[(z,⟨names[x],names[y],L⟩)])):=by rw[qU (by rw[qQ];exact no)];exact NC kd (NA (f:=fun p:Str × Te=>(p.1,teV p.2)) (l₂:=[(z,⟨names[x],names[y],L⟩)])).symm
   rw[ep];refine⟨⟨_,_,_,_,_,(gT.trans g10).setN (by omega),by rw[MH (by omega)];exact n10,MW (aB d10),⟨?_,nd,nlen,sub⟩,fun q hq=>?_,rfl⟩,by rw[MH (by omega)];exact m10⟩
   ·rw[NA,hkT.1,N8,hz];rfl
   ·rcases M9.mp hq with hq|hq
    ·exact hT q hq
    ·rw[M1.mp hq];exact⟨⟨hPL _ (OV xl),hPL _ (OV yl)⟩,hL,ll⟩
  ·rintro ρ s' ⟨hI,hm⟩;exact⟨hm.trans get_last.symm,nl,_,hI⟩
 rintro _ s5 ⟨nl,i,T,nm,a,b,r,g5,h5,hd5,hk,hT,rfl⟩;unfold ntF;walk_at "WP";obtain⟨e1,e2⟩:=iU k0 k4 (show 60<2 ^ 30 by decide);have tln:T.length=(nl.take i).length:=by rw[<-hk.1,ME]
 refine⟨60,k',rfl,k0,cU (show k'<2 ^ 3 by omega) (by decide),.inl (k _ ws _ T s5 g5 (by omega) hd5 ⟨e2,e1,wl,hw,by rw[hk.1];exact hk.2.1.sublist (List.take_sublist _ _),by rw[tln,N5];omega,fun q hq=>?_,fun q hq=>(hT q hq).1,fun q hq=>(hT q hq).2.1,fun q hq=>(hT q hq).2.2⟩)⟩;refine hk.2.2.2 _ (PH (i:=i) ?_);rw[<-hk.1];exact MV.mpr ⟨q,hq,rfl⟩
theorem Ea {i:Nat}(h:(cH .values (kd (pv T)))[i]?=some x):∃p,T[i]?=some p/\x=teV p.2:=by replace h:((kd (pv T)).map fun p=>p.2)[i]?=some x:=h;rw[NG,NG,MI] at h;obtain⟨p,hp,rfl⟩:=MP.mp h;exact⟨p,hp,rfl⟩
noncomputable def dyF (p:Nat)(e:F2)(ws:List Str)(d m:Nat)(a b r:Option PV):Fr:=[some (.ref p),some (bh e ws d),some (.ref m),a,b,r]
def DlI (st:AH)(p:Nat)(e:F2)(ws:List Str)(d:Nat)(T:Tb)(i:Nat)(ρ:Fr)(s:AH):Prop:=Kv st d s/\st.length<=s.length/\s[d]?=some (.fz (kd (pv T)))/\∃(M:List F2) (m:Nat) (a b r:Option PV),st.length<=m/\s[m]?=some (.lst (M.map fr))/\(∀x∈M,Mok 30 x)/\M.length<=4*i/\ρ=dyF p e ws d m a b r
def DlE (st:AH)(p:Nat)(e:F2)(ws:List Str)(d:Nat)(ρ:Fr)(s:AH):Prop:=Pre st s/\∃(M:List F2) (m:Nat) (a b r:Option PV),st.length<=m/\s[m]?=some (.lst (M.map fr))/\(∀x∈M,Mok 30 x)/\M.length<=20/\ρ=dyF p e ws d m a b r
theorem uH {as st Q}(h:cu as st Q):az Γ fe (frame 6 as) st (aj st Q):=by
 obtain⟨p,e,ws,d,T,rfl,hp,hdp,hd,hN,k⟩:=h;have dl:=aB hd;have pl:=hp.lt;have ln:=hN.ln;unfold fe;refine a8 (fun ρ s=>st++[.lst []]=s/\ρ=dyF p e ws d st.length none none none) (by walk_at "WPN";rfl) ?_;rintro _ _ ⟨rfl,rfl⟩;refine a8 (DlE st p e ws d) ?_ ?_
 ·unfold dyF;walk_at "WPN";refine⟨_,aR hd,for_by Γm (DlI st p e ws d T) ⟨fun i hi hne=>by rw[MH (by omega)];exact MS hi,by simp,MW (by simp;omega),[],st.length,none,none,none,MJ _,by rw[MH (by omega)];exact get_last,fun x hx=>(nomatch hx),NV _,rfl⟩ ?_ ?_⟩
  ·rintro i v ρ s hi ⟨pre,len,hfz,M,m,a,b,r,hm,hM,ok,ml,rfl⟩;refine⟨trivial,?_⟩;obtain⟨q,hq,rfl⟩:=Ea hi;have hqT:=MT hq;have hr:=hN.rs q hqT;have hl:=hN.rl q hqT;have i5:=(MC.mp hq).1;unfold dyF;walk_at "WP";refine⟨by rw[ME];omega,gR Γm (fun j acc s'=>s'=s/\∃M':List F2,acc=M'.map fr/\(∀x∈M',Mok 30 x)/\M'.length<=j) ⟨rfl,[],rfl,fun x hx=>(nomatch hx),MJ _⟩ ?_ ?_⟩
   ·rintro j y acc s' hj ⟨rfl,M',rfl,ok',ml'⟩;rw[MI] at hj;obtain⟨x,hxj,rfl⟩:=MP.mp hj;have hx:=hr x (MT hxj);refine⟨trivial,?_⟩;walk_at "WP";refine iM (fun _=>⟨M'++[x.b],by rw[NA];rfl,fun u hu=>?_,by simp;omega⟩) fun _=>⟨M',rfl,ok',by omega⟩;rcases M9.mp hu with hu|hu
    ·exact ok' u hu
    ·rw[M1.mp hu];exact⟨hx.1.b,hx.2.b⟩
   ·rintro acc s' ⟨rfl,M',rfl,ok',ml'⟩;rw[ME] at ml';refine⟨trivial,_,aR hM,by simp only[List.length_map];omega,fun c hc hne=>?_,by rw[NU];omega,aR hfz,M++M',_,_,_,_,by omega,by rw[eE (k:=1)];simp,fun u hu=>?_,by rw[NU];omega,rfl⟩
    ·rw[MS (by omega)];exact pre c hc hne
    ·rcases M9.mp hu with hu|hu
     ·exact ok u hu
     ·exact ok' u hu
  ·rintro ρ s ⟨pre,len,hfz,M,m,a,b,r,hm,hM,ok,ml,rfl⟩;rw[td,ME] at ml;refine⟨trivial,hfz,fun i hi=>?_,M,m,a,b,r,hm,?_,ok,by omega,rfl⟩
   ·by_cases z:i=d
    ·subst z;rw[MW (aB hfz)];exact hd.symm
    ·rw[MH (Ne.symm z)];exact pre i hi z
   ·rw[MH (by omega)];exact hM
 rintro _ s ⟨pr,M,m,a,b,r,hm,hM,ok,ml,rfl⟩;have g:Gr st p s:=⟨pr.len,fun i hi _=>pr i hi,by obtain⟨q,r,h1,h2⟩:=hp;exact⟨q,r,pr.get h1,h2⟩,pl⟩;unfold dyF;walk_at "WP";have small:∀s',Gr st p s'->bA [.ref p,.int 9] s' fun y st2=>j7 .Add (.int 36) y st2 fun x st1=>bu [x,.int 1] st1 fun v st1=>Ret st Q v st1:=fun s' g'=>by refine⟨p,9,rfl,g'.pot,by decide,by decide,fun y s2 y0 y1 g2=>?_⟩;obtain⟨a1,a2⟩:=iU (n:=(36+y).toNat) (k:=1) (by decide) (by decide) (by omega);show bu [.int (36+y),.int 1] s2 _;exact⟨(36+y).toNat,1,by rw[OX (by omega)];rfl,by decide,P4 (by decide),.inl (k _ _ (g'.trans g2) a2 a1)⟩
 refine⟨_,cq hM,iM (fun _=>small s g) fun c=>?_⟩;refine⟨p,3,rfl,g.pot,by decide,by decide,fun y s2 y0 y1 g2=>?_⟩;walk_at "WP";refine iM (fun _=>small s2 (g.trans g2)) fun _=>?_;have M0:0<M.length:=by rw[List.isEmpty_iff,List.map_eq_nil_iff] at c;exact PU.mpr c
 have mp:m≠p:=by omega
 have h2:=g2.get hM mp;refine⟨_,ao h2,p,_,rfl,g2.pot,by rw[ME];omega,by rw[ME];omega,fun u s3 u0 u1 g3=>?_⟩;rw[ME] at u1;obtain⟨j,rfl⟩:∃j:Nat,u=j:=⟨u.toNat,by omega⟩;have jl:j<M.length:=by omega
 obtain⟨a1,a2⟩:=ok _ (OV jl);walk_at "WP";exact⟨_,ao (g3.get h2 mp),_,dF (by rw[MI,M4 jl];rfl),.inl (k _ _ ((g.trans g2).trans g3) a2 a1)⟩
open PySem L2 HX FW
structure Gd (w k:Nat)(d:PyData):Prop where
 sh:d.showable=true
 lv:d.leavesShort 13=true
 bk:d.bulk<=w
 dp:d.depth<=k
theorem Gd.up {w' k':Nat}(h:Gd w k d)(h1:w<=w')(h2:k<=k'):Gd w' k' d:=⟨h.sh,h.lv,MY h.bk h1,MY h.dp h2⟩
theorem Gd.int {i:Int}(h:i.natAbs<10 ^ 12):Gd 9 0 (.int i):=by
 refine⟨?_,?_,by simp[PyData.bulk],by simp[PyData.depth]⟩
 ·rw[PyData.showable];refine NF ?_;by_cases z:i.natAbs=0
  ·rw[z];decide
  ·rw[QL z];exact O5 h (by decide +kernel)
 ·rw[PyData.leavesShort];exact NF (PyData.shown_int_le h)
theorem Gd.str {z:Str}(h:z.length<=9)(o:PyData.strOk z=true):Gd 9 0 (.str z):=by refine⟨by simp[PyData.showable],?_,by rw[PyData.bulk];exact h,by simp[PyData.depth]⟩;rw[PyData.leavesShort,QE];intro c hc;have:z.cps.all (fun c=>decide (c<0x110000))=true:=o;rw[Array.all_eq_true_iff_forall_mem] at this;have:=N6 (this c (Array.mem_toList_iff.mp hc));exact NF (by omega)
theorem Gd.all:∀ {ds:List PyData},(∀d∈ds,Gd w k d)->PyData.showableAll ds=true/\PyData.leavesShortAll 13 ds=true/\PyData.bulkAll ds<=ds.length*(w+1)/\PyData.depthAll ds<=k
 | [],_=>⟨by rw[PyData.showableAll],by rw[PyData.leavesShortAll],by rw[PyData.bulkAll];exact NV _,by rw[PyData.depthAll];exact NV _⟩
 | d::ds,h=>by obtain⟨a,b,c,e⟩:=Gd.all fun x hx=>h x (MM _ hx);have g:=h d MQ;have gb:=g.bk;have gd:=g.dp;refine⟨by rw[PyData.showableAll,g.sh,a];rfl,by rw[PyData.leavesShortAll,g.lv,b];rfl,?_,by rw[PyData.depthAll];omega⟩;rw[PyData.bulkAll,NS,Nat.add_mul];omega
theorem Gd.kv:∀ {es ds:List PyData},(∀d∈es,Gd 9 k d)->(∀d∈ds,Gd w k d)->PyData.showableKv (es.zip ds)=true/\PyData.leavesShortKv 13 (es.zip ds)=true/\PyData.bulkKv (es.zip ds)<=es.length*(w+11)/\PyData.depthKv (es.zip ds)<=k
 | [],ds,_,_=>by rw[List.zip_nil_left];exact⟨by rw[PyData.showableKv],by rw[PyData.leavesShortKv],by rw[PyData.bulkKv];exact NV _,by rw[PyData.depthKv];exact NV _⟩
 | e::es,[],_,_=>by rw[List.zip_nil_right];exact⟨by rw[PyData.showableKv],by rw[PyData.leavesShortKv],by rw[PyData.bulkKv];exact NV _,by rw[PyData.depthKv];exact NV _⟩
 | x::es,d::ds,h1,h=>by obtain⟨a,b,c,e⟩:=Gd.kv (fun y hy=>h1 y (MM _ hy)) fun y hy=>h y (MM _ hy);have g:=h d MQ;have g':=h1 x MQ;have gb:=g.bk;have gd:=g.dp;have gb':=g'.bk;have gd':=g'.dp;rw[List.zip_cons_cons];refine⟨by rw[PyData.showableKv,g'.sh,g.sh,a];rfl,by rw[PyData.leavesShortKv,g'.lv,g.lv,b];rfl,?_,by rw[PyData.depthKv];omega⟩;rw[PyData.bulkKv,NS,Nat.add_mul];omega
theorem Gd.tup {n w':Nat}{ds:List PyData}(l:ds.length<=n)(h:∀d∈ds,Gd w k d)(hw:n*(w+1)+9<=w'):Gd w' (k+1) (.tuple ds):=by obtain⟨a,b,c,e⟩:=Gd.all h;have:=PJ (w+1) l;exact⟨by rw[PyData.showable,a],by rw[PyData.leavesShort,b],by rw[PyData.bulk];omega,by rw[PyData.depth];omega⟩
theorem Gd.lst {n w':Nat}{ds:List PyData}(l:ds.length<=n)(h:∀d∈ds,Gd w k d)(hw:n*(w+1)+9<=w'):Gd w' (k+1) (.list ds):=by obtain⟨a,b,c,e⟩:=Gd.all h;have:=PJ (w+1) l;exact⟨by rw[PyData.showable,a],by rw[PyData.leavesShort,b],by rw[PyData.bulk];omega,by rw[PyData.depth];omega⟩
theorem Gd.dct {n w':Nat}{es ds:List PyData}(l:es.length<=n)(h1:∀d∈es,Gd 9 k d)(h:∀d∈ds,Gd w k d)(hw:n*(w+11)+9<=w'):Gd w' (k+1) (.dict (es.zip ds)):=by obtain⟨a,b,c,e⟩:=Gd.kv h1 h;have:=PJ (w+11) l;exact⟨by rw[PyData.showable,a],by rw[PyData.leavesShort,b],by rw[PyData.bulk];omega,by rw[PyData.depth];omega⟩
def Sh (w k m:Nat)(v:PV):Prop:=∃d,(∀s j,m<=j->shX s j v=some d)/\Gd w k d
theorem lJ:∀ {xs:List PV},(∀x∈xs,Sh w k m x)->∃ds,(∀s j,m<=j->cQ (xs.map (shX s j))=some ds)/\ds.length=xs.length/\∀d∈ds,Gd w k d
 | [],_=>⟨[],fun _ _ _=>rfl,rfl,fun d hd=>nomatch hd⟩
 | x::xs,h=>by
  obtain⟨d,hd,g⟩:=h x MQ;obtain⟨ds,hs,l,G⟩:=lJ fun y hy=>h y (MM _ hy);refine⟨d::ds,fun s j q=>?_,by rw[NS,l,NS],fun y hy=>?_⟩
  ·rw[MF,hd s j q,cQ,hs s j q];rfl
  ·rcases NB.mp hy with rfl|hy
   ·exact g
   ·exact G y hy
theorem Sh.tup {n w':Nat}{xs:List PV}(l:xs.length<=n)(h:∀x∈xs,Sh w k m x)(hw:n*(w+1)+9<=w'):Sh w' (k+1) (m+1) (.tup xs):=by obtain⟨ds,h1,h2,h3⟩:=lJ h;refine⟨.tuple ds,fun s j hj=>?_,Gd.tup (by omega) h3 hw⟩;obtain⟨j,rfl⟩:∃i,j=i+1:=⟨j-1,by omega⟩;rw[shX,h1 s j (by omega)];rfl
theorem Sh.up {w' k' m':Nat}(h:Sh w k m v)(h1:w<=w')(h2:k<=k')(h3:m<=m'):Sh w' k' m' v:=by obtain⟨d,a,b⟩:=h;exact⟨d,fun s j hj=>a s j (by omega),b.up h1 h2⟩
theorem Sh.nat {n:Nat}(h:n<10 ^ 12):Sh 9 0 0 (.int n):=⟨.int n,fun s j _=>by rw[shX],Gd.int (by simpa using h)⟩
abbrev Nms (z:Str):Prop:=z.length<=9/\PyData.strOk z=true
theorem PLs:∀z∈PL,Nms z:=by decide +kernel
theorem TNs:∀z∈(["s","q","r","p","t"]:List Str),Nms z:=by decide +kernel
theorem Sh.nm (h:Nms z):Sh 9 0 0 (.str z):=⟨.str z,fun s j _=>by rw[shX],Gd.str h.1 h.2⟩
theorem Sh.fr (h:Sz 30 p):Sh 29 1 1 (fr p):=.tup (n:=2) (w:=9) (by simp) (fun x hx=>by
 simp only[List.mem_cons,List.not_mem_nil,or_false] at hx;rcases hx with rfl|rfl
 ·exact .nat (O5 h.a (by decide))
 ·exact .nat (O5 h.b (by decide))) (by decide)
theorem Sh.rd (h:RdS 30 r):Sh 129 2 2 (rdV r):=.tup (n:=4) (w:=29) (by simp) (fun x hx=>by
 simp only[List.mem_cons,List.not_mem_nil,or_false] at hx;rcases hx with rfl|rfl|rfl|rfl
 ·exact .fr h.a
 ·exact .fr h.b
 ·exact .fr h.c
 ·exact .fr h.d) (by decide)
structure TeS (t:Te):Prop where
 a:Nms t.a
 b:Nms t.b
 rs:∀r∈t.rs,RdS 30 r
 len:t.rs.length<=8
theorem Sh.te (h:TeS t):Sh 3159 4 4 (teV t):=.tup (n:=3) (w:=1049) (by simp) (fun x hx=>by
 simp only[List.mem_cons,List.not_mem_nil,or_false] at hx;rcases hx with rfl|rfl|rfl
 ·exact(Sh.nm h.a).up (by decide) (by decide) (by decide)
 ·exact(Sh.nm h.b).up (by decide) (by decide) (by decide)
 ·exact .tup (n:=8) (w:=129) (k:=2) (m:=2) (by rw[ME];exact h.len) (fun x hx=>by obtain⟨r,hr,rfl⟩:=MV.mp hx;exact .rd (h.rs r hr)) (by decide)) (by decide)
theorem Sh.ws {ws:List Str}(l:ws.length<=4)(h:∀z∈ws,Nms z):Sh 49 1 1 (.tup (sV ws)):=.tup (n:=4) (w:=9) (by rw[ME];exact l) (fun x hx=>by obtain⟨z,hz,rfl⟩:=MV.mp hx;exact .nm (h z hz)) (by decide)
theorem B5 (hN:mQ e ws ps):∃z:Str,∀(s:AH) (d:Nat) (Q:EK),s[d]?=some (.dk (kd (pv ps)))->Q (.str z) s->sH s Q (bh e ws d):=by
 obtain⟨d1,h1,g1⟩:=Sh.fr hN.es;obtain⟨d2,h2,g2⟩:=Sh.ws hN.wl fun z hz=>PLs z (hN.ww z hz);obtain⟨ds,h3,l3,g3⟩:=lJ (w:=3159) (k:=4) (m:=4) (xs:=(kd (pv ps)).map fun kv=>kv.2) fun x hx=>by simp only[kd,pv,List.map_map,List.mem_map] at hx;obtain⟨q,hq,rfl⟩:=hx;exact .te ⟨PLs _ (hN.pl q hq).1,PLs _ (hN.pl q hq).2,fun r hr=>(hN.rs q hq r hr).1,MY (hN.rl q hq) (by decide)⟩
 have gl:Gd 31709 5 (.dict (((kd (pv ps)).map fun kv=>kD kv.1).zip ds)):=.dct (n:=10) (w:=3159) (k:=4) (by simp;exact MY hN.ln (by decide)) (fun d hd=>by simp only[kd,pv,List.map_map,List.mem_map] at hd;obtain⟨q,hq,rfl⟩:=hd;exact(Gd.str (TNs _ (hN.nm q hq)).1 (TNs _ (hN.nm q hq)).2).up (by decide) (by decide)) g3 (by decide)
 have g:Gd 95139 6 (.tuple [d1,d2,.dict (((kd (pv ps)).map fun kv=>kD kv.1).zip ds)]):=.tup (n:=3) (w:=31709) (by simp) (fun d hd=>by
  simp only[List.mem_cons,List.not_mem_nil,or_false] at hd;rcases hd with rfl|rfl|rfl
  ·exact g1.up (by decide) (by decide)
  ·exact g2.up (by decide) (by decide)
  ·exact gl) (by decide)
 generalize hD:PyData.dict (((kd (pv ps)).map fun kv=>kD kv.1).zip ds)=D at gl g;have fit:(PyData.tuple [d1,d2,D]).showable=true/\(PyData.tuple [d1,d2,D]).depth<=60/\(PyData.tuple [d1,d2,D]).shown.length<=sizeLine:=⟨g.sh,MY g.dp (by decide),PyData.shown_fits_bulk (B:=13) (by decide) (by decide) g.lv (MY g.bk (by decide +kernel))⟩;refine⟨(PyData.tuple [d1,d2,D]).shown,fun s d Q ed q=>?_⟩;have e3:shX s 8 (.ref d)=some D:=by have h3:=h3 s 7 (by decide);rw[NG] at h3;rw[shX,ed,<-hD];dsimp only;rw[show (kd (pv ps)).map (fun kv=>shX s 7 kv.2)=(kd (pv ps)).map (shX s 7 ∘ fun kv=>kv.2) from rfl,h3];rfl
 have e4:shX s 9 (bh e ws d)=some (.tuple [d1,d2,D]):=by rw[shX,MF,MF,MF,NM,h1 s 8 (by decide),h2 s 8 (by decide),e3];rfl
 exact⟨_,e4,fit,q⟩
theorem AW (h:Fst ws day T z)(h':Fst ws day T z'):z=z':=NL (h.symm.trans h')
theorem Bz (h:Fst ws day T z):∃p∈T,p.1=z/\again ws day p.2=false:=by obtain⟨p,hp,e⟩:=MP.mp h;have a:=QJ hp;refine⟨p,eJ (OA hp),e,?_⟩;simpa using a
theorem qh (h:Fst ws day T z)(a:All ws day T):False:=by obtain⟨p,hp,_,e⟩:=Bz h;rw[a.ag p hp] at e;cases e
theorem CZ {t:Te}(ha:Nms t.a)(hb:Nms t.b):∃d,(teV t).toD=some d/\SeqAt.shaped d=true:=by obtain⟨c,d⟩:=qy (L:=t.rs);refine⟨.tuple [.str t.a,.str t.b,.tuple (t.rs.map rdD)],by simp[PV.toD,PV.toDs,qv],?_⟩;simp[SeqAt.shaped,PyData.canLay0,PyData.canLayAll0,PyData.depth,PyData.depthAll,c,ha.2,hb.2];omega
theorem DU {p:F2}:ot (fr p) (fr p):=⟨rfl,_,by rw[show (fr p).toD=some (frD p) by simp[PV.toD,PV.toDs,frD]],by simp[SeqAt.shaped,frD,PyData.canLay0,PyData.canLayAll0,PyData.depth,PyData.depthAll]⟩
theorem A_:∀ {L:List Str},PV.toDs (sV L)=some (L.map PyData.str)
 | []=>rfl
 | z::L=>by show PV.toDs (.str z::sV L)=_;rw[PV.toDs,A_];rfl
theorem BG:∀ {L:List Str},(∀z∈L,Nms z)->PyData.canLayAll0 (L.map PyData.str)=true/\PyData.depthAll (L.map PyData.str)<=3
 | [],_=>⟨rfl,by decide⟩
 | z::L,h=>by obtain⟨c,d⟩:=BG fun x hx=>h x (MM _ hx);have:=(h z MQ).2;rw[MF,PyData.canLayAll0,PyData.depthAll,c];simp[PyData.canLay0,PyData.depth,this];omega
theorem CW {L:List Str}(h:∀z∈L,Nms z):ot (.tup (sV L)) (.tup (sV L)):=by obtain⟨c,d⟩:=BG h;refine⟨rfl,.tuple (L.map PyData.str),by rw[PV.toD,A_];rfl,?_⟩;simp[SeqAt.shaped,PyData.canLay0,PyData.depth,c];omega
theorem mB (hN:mQ e ws T)(hA:All ws day T)(h1:dn s k1 ((dA T).map (mvT day n)))(h2:dn s k2 (T.map (mvT day n))):o8 s (bh e' ws k1) (bh e' ws k2):=by
 refine .inl ⟨_,_,rfl,rfl,.inl DU,.inl (CW fun z hz=>PLs z (hN.ww z hz)),.inr (.inl ⟨_,_,_,_,rfl,rfl,h1,h2,?_,fun q hq=>?_⟩),trivial⟩
 ·have tkk:(dA T).map (·.1)=srt (T.map (·.1)):=qN hN.nd fun z hz=>hA.pm.subset hz;have:=NC List.length tkk;rw[ME,hA.pm.length_eq,ME] at this;simp[kd,pv,this]
 ·obtain⟨q1,hq1,rfl⟩:=MV.mp hq;obtain⟨q2,hq2,rfl⟩:=MV.mp hq1;obtain⟨r,hr0,rfl⟩:=MV.mp hq2;have hr:=eJ hr0;refine⟨_,tT (T:=T.map (mvT day n)) (by rw[NG];exact hN.nd) (p:=mvT day n r) (MV.mpr ⟨r,hr,rfl⟩),rfl,?_⟩;exact CZ (PLs _ (hN.pl r hr).1) (PLs _ (hN.pl r hr).2)
noncomputable def laF (ns:List Int)(p pt nt dy mn bf wr on mo mm:Option PV):Fr:=[some (.rdl (ns.map .int)),p,pt,nt,dy,mn,bf,wr,on,mo,mm]
def LaN (ns:List Int)(p pt:Nat)(ρ:Fr)(s:AH):Prop:=Pot s p/\∃e ws d T,p<d/\dn s d T/\mQ e ws T/\ρ=laF ns (some (.ref p)) (some (.int pt)) (some (bh e ws d)) none none none none none none none
theorem Pre.eq (h:Pre st s):s=st++s.drop st.length:=by
 have e:s.take st.length=st:=by
  refine List.ext_getElem? fun i=>?_;by_cases z:i<st.length
  ·rw[OJ z];exact h i z
  ·have hl:(s.take st.length).length<=i:=by rw[N5];omega
   have hr:st.length<=i:=by omega
   rw[NJ hl,NJ hr]
 rw[<-OC st.length s,e];simp
theorem Pre.tmp {v:PV}{Q:EK}(h:Pre st s)(hv:v.bel st.length=true)(k:Q v st):Tmp st Q v s:=by rw[h.eq];exact Tmp.app hv k
theorem Pre.pot (h:Pre st s)(k:Pot st p):Pot s p:=by obtain⟨q,r,e,z⟩:=k;exact⟨q,r,h.get e,z⟩
theorem yU {st:AH}{a:Cell}:(st++[a,b,c])[st.length+2]?=some c:=by simp
theorem pK:∀ {n:Nat},iy (List.replicate n (.bl true))=some (List.replicate n true)
 | 0=>rfl
 | n+1=>by rw[List.replicate_succ,iy,pK];rfl
noncomputable def laG (ns:List Int)(p pt:Nat)(e:F2)(ws:List Str)(d:Nat)(day:F2)(n:Nat)(bz:Str)(k1 k2:Nat)(mm:Option PV):Fr:=laF ns (some (.ref p)) (some (.int pt)) (some (bh e ws d)) (some (fr day)) (some (.int n)) (some (.str bz)) (some (.str "")) (some (bh (bM (n,1) day) ws k1)) (some (bh (bM (n+1,1) day) ws k2)) mm
def LaM (ns:List Int)(p pt:Nat)(e:F2)(ws:List Str)(d:Nat)(day:F2)(n:Nat)(bz:Str)(k1:Nat)(T:Tb)(s7:AH)(ρ:Fr)(s:AH):Prop:=∃k2,Pre s7 s/\s7.length<=k2/\dn s k2 ((dA T).map (mvT day (n+1)))/\ρ=laG ns p pt e ws d day n bz k1 k2 none
def LaK (ns:List Int)(p pt:Nat)(e:F2)(ws:List Str)(d:Nat)(day:F2)(n:Nat)(bz:Str)(k1 k2:Nat)(s8:AH)(ρ:Fr)(s:AH):Prop:=Pre s8 s/\ρ=laG ns p pt e ws d day n bz k1 k2 none
def LaT (ns:List Int)(p pt:Nat)(e:F2)(ws:List Str)(d:Nat)(day:F2)(n:Nat)(bz:Str)(k1 k2:Nat)(s10:AH)(ρ:Fr)(s:AH):Prop:=Gr s10 p s/\∃(ml:Nat) (ms:List F2),s10.length<=ml/\s[ml]?=some (.lst (ms.map fr))/\ms.length<=5/\(∀m∈ms,Cop m/\Sz 35 m)/\ρ=laG ns p pt e ws d day n bz k1 k2 (some (.ref ml))
def LaU (ns:List Int)(p pt:Nat)(e:F2)(ws:List Str)(d:Nat)(day:F2)(n:Nat)(bz:Str)(k1 k2 ml:Nat)(s11:AH)(ρ:Fr)(s:AH):Prop:=Pre s11 s/\ρ=laG ns p pt e ws d day n bz k1 k2 (some (.ref ml))
theorem Ja {as st Q}(h:iC as st Q):az Γ l_ (frame 11 as) st (aj st Q):=by
 obtain⟨ns,rfl,hl,k⟩:=h;unfold l_;refine a8 (fun ρ s=>∃p,Pot s p/\ρ=laF ns (some (.ref p)) none none none none none none none none none) ?_ ?_
 ·walk_at "WPN";exact⟨ns,0,rfl,hl,by decide,fun q r h=>⟨_,⟨q,r,get_last,h⟩,rfl⟩⟩
 rintro _ s1 ⟨p,hp,rfl⟩;refine a8 (fun ρ s=>Pot s p/\∃pt:Nat,0<pt/\pt<=4/\ρ=laF ns (some (.ref p)) (some (.int pt)) none none none none none none none none) ?_ ?_
 ·unfold laF;walk_at "WPN";refine⟨p,4,rfl,hp,by decide,by decide,fun x s x0 x1 g=>?_⟩;walk_at "WPN";exact⟨g.pot,(1+x).toNat,by omega,by omega,by omega⟩
 rintro _ s2 ⟨hp,pt,pt0,pt4,rfl⟩;refine a8 (LaN ns p pt) ?_ ?_
 ·unfold laF;walk_at "WPN";exact⟨p,pt,rfl,hp,pt0,pt4,fun e ws d T s g hd hdk hN=>⟨g.pot,e,ws,d,T,MK hp.lt hd,hdk,hN,rfl⟩⟩
 rintro _ s3 ⟨hp,e,ws,d,T,dp,hd,hN,rfl⟩;refine a8 (fun ρ s=>Pot s p/\dn s d T/\∃day,Cop day/\Sz 30 day/\ρ=laF ns (some (.ref p)) (some (.int pt)) (some (bh e ws d)) (some (fr day)) none none none none none none) ?_ ?_
 ·unfold laF;walk_at "WPN";exact⟨p,e,ws,d,T,rfl,hp,by omega,hd,hN,fun y s g c z=>⟨g.pot,g.get hd (by omega),y,c,z,rfl⟩⟩
 rintro _ s4 ⟨hp,hd,day,cd,zd,rfl⟩;refine a8 (fun ρ s=>Pot s p/\dn s d T/\∃n:Nat,0<n/\n<=4/\ρ=laF ns (some (.ref p)) (some (.int pt)) (some (bh e ws d)) (some (fr day)) (some (.int n)) none none none none none) ?_ ?_
 ·unfold laF;walk_at "WPN";refine⟨p,4,rfl,hp,by decide,by decide,fun x s x0 x1 g=>?_⟩;walk_at "WPN";exact⟨g.pot,g.get hd (by omega),(1+x).toNat,by omega,by omega,by omega⟩
 rintro _ s5 ⟨hp,hd,n,n0,n4,rfl⟩;obtain⟨bz,hbz⟩:=B5 hN;refine a8 (fun ρ s=>s5=s/\ρ=laF ns (some (.ref p)) (some (.int pt)) (some (bh e ws d)) (some (fr day)) (some (.int n)) (some (.str bz)) none none none none) ?_ ?_
 ·unfold laF;walk_at "WPN";exact hbz _ _ _ hd ⟨rfl,rfl⟩
 rintro _ _ ⟨rfl,rfl⟩;refine a8 (fun ρ s=>∃v,pQ s5 ws day T v s/\ρ=laF ns (some (.ref p)) (some (.int pt)) (some (bh e ws d)) (some (fr day)) (some (.int n)) (some (.str bz)) (some v) none none none) ?_ ?_
 ·unfold laF;walk_at "WPN";exact⟨e,ws,d,T,day,rfl,hd,hN,zd,fun v s h=>⟨v,h,rfl⟩⟩
 rintro _ s6 ⟨vw,hw,rfl⟩;have p6:Pre s5 s6:=by cases hw <;> assumption
 have hd6:=p6.get hd;refine a8 (fun ρ s=>∃v,xf s6 ws day T n v s/\ρ=laF ns (some (.ref p)) (some (.int pt)) (some (bh e ws d)) (some (fr day)) (some (.int n)) (some (.str bz)) (some vw) (some v) none none) ?_ ?_
 ·unfold laF;walk_at "WPN";exact⟨e,ws,d,T,day,n,rfl,hd6,hN,zd,by omega,fun v s h=>⟨v,h,rfl⟩⟩
 rintro _ s7 ⟨v1,h1,rfl⟩;have p7:Pre s6 s7:=by cases h1 <;> assumption
 have hd7:=p7.get hd6;cases hw with
 | @ex z _ pr hf =>
  cases h1 with
  | ok hA _ _ _=>exact(qh hf hA).elim
  | @ex z' m _ pr1 hk hl1 hf1 =>
   obtain rfl:=AW hf hf1;obtain⟨q,hq,eq,_⟩:=Bz hf;have zn:Nms z:=by rw[<-eq];exact TNs _ (hN.nm q hq)
   have z0:z≠"":=by
    rw[<-eq];have:∀y∈(["s","q","r","p","t"]:List Str),y≠"":=by decide +kernel
    exact this _ (hN.nm q hq)
   unfold laF;walk_at "WP";rw[MN z0];refine .inl ⟨.inl ⟨_,_,rfl,rfl,.inr (.inr ⟨.list [.bool true,.bool false,.bool false,.bool false,.bool false,.bool true],by unfold iP;simp only[aR hl1];rfl,by unfold iP;simp only[get_last];rfl,by decide +kernel⟩),.inl ⟨rfl,.str z,rfl,by simp[SeqAt.shaped,PyData.canLay0,PyData.depth,zn.2]⟩,trivial⟩,hbz _ _ _ (aR hd7) ?_⟩;show Ret st Q (.bl (decide (bz=bz))) _;rw[NF rfl];exact .inl (k _)
 | ok hA pr =>
  cases h1 with
  | ex _ _ _ hf=>exact(qh hf hA).elim
  | @ok k1 _ _ pr1 hk1 hd1 =>
   refine a8 (fun ρ s=>s7=s/\ρ=laF ns (some (.ref p)) (some (.int pt)) (some (bh e ws d)) (some (fr day)) (some (.int n)) (some (.str bz)) (some (.str "")) (some (bh (bM (n,1) day) ws k1)) none none) ?_ ?_
   ·unfold laF;walk_at "WPN"
   rintro _ _ ⟨rfl,rfl⟩;refine a8 (LaM ns p pt e ws d day n bz k1 T s7) ?_ ?_
   ·unfold laF;walk_at "WPN";refine⟨e,ws,d,T,day,n+1,rfl,hd7,hN,zd,by omega,fun v s h=>?_⟩;cases h with
    | ex _ _ _ hf=>exact(qh hf hA).elim
    | @ok k2 _ _ pr2 hk2 hd2=>exact⟨k2,pr2,hk2,hd2,rfl⟩
   rintro _ s8 ⟨k2,pr8,hk2,hd2,rfl⟩;have hd8:=pr8.get hd7;have hd81:=pr8.get hd1;refine a8 (LaK ns p pt e ws d day n bz k1 k2 s8) ?_ ?_
   ·unfold laG laF;walk_at "WPN";refine⟨e,ws,d,T,day,n,rfl,hd8,hN,zd,by omega,fun k3 s9 pr9 hk3 hd3=>.inl ⟨mB hN hA (pr9.get hd81) hd3,?_⟩⟩;refine⟨e,ws,d,T,day,n+1,rfl,pr9.get hd8,hN,zd,by omega,fun k4 s10 pr10 hk4 hd4=>.inl ⟨mB hN hA ((pr9.trans pr10).get hd2) hd4,?_⟩⟩;exact⟨pr9.trans pr10,rfl⟩
   rintro _ s9 ⟨pr9,rfl⟩;refine a8 (LaK ns p pt e ws d day n bz k1 k2 s9) ?_ ?_
   ·unfold laG laF;walk_at "WPN";refine hbz _ _ _ (pr9.get hd8) ?_;show (if decide (bz=bz)=false then _ else _);rw[NF rfl];exact⟨Pre.refl,rfl⟩
   rintro _ s10 ⟨pr10,rfl⟩;have hp10:Pot s10 p:=pr10.pot (pr9.pot (pr8.pot (p7.pot (p6.pot hp))));refine a8 (LaT ns p pt e ws d day n bz k1 k2 s10) ?_ ?_
   ·unfold laG laF;walk_at "WPN";refine⟨by decide,gR Γm (fun i acc s=>i<=3->∃ms:List F2,acc=ms.map fr/\ms.length<=i/\(∀m∈ms,Cop m/\Sz 35 m)/\Gr s10 p s) (fun _=>⟨[],rfl,MJ _,fun m hm=>(nomatch hm),Gr.refl hp10⟩) ?_ ?_⟩
    ·rintro i v acc s hi hI;have il:i<3:=(MC.mp hi).1;obtain⟨ms,rfl,ml,hm,g⟩:=hI (by omega);refine⟨trivial,?_⟩;walk_at "WP";refine⟨wF (by decide) (by decide),p,50*n,rfl,g.pot,by omega,by omega,fun x t x0 x1 gt=>?_⟩;obtain⟨N,rfl⟩:∃N:Nat,x=N:=⟨x.toNat,by omega⟩;refine⟨N,pt,rfl,pt0,cU (show pt<2 ^ 3 by omega) (by decide),fun _=>⟨ms++[aZ N pt],by simp,by simp;omega,fun m h=>?_,g.trans gt⟩⟩;rcases M9.mp h with h|h
     ·exact hm m h
     ·rw[M1.mp h];have o:=iU pt0 pt4 (show N<2 ^ 30 by omega);exact⟨o.c,o.z.mono (by decide)⟩
    ·rintro acc s hI;obtain⟨ms,rfl,ml,hm,g⟩:=hI (by decide);rw[show (cO 0 3).length=3 by decide] at ml;refine⟨trivial,?_,g.app,s.length+2,ms++[(0,1),bM (n,1) day],?_,?_,?_,fun m h=>?_,rfl⟩
     ·rw[ME];omega
     ·have:=g.len;omega
     ·rw[NA];exact yU
     ·simp;omega
     ·rcases M9.mp h with h|h
      ·exact hm m h
      ·rcases NB.mp h with rfl|h
       ·exact⟨⟨by decide,by decide⟩,by decide,by decide,by decide⟩
       ·rw[M1.mp h];exact⟨rW Nat.one_pos cd.pos,(lp (j:=3) (p:=(n,1)) ⟨by show n<8;omega,show 1<8 by decide,Nat.one_pos⟩ zd).mono (by decide)⟩
   rintro _ s11 ⟨g11,ml,ms,hml,hms,h5,hmk,rfl⟩;have ld5:=aB hd;have l56:=p6.len;have l67:=p7.len;have kp1:k1≠p:=by omega
   have kp2:k2≠p:=by omega
   have k10:=pr10.get (pr9.get hd81);have k20:=pr10.get (pr9.get hd2);refine a8 (LaU ns p pt e ws d day n bz k1 k2 ml s11) ?_ ?_
   ·unfold laG laF;walk_at "WPN";refine⟨_,ao hms,?_,gR Γm (fun i acc s=>acc=List.replicate i (.bl true)/\Pre s11 s) ⟨rfl,Pre.refl⟩ ?_ ?_⟩
    ·rw[ME];omega
    ·rintro i v acc s hi ⟨rfl,pr⟩;rw[MI] at hi;obtain⟨t,ht,rfl⟩:=MP.mp hi;obtain⟨ct,zt⟩:=hmk t (MT ht);refine⟨pr ml (aB hms),?_⟩;walk_at "WP";exact⟨e,ws,k1,k2,T,day,n,t,rfl,pr.get (g11.get k10 kp1),pr.get (g11.get k20 kp2),hN,hA,cd,zd,n4,ct,zt,fun s' pr'=>⟨List.replicate_succ'.symm,pr.trans pr'⟩⟩
    ·rintro acc s ⟨rfl,pr⟩;refine⟨pr ml (aB hms),_,cq get_last,_,pK,pr.app.tmp rfl ?_⟩;show (if (List.replicate (ms.map fr).length true).all id=false then _ else _);rw[ML (by simp)];exact⟨Pre.refl,rfl⟩
   rintro _ s12 ⟨pr12,rfl⟩;refine a8 (fun ρ s=>s12.set k1 (.dk [])=s/\ρ=laG ns p pt e ws d day n bz k1 k2 (some (.ref ml))) ?_ ?_
   ·unfold laG laF;walk_at "WPN";exact⟨_,pr12.get (g11.get k10 kp1)⟩
   rintro _ _ ⟨rfl,rfl⟩;have dk1:k1≠d:=by omega
   have dpn:d≠p:=by omega
   have hdd:=pr12.get (g11.get (pr10.get (pr9.get hd8)) dpn);have hde:dn (s12.set k1 (.dk [])) d T:=by rw[dn,MH dk1];exact hdd
   unfold laG laF;walk_at "WP";unfold okO c8;refine⟨e,ws,d,T,day,n,rfl,hde,hN,zd,by omega,fun v s hR=>?_⟩;cases hR with
   | ex _ hf=>exact(qh hf hA).elim
   | @ok kd _ _ prd hkd hdd' =>rw[wV];refine⟨e,ws,d,T,day,n,rfl,prd.get hde,hN,zd,by omega,fun km s' prm hkm hdm=>.inl ⟨mB hN hA (prm.get hdd') hdm,.inl (k _)⟩⟩
section
variable {P:Program}{w:World}{K:W.Frag}{mg:Str->Option Value}{base:Heap}
theorem sj (F:At K mg "paper_by" bB ["root","moment","steps","is_ahead"]):Has P w K mg base 21 "paper_by" ["root","moment","steps","is_ahead"] (bj K (Γ 20)):=yD F
theorem tX (F:At K mg "paper_by" bB ["root","moment","steps","is_ahead"])(G:GOk P w K mg base iR Γ):AC P w K mg base 20 35 18 "paper_by" Γ:=KO F sv rfl rfl rfl uV G (by decide) rfl (fun a cs as st Q h1 h2=>uE h1 h2)
theorem t7 {c0:Addr}{an:Option Addr}{kV doc pm ct:Value}(a:W.nsIn K mainGlobals "paper_of"=some (some (.ref f)))(l:K.lookup f=some ⟨oc,od,.func (W.fnOf "paper_of" "paper_of" (aY a7) (ah a7) (ae a7) .none kV doc pm an (.ref c0) ct),osl⟩)(t:W.tabIn K "paper_of"=some (c0,T))(B:gY K mg base)(F:At K mg "paper_of" a7 ["net","start","moment"])(cc:W.codeIn K (.ref c0) "paper_of"=true)(hmg:mg "paper_of"=some (.ref f))(G:GOk P w K mg base iN Γ)(M:AC P w K mg base 20 35 18 "paper_by" Γ):Has P w K mg base 22 "paper_of" ["net","start","moment"] (bj K (Γ 21)):=C9 a l t (by decide) B F cc hmg rJ rfl rfl uU G (fun k z=>by cases z;exact⟨fun z=>(by cases z),fun t z=>(by cases z;exact M)⟩) (fun as st Q=>qG (st:=st)) (fun as st Q=>vC)
end
local macro_rules | `(tactic| walk_at "AR")=>`(tactic| first|exact fun _ _ _ _ _ _ us hl=>ar1 (P:=fun us=>bindArgs _ { pos:=us }=pure (List.zip _ us)) (fun _=>rfl) us hl|exact fun _ _ _ _ _ _ us hl=>ar2 (P:=fun us=>bindArgs _ { pos:=us }=pure (List.zip _ us)) (fun _ _=>rfl) us hl|exact fun _ _ _ _ _ _ us hl=>ar3 (P:=fun us=>bindArgs _ { pos:=us }=pure (List.zip _ us)) (fun _ _ _=>rfl) us hl|exact fun _ _ _ _ _ _ us hl=>ar4 (P:=fun us=>bindArgs _ { pos:=us }=pure (List.zip _ us)) (fun _ _ _ _=>rfl) us hl|exact fun _ _ _ _ _ _ us hl=>ar5 (P:=fun us=>bindArgs _ { pos:=us }=pure (List.zip _ us)) (fun _ _ _ _ _=>rfl) us hl)
abbrev zn (K:W.Frag)(n:Str):Prop:=W.nsIn K mainGlobals n=some none
theorem all_mk {l:W.OpenLaw}{K:W.Frag}(X:K.In h)(G:h.Ns mainGlobals mg)(hfa:mg "law"=some (.ref fa)){kV20 dc20 pm20 cd20 ct20:Value}{an20:Option Addr}{kV21 dc21 pm21 ct21:Value}{an21:Option Addr}{cc21:Addr}{ikV0 idc0 ipm0 icd0 ict0:Value}{ian0:Option Addr}(sy:K.lookup sysModules=none)(d0:DI K "common_divisor" bV)(d1:DI K "fraction" fS)(d2:DI K "plus" qz)(d3:DI K "times" ly)(d4:DI K "is_below" fM)(d5:DI K "later" lC)(d6:DI K "rides_of_days" cb)(d7:DI K "comes_again" c9)(d8:DI K "days" qR)(d9:DI K "crosswise" eG)(d10:DI K "on_straight" cY)(d11:DI K "come_by" gZ)(d12:DI K "falls" lz)(d13:DI K "best_from" eK)(d14:DI K "is_better" eR)(d15:DI K "set_out" gO)(d16:DI K "first_of" fZ)(d17:DI K "out_and_coming" bX)(d18:DI K "comings_from" cK)(d19:DI K "_law_pot" fX)(a20:W.nsIn K mainGlobals "paper_by"=some (some (.ref f20)))(l20:K.lookup f20=some ⟨oc20,od20,.func (W.fnOf "paper_by" "paper_by" (aY bB) (ah bB) (ae bB) .none kV20 dc20 pm20 an20 cd20 ct20),sl20⟩)(c20:W.codeIn K cd20 "paper_by"=true)(k20:W.keepIn K (.ref f20)=true)(a21:W.nsIn K mainGlobals "paper_of"=some (some (.ref f21)))(l21:K.lookup f21=some ⟨oc21,od21,.func (W.fnOf "paper_of" "paper_of" (aY a7) (ah a7) (ae a7) .none kV21 dc21 pm21 an21 (.ref cc21) ct21),sl21⟩)(c21:W.codeIn K (.ref cc21) "paper_of"=true)(k21:W.keepIn K (.ref f21)=true)(tc21:K.lookup cc21=some ⟨tx21,ty21,.fields tw21,tu21⟩)(tv21:tw21[11]?=some (.ref tT21))(tn21:K.lookup tT21=none)(tr21:(PyProof.Rows.recsOf q).find? (fun e=>e.name == ("paper_of":Str))=some td21)(d22:DI K "soonest" gJ)(d23:DI K "_law_take" eM)(d24:DI K "_law_low" fR)(d25:DI K "_law_under" dC)(d26:DI K "_law_more" eI)(d27:DI K "_law_rides" dB)(d28:DI K "_law_net" fW)(d29:DI K "_law_day" fL)(d30:DI K "_law_first_wrong" bx)(d31:DI K "_law_moved" dE)(d32:DI K "_law_told" eL)(d33:DI K "_law_later" dI)(d34:DI K "law" kn)(z0:zn K "tuple")(z1:zn K "range")(z2:zn K "all")(z3:zn K "sorted")(z4:zn K "max")(z5:zn K "len")(z6:zn K "divmod")(z7:zn K "isinstance")(z8:zn K "ValueError")(z9:zn K "repr")(tz0:zn K "coming")(tz1:zn K "latest")(tz2:zn K "through")(y0:CI K "HourError" C0)(y1:CI K "NoDay" C1)(y2:CI K "NoTie" C2)(y3:CI K "NotRight" C3)(y4:CI K "NoText" C4)(y5:CI K "Overtaken" C5)(ex0:W.excIn K C0 ky "ValueError.__new__"=true)(ia0:W.findIn K (.ref C1) "__init__"=some (some (.ref fI0)))(il0:K.lookup fI0=some ⟨ioc0,iod0,.func (W.fnOf "__init__" "NoDay.__init__" (aY cN) (ah cN) (ae cN) .none ikV0 idc0 ipm0 ian0 icd0 ict0),isl0⟩)(ic0:W.codeIn K icd0 "NoDay.__init__"=true)(iv0:cE K C1 fI0 C0 ["name"]=true)(xv0:W.mroIn K C1 (.type "ValueError")=some true)(rl_0_0:W.mroIn K C1 (.ref C0)=some true)(rl_0_1:W.mroIn K C1 (.ref C1)=some true)(rl_0_2:W.mroIn K C1 (.ref C2)=some false)(ne_0_2:C1≠C2)(rl_0_3:W.mroIn K C1 (.ref C3)=some false)(ne_0_3:C1≠C3)(rl_0_4:W.mroIn K C1 (.ref C4)=some false)(ne_0_4:C1≠C4)(rl_0_5:W.mroIn K C1 (.ref C5)=some false)(ne_0_5:C1≠C5)(ga0_:W.nsIn K mainGlobals "NO_TIE"=some (some (.str "" tg0)))(ga1_:W.nsIn K mainGlobals "is_below"=some (some (.ref gf1)))
  : ∃fd:FuncData,(∀(s:Shared) (v:Value),BindsTo s fd ⟨[v],[]⟩ [("_law_script",v)])/\Dn K/\(∀x∈aW,W.tabIn K x=none\/∃d,(PyProof.Rows.recsOf q).find? (fun e=>e.name == x)=some d)/\∀base:Heap,K.In base->base.Ns mainGlobals mg->gY K mg base->kW l.prog w K mg base CX0 35 fa fd ["_law_script"] (bj K iC):=by
 obtain⟨f,oc,od,kV,dc,pm,an,cd,ct,sl,aL,lL,cL,kL⟩:=d34;have e:=hfa.symm.trans (OT X G aL);cases e;have hb:∀x∈zq,mg x=none:=by
  intro x hx;simp only[zq,List.mem_cons,List.not_mem_nil,or_false] at hx;rcases hx with rfl|rfl|rfl|rfl|rfl|rfl|rfl|rfl|rfl|rfl
  ·exact OG X G z0
  ·exact OG X G z1
  ·exact OG X G z2
  ·exact OG X G z3
  ·exact OG X G z4
  ·exact OG X G z5
  ·exact OG X G z6
  ·exact OG X G z7
  ·exact OG X G z8
  ·exact OG X G z9
 have hgl:∀x v,glL.lookup x=some v->∃u y,mg x=some u/\RelV y u/\∀m H,R K m H v y:=by
  intro x v hx;by_cases q0:x=("NO_TIE":Str)
  ·subst q0;have e:v=gI:=by have:glL.lookup ("NO_TIE":Str)=some gI:=rfl;rw[this] at hx;cases hx;rfl
   subst e;exact ⟨_,.str "",OT X G ga0_,⟨tg0,rfl⟩,fun m H=>R_str.mpr rfl⟩
  by_cases q1:x=("is_below":Str)
  ·subst q1;have e:v=gw:=by have:glL.lookup ("is_below":Str)=some gw:=rfl;rw[this] at hx;cases hx;rfl
   subst e;exact⟨_,.ref gf1,OT X G ga1_,rfl,fun m H=>R_gf.mpr ⟨gf1,rfl,ga1_⟩⟩
  exact absurd hx (by simp only[glL,List.lookup_cons,List.lookup_nil];simp only[beq_eq_false_iff_ne.mpr q0,beq_eq_false_iff_ne.mpr q1];exact fun z=>nomatch z)
 have Fq0:At K mg "paper_by" bB ["root","moment","steps","is_ahead"]:=At.mk' X G (fun _ _ _ _ _ _=>ar4 (fun _ _ _ _=>rfl)) a20 l20 c20 k20;have Fq1:At K mg "paper_of" a7 ["net","start","moment"]:=At.mk' X G (fun _ _ _ _ _ _=>ar3 (fun _ _ _=>rfl)) a21 l21 c21 k21;have t_coming:=uC tz0;have t_latest:=uC tz1;have t_through:=uC tz2;have t_paper_of:=IK a21 l21 tc21 tv21;refine ⟨W.fnOf "law" "law" (aY kn) (ah kn) (ae kn) .none kV dc pm an cd ct,fun s v=>.of_eq rfl,?lk,?lq,fun base _ _ B=>?_⟩
 case lk =>
  refine D4 sy fun x hx=>?_;simp only[aW,List.mem_cons,List.not_mem_nil,or_false] at hx;rcases hx with rfl|rfl|rfl|rfl
  ·exact .inl t_coming
  ·exact .inl t_latest
  ·exact .inl t_through
  ·refine .inr ⟨_,_,t_paper_of,tn21,fun y hy ne d e=>?_⟩;simp only[aW,List.mem_cons,List.not_mem_nil,or_false] at hy;rcases hy with rfl|rfl|rfl|rfl
   ·rw[t_coming] at e;cases e
   ·rw[t_latest] at e;cases e
   ·rw[t_through] at e;cases e
   ·exact ne rfl
 case lq =>
  intro x hx;simp only[aW,List.mem_cons,List.not_mem_nil,or_false] at hx;rcases hx with rfl|rfl|rfl|rfl
  ·exact .inl t_coming
  ·exact .inl t_latest
  ·exact .inl t_through
  ·exact .inr ⟨_,tr21⟩
 have T:XT K mg FX.xs ysL (fun k=>([C1]:List Addr).getD k 0) (fun i=>([C0,C1,C2,C3,C4,C5]:List Addr).getD i 0) Km:=by
  refine⟨fun i x e=>?_,fun k hk=>?_,fun k i hk hi=>?_⟩
  ·match i,e with
   | 0,e=>cases e;exact⟨OT X G y0.1,y0.cl⟩
   | 1,e=>cases e;exact⟨OT X G y1.1,y1.cl⟩
   | 2,e=>cases e;exact⟨OT X G y2.1,y2.cl⟩
   | 3,e=>cases e;exact⟨OT X G y3.1,y3.cl⟩
   | 4,e=>cases e;exact⟨OT X G y4.1,y4.cl⟩
   | 5,e=>cases e;exact⟨OT X G y5.1,y5.cl⟩
  ·match k,hk with
   | 0,hk=>exact⟨y1.cl,xv0⟩
  ·match k,hk with
   | 0,hk =>
    match i,hi with
    | 0,hi=>exact⟨rl_0_0,fun z=>absurd z (by decide)⟩
    | 1,hi=>exact⟨rl_0_1,fun z=>absurd z (by decide)⟩
    | 2,hi=>exact⟨rl_0_2,fun _=>ne_0_2⟩
    | 3,hi=>exact⟨rl_0_3,fun _=>ne_0_3⟩
    | 4,hi=>exact⟨rl_0_4,fun _=>ne_0_4⟩
    | 5,hi=>exact⟨rl_0_5,fun _=>ne_0_5⟩
 have G0:JX l.prog w K mg base fu FX Γ ΓR (fun k=>(([C1]:List Addr).getD k 0,anL k)):=by
  refine⟨⟨fun f x hf=>absurd hf (PN _),hb,hgl,Γm⟩,⟨fun f x hf=>absurd hf (PN _),fun k x e iq=>?_,fun k n x e iq=>?_,ΓRm⟩⟩
  ·match k,e with
   | 0,e=>exact absurd iq (by decide)
  ·match k,e with
   | 0,e =>
    cases e;have hn:n=1:=by simpa[FX] using iq
    subst hn;exact⟨OT X G y1.1,Cn iv0 il0 ic0 qZ nF (OT X G y0.1) (by decide +kernel) (fun body us hl=>ar2 (P:=fun us=>bindArgs _ { pos:=us }=pure (List.zip _ us)) (fun _ _=>rfl) us hl),rfl,by decide⟩
 have hI:∀k,k<FX.xs.length->∃f D,cE K (([C1]:List Addr).getD k 0) f D (anL k)=true:=by
  intro k hk
  match k,hk with
  | 0,hk=>exact⟨_,_,iv0⟩
 have G1:JX l.prog w K mg base lP FX Γ ΓR (fun k=>(([C1]:List Addr).getD k 0,anL k)):=G0.nx (sp:=aN) X G d0 jD kg iX jX (by walk_at "AR");have G2:JX l.prog w K mg base Bw FX Γ ΓR (fun k=>(([C1]:List Addr).getD k 0,anL k)):=G1.nx (sp:=bR) X G d1 r9 vt rD vH (by walk_at "AR");have G3:JX l.prog w K mg base w5 FX Γ ΓR (fun k=>(([C1]:List Addr).getD k 0,anL k)):=G2.nx (sp:=cZ) X G d2 DA GP sx Hl (by walk_at "AR");have G4:JX l.prog w K mg base mI FX Γ ΓR (fun k=>(([C1]:List Addr).getD k 0,anL k)):=G3.nx (sp:=fJ) X G d3 Bx CY xG Da (by walk_at "AR");have G5:JX l.prog w K mg base wd FX Γ ΓR (fun k=>(([C1]:List Addr).getD k 0,anL k)):=G4.nx (sp:=aV) X G d4 tj uP jx vF (by walk_at "AR");have G6:JX l.prog w K mg base gj FX Γ ΓR (fun k=>(([C1]:List Addr).getD k 0,anL k)):=G5.nx (sp:=fq) X G d5 zo Dq yf DG (by walk_at "AR");have G7:JX l.prog w K mg base ik FX Γ ΓR (fun k=>(([C1]:List Addr).getD k 0,anL k)):=G6.nx (sp:=a6) X G d6 jK k_ jf kR (by walk_at "AR");have G8:JX l.prog w K mg base Bj FX Γ ΓR (fun k=>(([C1]:List Addr).getD k 0,anL k)):=G7.nx (sp:=bq) X G d7 my nz kT nu (by walk_at "AR");have G9:JX l.prog w K mg base kz FX Γ ΓR (fun k=>(([C1]:List Addr).getD k 0,anL k)):=G8.nxX (sp:=c8) X G d8 Dp HJ BL j0 IV (by walk_at "AR");have G10:JX l.prog w K mg base iD FX Γ ΓR (fun k=>(([C1]:List Addr).getD k 0,anL k)):=G9.nx (sp:=bS) X G d9 rn rP nD sW (by walk_at "AR");have G11:JX l.prog w K mg base oD FX Γ ΓR (fun k=>(([C1]:List Addr).getD k 0,anL k)):=G10.nx (sp:=br) X G d10 mM nH lh nq (by walk_at "AR");have G12:JX l.prog w K mg base xr FX Γ ΓR (fun k=>(([C1]:List Addr).getD k 0,anL k)):=G11.nx (sp:=cR) X G d11 uT yX sC xW (by walk_at "AR");have G13:JX l.prog w K mg base kN FX Γ ΓR (fun k=>(([C1]:List Addr).getD k 0,anL k)):=G12.nx (sp:=fA) X G d12 zC Dc ya Eh (by walk_at "AR");have G14:JX l.prog w K mg base kG FX Γ ΓR (fun k=>(([C1]:List Addr).getD k 0,anL k)):=G13.nx (sp:=bY) X G d13 qq rZ nV tH (by walk_at "AR");have G15:JX l.prog w K mg base pe FX Γ ΓR (fun k=>(([C1]:List Addr).getD k 0,anL k)):=G14.nx (sp:=bT) X G d14 pZ rT m_ tU (by walk_at "AR");have G16:JX l.prog w K mg base lO FX Γ ΓR (fun k=>(([C1]:List Addr).getD k 0,anL k)):=G15.nx (sp:=cS) X G d15 uX yH sQ yy (by walk_at "AR");have G17:JX l.prog w K mg base ft FX Γ ΓR (fun k=>(([C1]:List Addr).getD k 0,anL k)):=G16.nx (sp:=bO) X G d16 tP uY qW uN (by walk_at "AR");have G18:JX l.prog w K mg base gz FX Γ ΓR (fun k=>(([C1]:List Addr).getD k 0,anL k)):=G17.nx (sp:=aX) X G d17 jr j9 iO kh (by walk_at "AR");have G19:JX l.prog w K mg base mU FX Γ ΓR (fun k=>(([C1]:List Addr).getD k 0,anL k)):=G18.nx (sp:=ba) X G d18 lj lM j4 mE (by walk_at "AR");have G20:JX l.prog w K mg base iR FX Γ ΓR (fun k=>(([C1]:List Addr).getD k 0,anL k)):=G19.nx (sp:=cy) X G d19 tN uW qw uf (by walk_at "AR");have M:=tX Fq0 G20.g;have G21:JX l.prog w K mg base iN FX Γ ΓR (fun k=>(([C1]:List Addr).getD k 0,anL k)):=G20.nxG (sj Fq0);have G22:JX l.prog w K mg base pF FX Γ ΓR (fun k=>(([C1]:List Addr).getD k 0,anL k)):=G21.nxG (t7 a21 l21 t_paper_of B Fq1 c21 (OT X G a21) G21.g M);have G23:JX l.prog w K mg base kH FX Γ ΓR (fun k=>(([C1]:List Addr).getD k 0,anL k)):=G22.nx (sp:=cj) X G d22 ux x_ sA yA (by walk_at "AR");have G24:JX l.prog w K mg base lN FX Γ ΓR (fun k=>(([C1]:List Addr).getD k 0,anL k)):=G23.nx (sp:=bA) X G d23 qP t5 nS rR (by walk_at "AR");have G25:JX l.prog w K mg base jv FX Γ ΓR (fun k=>(([C1]:List Addr).getD k 0,anL k)):=G24.nx (sp:=bu) X G d24 t6 uw qH vo (by walk_at "AR");have G26:JX l.prog w K mg base kE FX Γ ΓR (fun k=>(([C1]:List Addr).getD k 0,anL k)):=G25.nx (sp:=c7) X G d25 nP qk mx qO (by walk_at "AR");have G27:JX l.prog w K mg base jH FX Γ ΓR (fun k=>(([C1]:List Addr).getD k 0,anL k)):=G26.nx (sp:=cI) X G d26 pR tS nR rG (by walk_at "AR");have G28:JX l.prog w K mg base mT FX Γ ΓR (fun k=>(([C1]:List Addr).getD k 0,anL k)):=G27.nx (sp:=bI) X G d27 nJ pY l7 qS (by walk_at "AR");have G29:JX l.prog w K mg base mi FX Γ ΓR (fun k=>(([C1]:List Addr).getD k 0,anL k)):=G28.nx (sp:=cB) X G d28 rE uO rq uD (by walk_at "AR");have G30:JX l.prog w K mg base ei FX Γ ΓR (fun k=>(([C1]:List Addr).getD k 0,anL k)):=G29.nx (sp:=cu) X G d29 tD vm qg uH (by walk_at "AR");have G31:JX l.prog w K mg base jE FX Γ ΓR (fun k=>(([C1]:List Addr).getD k 0,anL k)):=G30.nx (sp:=aQ) X G d30 ij iI gC iW (by walk_at "AR");have G32:JX l.prog w K mg base kJ FX Γ ΓR (fun k=>(([C1]:List Addr).getD k 0,anL k)):=G31.nx (sp:=bH) X G d31 nA rj lX rC (by walk_at "AR");have G33:JX l.prog w K mg base jm FX Γ ΓR (fun k=>(([C1]:List Addr).getD k 0,anL k)):=G32.nxR (sp:=bU) T ex0 hI X G d32 rm sd mX tM (by walk_at "AR");have G34:JX l.prog w K mg base F5 FX Γ ΓR (fun k=>(([C1]:List Addr).getD k 0,anL k)):=G33.nx (sp:=bG) X G d33 nQ p_ md qD (by walk_at "AR");exact Dt (qual:="law") (Af (st:=kn) lL cL kL) IH rfl rfl JA G34.g (fun as st Q=>DT) (fun as st Q=>Ja)
end My
namespace PySem.W.Fast
def tw6986010231420519774:=Nat
def tw4321694039708532701:=Nat
def tw5344100105144772688:=Nat
def tw9799628621253992501:=Nat
def tw16190574354424408659:=Nat
def tw16484487308528784293:=Nat
def tw7855908476217443912:=Nat
def tw18418543711870228994:=Nat
def tw11104398616807311438:=Nat
def tw14195957373974408211:=Nat
def tw8934275170467559036:=Nat
def tw7094552145198398919:=Nat
def tw11400713356483391848:=Nat
def tw7026937313780721754:=Nat
def tw6718383564744519940:=Nat
def tw4247635162531855652:=Nat
def tw3095818391506580481:=Nat
def tw5412487957358193692:=Nat
def tw16563613115865537723:=Nat
def tw12350672682414051818:=Nat
def tw9832527683702012153:=Nat
def tw11913323429331322774:=Nat
def tw16634120362089685088:=Nat
def tw9620110469320949640:=Nat
def tw13100885088429799419:=Nat
def tw13402006605290580370:=Nat
def tw1371592406583580084:=Nat
def tw13988687914373734853:=Nat
def tw14635773281896249196:=Nat
def tw8538430701614855322:=Nat
def tw7379716006578690281:=Nat
def tw15783801493878512682:=Nat
def tw17318193468744708942:=Nat
def tw969991753641485678:=Nat
def tw2568864173722575518:=Nat
def tw1792845566662310321:=Nat
def tw1935945622449380263:=Nat
def tw14629664558167954084:=Nat
def tw11844672562062259947:=Nat
def tw16406197979867478306:=Nat
def tw3534243676638656637:=Nat
def tw15357420338938410009:=Nat
def tw8524400299383158420:=Nat
def tw12783523573871199507:=Nat
def tw4560027506672862928:=Nat
def tw13252178199810298847:=Nat
def tw15225249826801996119:=Nat
def tw1677358034600212785:=Nat
def tw3882307958922321648:=Nat
def tw8711539875476385038:=Nat
def tw14099848112043889141:=Nat
def tw10023136158751705239:=Nat
def tw11107253761169790247:=Nat
def tw7114813666196803557:=Nat
def tw10425828056202362170:=Nat
def tw15639381109387063090:=Nat
def tw18216931202042086330:=Nat
def tw17147688503363293839:=Nat
def tw5164653993191756173:=Nat
def tw16927297046790020251:=Nat
def tw3877923018732964750:=Nat
def tw2357972419280720095:=Nat
def tw13855413861410512383:=Nat
def tw614395410777942812:=Nat
def tw7604034588456403731:=Nat
def tw3405182480437417117:=Nat
def tw10882057015467296377:=Nat
def tw9545145426989049573:=Nat
def tw6617546149589798272:=Nat
def tw7378993593088229167:=Nat
def tw663774999695852727:=Nat
def tw3982302021339655765:=Nat
def tw8742167546473910940:=Nat
def tw11110725014781084276:=Nat
def tw5954998789660393280:=Nat
def tw7646276501678374621:=Nat
def tw9997436056334232045:=Nat
def tw1028275296870735875:=Nat
def tw2395563286303974358:=Nat
def tw795564585364034732:=Nat
def tw17957170163335426080:=Nat
def tw7905353221520737264:=Nat
def tw11557800747178803232:=Nat
def tw11795534552664445892:=Nat
def tw13517978084135385963:=Nat
def tw4225636606283265995:=Nat
def tw6031956002697763835:=Nat
def tw3465351213744001934:=Nat
def tw13308390280899154927:=Nat
def tw14139551841280854228:=Nat
def tw9607813327268625083:=Nat
def tw4343675601717252918:=Nat
def tw277559769220833811:=Nat
def tw13132575967191225138:=Nat
def tw12241844921737591380:=Nat
def tw11721625254343733565:=Nat
def tw12888407465995453472:=Nat
def tw8815128568673767907:=Nat
def tw1744795921717961860:=Nat
def tw10579219617361980891:=Nat
def tw9809802514492707178:=Nat
def tw7725767863808823363:=Nat
def tw15598404062726734591:=Nat
def tw6270416944120991815:=Nat
def tw8661699709148729868:=Nat
def tw352650864202407938:=Nat
def tw17945827019717450166:=Nat
def tw1231429623823668325:=Nat
def tw1850326637895095054:=Nat
def tw16691434728006655645:=Nat
def tw9907010916506965331:=Nat
def tw4581785905202406611:=Nat
def tw9092944325315800788:=Nat
def tw16657780675191955321:=Nat
def tw6437535035278640024:=Nat
def tw5546479884713790488:=Nat
def tw17610924651462354162:=Nat
def tw10316986091271182279:=Nat
def tw9635784113202945452:=Nat
def tw9130414473730946409:=Nat
def tw8854387693078821250:=Nat
def tw8457945993312386124:=Nat
def tw7570820406473635190:=Nat
def tw7210048462054897210:=Nat
def tw6168641440147850414:=Nat
def tw609238997906089209:=Nat
def tw5732925939848181943:=Nat
def tw5178727719289263257:=Nat
def tw3553233273031157430:=Nat
def tw18004043340439979851:=Nat
def tw16276875224991654521:=Nat
def tw16178038686031001390:=Nat
def tw1599298993592057916:=Nat
def tw14637448747593678201:=Nat
def tw13755943295337739920:=Nat
def tw11635232042183347494:=Nat
def tw11434842879685157337:=Nat
def tw10435934598873416752:=Nat
def tw1033978149104338651:=Nat
def tw3915861433833459725:=Nat
def tw5744159472590837776:=Nat
def tw5339765343959282323:=Nat
def tw472231387725206416:=Nat
def tw14337281581970195429:=Nat
def tw11704988237577756420:=Nat
def tw10107317996076119728:=Nat
def tw10851026930026621029:=Nat
def tw15772386622216027848:=Nat
def tw9331166614462614623:=Nat
def tw7838378286606976074:=Nat
def tw3796344276577836397:=Nat
def tw16852703153772250040:=Nat
def tw12889997093132619363:=Nat
def tw10087155566923205102:=Nat
def tw7330432487710654210:=Nat
def tw6250472736248576128:=Nat
def tw5556698145320215493:=Nat
def tw5126347313150105528:=Nat
def tw1201162825749087176:=Nat
def tw9648476167964468747:=Nat
def tw4605072401038488081:=Nat
def tw4490394356514053258:=Nat
def tw12294857194631132234:=Nat
def tw7191475712895326253:=Nat
def tw447577530608151373:=Nat
def tw14321614934864515263:=Nat
def tw10237888819373641853:=Nat
def tw1010840796601557310:=Nat
def tw3244087141096051919:=Nat
def tw3153238869299322681:=Nat
def tw10015419330216461499:=Nat
def tw7489126629163238282:=Nat
def tw1120081068668014367:=Nat
def tw9105380794334663047:=Nat
def tw8987642192636990855:=Nat
def tw5315434547090656791:=Nat
def tw5291709209687296861:=Nat
def tw4642543270366106344:=Nat
def tw18400958798982122855:=Nat
def tw18121766845130002897:=Nat
def tw15748230449858984781:=Nat
def tw121117662054908567:=Nat
def tw18206554996140664356:=Nat
def tw7296752594885724518:=Nat
def tw9477036490720650913:=Nat
def tw9471436576644098948:=Nat
def tw8421739306939745257:=Nat
def tw5569338727010579960:=Nat
def tw4940549424102156437:=Nat
def tw17477896914564529932:=Nat
def tw9913359934601570245:=Nat
def tw1662626426271649052:=Nat
def tw15741324305452549715:=Nat
def tw196029909759537725:=Nat
def tw9332629304768071075:=Nat
def tw5310009363582675127:=Nat
def tw2501528905251510380:=Nat
def tw6613731079591491680:=Nat
def tw227893427282894781:=Nat
def tw1314798542441788554:=Nat
def tw15352478827402054668:=Nat
def tw8875583294668503315:=Nat
def tw7619451409969091037:=Nat
def tw16312076717213427315:=Nat
def tw6153147478919037402:=Nat
def tw9551165339318309474:=Nat
def tw8214891648242683133:=Nat
def tw5224589089669130240:=Nat
def tw5124063457070852133:=Nat
def tw3310455848029233250:=Nat
def tw1473076022486567996:=Nat
def tw7515414102435471524:=Nat
def tw6374747457301515596:=Nat
def tw17254887062533811155:=Nat
def tw1754514824041645905:=Nat
def tw15310656735982590544:=Nat
def tw6412966213865404871:=Nat
def tw16628345253161127209:=Nat
def tw15089158933001029900:=Nat
def tw13845183158866456868:=Nat
def tw13705129309260519545:=Nat
def tw12972585248596060984:=Nat
def tw10290700448007842244:=Nat
def tw9531098782485595397:=Nat
def tw8780329433075929157:=Nat
def tw14909238772627988584:=Nat
def tw12444427872950653028:=Nat
def tw8768145585378744894:=Nat
def tw2146876959162468112:=Nat
def tw8707256468467657569:=Nat
def tw8504119163014147303:=Nat
def tw81189102880002309:=Nat
def tw7872516461190470927:=Nat
def tw6422007001925209222:=Nat
def tw2750198803194882520:=Nat
def tw17233867533552143399:=Nat
def tw15825161333165049587:=Nat
def tw14360752208044753801:=Nat
def tw14303770614964518048:=Nat
def tw11678067237050387623:=Nat
def tw11358606326371092449:=Nat
def tw15245284976957276694:=Nat
def tw5535319878529990381:=Nat
def tw4735417561744046851:=Nat
def tw14345243902087963987:=Nat
def tw11127936666611747738:=Nat
def tw8663859222696009625:=Nat
def tw7617624957701306115:=Nat
def tw2875059797168083701:=Nat
def tw2591164395238962802:=Nat
def tw2134904587289635818:=Nat
def tw1931927567475521532:=Nat
def tw15229813091190470864:=Nat
def tw14126869451994415955:=Nat
def tw12906729894765485639:=Nat
def tw11749924062595866269:=Nat
def tw11095923258574711812:=Nat
def tw6668793562000579205:=Nat
def tw4477007727859964384:=Nat
def tw18097661641582925514:=Nat
def tw13787129915679536671:=Nat
def tw12923103480143671518:=Nat
def tw10010462581751914498:=Nat
def tw15708812963768315288:=Nat
def tw7171688901991603166:=Nat
def tw2317450985812747510:=Nat
def tw18333000852528298701:=Nat
def tw12884937490550825749:=Nat
def tw10994426415622089107:=Nat
def tw10015428828797724264:=Nat
def tw9970613429692764003:=Nat
def tw9966259911611084985:=Nat
def tw9876043573722383828:=Nat
def tw9842432126349757749:=Nat
def tw9516495990944476549:=Nat
def tw9004885364027910542:=Nat
def tw8948283344000275454:=Nat
def tw8814007006225382987:=Nat
def tw8305119863990950916:=Nat
def tw8273859551278676678:=Nat
def tw8144561175952757681:=Nat
def tw8068241199260589332:=Nat
def tw7927133754930925733:=Nat
def tw7063684809472900419:=Nat
def tw7056751998898392910:=Nat
def tw6919787699444612501:=Nat
def tw6634486529383594617:=Nat
def tw6590537253929052466:=Nat
def tw6572339323581196537:=Nat
def tw6435369938791027570:=Nat
def tw5747942273388462227:=Nat
def tw5404882808244693431:=Nat
def tw5382677844210908686:=Nat
def tw5376170046005939754:=Nat
def tw5206066781558183804:=Nat
def tw5004329493400287796:=Nat
def tw4967160128511032525:=Nat
def tw4820596714775100897:=Nat
def tw4495292204734756563:=Nat
def tw442728631874169332:=Nat
def tw4232415756920786973:=Nat
def tw416982785852869152:=Nat
def tw3425416940579480191:=Nat
def tw2515824956508957542:=Nat
def tw2373309942834519131:=Nat
def tw2249397342205977902:=Nat
def tw2143610225319150250:=Nat
def tw1936624718734829120:=Nat
def tw1926520052577687353:=Nat
def tw18152303724153441180:=Nat
def tw18051871867818064837:=Nat
def tw1801956651361190597:=Nat
def tw17664340283701006698:=Nat
def tw17148137254204260255:=Nat
def tw17138082056965364630:=Nat
def tw17136524192561600182:=Nat
def tw17046074748725042915:=Nat
def tw16410101956722549271:=Nat
def tw15804414714011549646:=Nat
def tw15626835867217162473:=Nat
def tw15604500165873418704:=Nat
def tw15079140019659921086:=Nat
def tw15039951377816140853:=Nat
def tw14889316500300595180:=Nat
def tw14826304417282965314:=Nat
def tw14766474178372438846:=Nat
def tw14463316878265599492:=Nat
def tw14149501509130769875:=Nat
def tw1414295012071023730:=Nat
def tw13957792227214840447:=Nat
def tw13588562142480057018:=Nat
def tw13586559872408283043:=Nat
def tw13516128979711280412:=Nat
def tw13407580775964765422:=Nat
def tw13310961171629408821:=Nat
def tw13008468387115422374:=Nat
def tw12939468555296835383:=Nat
def tw12930793682765347801:=Nat
def tw1287682589866783124:=Nat
def tw1258775168825590253:=Nat
def tw12315072724009724411:=Nat
def tw11891678597567966576:=Nat
def tw11471100486556978584:=Nat
def tw11392102637942673371:=Nat
def tw11271091918804141969:=Nat
def tw1106688447391602437:=Nat
def tw1045788154692591912:=Nat
def tw10356241485452311961:=Nat
def tw1033067752187600721:=Nat
def tw10217683099232762572:=Nat
def tw10109797373887912822:=Nat
def tw9527179670571292423:=Nat
def tw8862375360500781677:=Nat
def tw8744386229601023528:=Nat
def tw8267668487327581197:=Nat
def tw7992297904973908380:=Nat
def tw7988205605555273234:=Nat
def tw7683448510504090245:=Nat
def tw6928935385769854748:=Nat
def tw622493970977824430:=Nat
def tw5954445731505847463:=Nat
def tw5669730560175182027:=Nat
def tw5248688564920779084:=Nat
def tw4773924686228184412:=Nat
def tw4275262505704526979:=Nat
def tw3601037160427555515:=Nat
def tw3334594988051235012:=Nat
def tw2960177155820911060:=Nat
def tw17775338834052286447:=Nat
def tw17479986644855819208:=Nat
def tw1700525971414479999:=Nat
def tw16819899538729933318:=Nat
def tw15687269068350794328:=Nat
def tw1522081164292853989:=Nat
def tw14868013562136016780:=Nat
def tw14122285934938234227:=Nat
def tw13805096461368899022:=Nat
def tw1363206085189093605:=Nat
def tw13577226338644861866:=Nat
def tw13484589282184436924:=Nat
def tw13434892750550751547:=Nat
def tw13223218897460047820:=Nat
def tw12987851160771006451:=Nat
def tw12844652288726263339:=Nat
def tw12432148935530805137:=Nat
def tw12419475648263666518:=Nat
def tw1238390479817089618:=Nat
def tw12298038330355989106:=Nat
def tw12146380323399106525:=Nat
def tw11450446325733475657:=Nat
def tw11276789354993059407:=Nat
def tw11155774720214230843:=Nat
def tw10838233062060428600:=Nat
def tw10733099420320032884:=Nat
def tw10265098265405020121:=Nat
end PySem.W.Fast
open PySem PySem.W PyProof.Rows
local macro_rules | `(tactic| walk_at "DI")=>`(tactic| (refine' FW.DI_mk ?a ?l ?c ?k;(case a=>k_is);(case l=>k_is);(case c=>k_is);(case k=>k_is)))
local macro_rules | `(tactic| walk_at "CI")=>`(tactic| (refine' FW.CI_mk ?a ?b ?c ?d ?e ?f ?g ?h;(case a=>k_is);(case b=>k_is);(case c=>k_is);(case d=>k_is);(case e=>k_is);(case f=>k_is);(case g=>k_is);(case h=>k_is)))
set_option maxRecDepth 100000 in
set_option maxHeartbeats 0 in
theorem PySem.Challenge.cw_hourstairs_k95_whole_days_holds : PySem.Challenge.rw_hourstairs_k95_whole_days.Holds := by
 w_on;o_law;k_head;(case hw=>w_witness2)
 k_fill
 refine FW.walkF (l:=PySem.Challenge.rw_hourstairs_k95_whole_days) (k:=35) (x:="_law_script") (by decide +kernel) rfl rfl ⟨rfl,by decide,by decide,rfl⟩ (fun w h Y=>PySem.W.km_in_of Y) ?F
 case F =>
  intro w mg fa h KX G hmg
  refine' My.all_mk KX G hmg ?sy ?d0 ?d1 ?d2 ?d3 ?d4 ?d5 ?d6 ?d7 ?d8 ?d9 ?d10 ?d11 ?d12 ?d13 ?d14 ?d15 ?d16 ?d17 ?d18 ?d19 ?a20 ?l20 ?c20 ?k20 ?a21 ?l21 ?c21 ?k21 ?tc21 ?tv21 ?tn21 ?tr21 ?d22 ?d23 ?d24 ?d25 ?d26 ?d27 ?d28 ?d29 ?d30 ?d31 ?d32 ?d33 ?d34 ?z0 ?z1 ?z2 ?z3 ?z4 ?z5 ?z6 ?z7 ?z8 ?z9 ?tz0 ?tz1 ?tz2 ?y0 ?y1 ?y2 ?y3 ?y4 ?y5 ?ex0 ?ia0 ?il0 ?ic0 ?iv0 ?xv0 ?rl_0_0 ?rl_0_1 ?rl_0_2 ?ne_0_2 ?rl_0_3 ?ne_0_3 ?rl_0_4 ?ne_0_4 ?rl_0_5 ?ne_0_5 ?ga0_ ?ga1_
  all_goals first|delta My.zn|skip
  (case sy=>rfl)
  (case d0=>walk_at "DI")
  (case d1=>walk_at "DI")
  (case d2=>walk_at "DI")
  (case d3=>walk_at "DI")
  (case d4=>walk_at "DI")
  (case d5=>walk_at "DI")
  (case d6=>walk_at "DI")
  (case d7=>walk_at "DI")
  (case d8=>walk_at "DI")
  (case d9=>walk_at "DI")
  (case d10=>walk_at "DI")
  (case d11=>walk_at "DI")
  (case d12=>walk_at "DI")
  (case d13=>walk_at "DI")
  (case d14=>walk_at "DI")
  (case d15=>walk_at "DI")
  (case d16=>walk_at "DI")
  (case d17=>walk_at "DI")
  (case d18=>walk_at "DI")
  (case d19=>walk_at "DI")
  (case a20=>k_is)
  (case l20=>k_is)
  (case c20=>k_is)
  (case k20=>k_is)
  (case a21=>k_is)
  (case l21=>k_is)
  (case c21=>k_is)
  (case k21=>k_is)
  (case tc21=>k_is)
  (case tv21=>rfl)
  (case tn21=>rfl)
  (case tr21=>rfl)
  (case d22=>walk_at "DI")
  (case d23=>walk_at "DI")
  (case d24=>walk_at "DI")
  (case d25=>walk_at "DI")
  (case d26=>walk_at "DI")
  (case d27=>walk_at "DI")
  (case d28=>walk_at "DI")
  (case d29=>walk_at "DI")
  (case d30=>walk_at "DI")
  (case d31=>walk_at "DI")
  (case d32=>walk_at "DI")
  (case d33=>walk_at "DI")
  (case d34=>walk_at "DI")
  (case z0=>k_is)
  (case z1=>k_is)
  (case z2=>k_is)
  (case z3=>k_is)
  (case z4=>k_is)
  (case z5=>k_is)
  (case z6=>k_is)
  (case z7=>k_is)
  (case z8=>k_is)
  (case z9=>k_is)
  (case tz0=>k_is)
  (case tz1=>k_is)
  (case tz2=>k_is)
  (case y0=>walk_at "CI")
  (case y1=>walk_at "CI")
  (case y2=>walk_at "CI")
  (case y3=>walk_at "CI")
  (case y4=>walk_at "CI")
  (case y5=>walk_at "CI")
  (case ex0=>kernel_rfl)
  (case ia0=>k_is)
  (case il0=>k_is)
  (case ic0=>k_is)
  (case iv0=>kernel_rfl)
  (case xv0=>k_is)
  (case rl_0_0=>k_is)
  (case rl_0_1=>k_is)
  (case rl_0_2=>k_is)
  (case ne_0_2=>decide)
  (case rl_0_3=>k_is)
  (case ne_0_3=>decide)
  (case rl_0_4=>k_is)
  (case ne_0_4=>decide)
  (case rl_0_5=>k_is)
  (case ne_0_5=>decide)
  (case ga0_=>k_is)
  (case ga1_=>k_is)
