import PyProof.Rows.All
import Wide.All
import OpenK.AllK
import Wide.FinOn
import Lean
import PyProof.EqAt
import PyProof.EqKinds
import PyProof.TupleCall
import PyProof.FactsAll.set
import PyProof.DictWalks
import PyProof.CollectWalk
import PyProof.Rows.SetFrom
import PyProof.Rows.SortWalk
import PyProof.TupleKey
import PyProof.DictFindH
import PyProof.DictItems
import PyProof.P3Eq
import PyProof.Rows.SortStr
import PyProof.WalksMore
import PyProof.Rows.MinMaxN
import PyProof.StrCalls2
import PyProof.FString5
import KE.LcSums
import KE.KDictSum
import PyProof.DictCompW
import PyProof.NeKinds
import KE.KEqDict
import KE.KPairComp
import KE.KDictOf
import PyProof.AttrMissHeap
import PySem.Challenge.RW_hourstairs_k51_nets_known
open PySem PySem.Spec
open PyProof.Rows hiding K st lo ad
set_option Elab.async false
set_option linter.all false
set_option maxRecDepth 100000
set_option maxHeartbeats 4000000
set_option genSizeOf false
set_option compiler.extract_closed false
set_option genSizeOfSpec false
abbrev KF:=@PySem.wpAny_bind
abbrev KG:=@PySem.wpAny_pure
abbrev KH:=@PySem.Heap.get?_push_of_some
abbrev KI:=@Bool.false_ne_true
abbrev KJ:=@Nat.le_refl
abbrev KL:=@PySem.Heap.get?_push_size
abbrev KM:=@Bool.and_eq_true
abbrev KN:=@List.mem_cons_of_mem
abbrev KO:=@List.map_cons
abbrev KP:=@List.mem_cons_self
abbrev KQ:=@List.getElem?_eq_some_iff
abbrev KR:=@List.getElem?_set_self
abbrev KS:=@PySem.Heap.lt_size
abbrev KU:=@List.getElem?_set_ne
abbrev KW:=@if_neg
abbrev KY:=@List.nodup_cons
abbrev KZ:=@Nat.lt_of_lt_of_le
abbrev K0:=@Nat.ne_of_lt
abbrev K1:=@if_pos
abbrev K2:=@List.getElem?_map
abbrev K3:=@List.size_toArray
abbrev K4:=@List.mem_singleton
abbrev K5:=@List.mem_of_getElem?
abbrev K6:=@List.getElem?_eq_getElem
abbrev K7:=@List.mem_map
abbrev K8:=@List.mem_cons
abbrev K9:=@List.getElem?_append_left
abbrev K_:=@Nat.le_trans
abbrev LA:=@List.length_map
abbrev LC:=@List.mem_append
abbrev LF:=@decide_eq_true
abbrev LG:=@decide_eq_false
abbrev LH:=@List.getElem?_append_right
abbrev LI:=@Array.length_toList
abbrev LJ:=@List.length_append
abbrev LL:=@of_decide_eq_true
abbrev LM:=@Array.getElem?_eq_getElem
abbrev LO:=@PySem.Heap.get?_update_self
abbrev LP:=@congrArg
abbrev LR:=@Option.map_eq_some_iff
abbrev LS:=@Nat.zero_le
abbrev LU:=@PySem.wpAny_holding
abbrev LV:=@Int.toNat_natCast
abbrev LW:=@List.getD_eq_getElem?_getD
abbrev LX:=@List.mem_append_right
abbrev LY:=@PySem.Heap.SameBut.update
abbrev LZ:=@List.length_cons
abbrev L0:=@Nat.le_of_lt
abbrev L1:=@PySem.W.mg_none_of
abbrev L3:=@PyProof.Rows.slot_tuple_getitem
abbrev L4:=@List.getElem?_eq_none
abbrev L5:=@List.filterMap_cons
abbrev L6:=@List.map_nil
abbrev L7:=@Option.some.inj
abbrev L8:=@List.map_append
abbrev L9:=@List.any_cons
abbrev L_:=@Nat.lt_succ_of_lt
abbrev MA:=@List.map_map
abbrev MB:=@List.take_add_one
abbrev MC:=@PySem.F.plainAttrs_list
abbrev MD:=@List.all_cons
abbrev ME:=@Nat.ne_of_gt
abbrev MF:=@List.take_length
abbrev MG:=@PySem.mem_of_lookup
abbrev MH:=@Bool.eq_iff_iff
abbrev MI:=@List.length_take
abbrev MJ:=@PySem.Heap.get?_update_other
abbrev MK:=@PySem.Heap.size_push
abbrev ML:=@List.all_eq_true
abbrev MM:=@PySem.F.slot_dict_itemiterator_next
abbrev MN:=@PySem.W.kia_one
abbrev MP:=@PyProof.Rows.F.plain_set_update_loop
abbrev MQ:=@PySem.SeqAt.canLay_of_shaped
abbrev MR:=@Nat.lt_irrefl
abbrev MS:=@Nat.lt_of_le_of_lt
abbrev MT:=@PySem.F.slot_tuple_iterator_next
abbrev MU:=@List.drop_eq_getElem_cons
abbrev MV:=@List.length_set
abbrev MW:=@Nat.not_lt_zero
abbrev MX:=@Nat.lt_trans
abbrev MY:=@List.nodup_append
abbrev MZ:=@List.getElem?_take_of_lt
abbrev M0:=@List.length_filterMap_le
abbrev M1:=@PySem.Value.isStrOf_shape
abbrev M3:=@List.getElem_mem
abbrev M4:=@Nat.lt_succ_self
abbrev M5:=@PySem.F.slot_dict_items
abbrev M6:=@Array.getElem?_eq_none
abbrev M7:=@List.pairwise_cons
abbrev M8:=@List.append_nil
abbrev M9:=@List.forIn_cons
abbrev M_:=@Int.natCast_mul
abbrev NA:=@List.length_singleton
abbrev NB:=@Array.getElem?_toList
abbrev NC:=@PyProof.Rows.callWith_type1
abbrev ND:=@Nat.pow_le_pow_right
abbrev NF:=@Nat.le_of_not_lt
abbrev NG:=@List.ext_getElem
abbrev NH:=@Nat.zero_lt_succ
abbrev NJ:=@List.length_reverse
abbrev NK:=@Int.toNat_of_nonneg
abbrev NL:=@PySem.F.args_tuple_add_2
abbrev NM:=@Bool.or_eq_true
abbrev NN:=@List.mem_filterMap
abbrev NO:=@PySem.F.entry_tuple_add
abbrev NP:=@List.length_eq_zero_iff
abbrev NQ:=@PySem.F.plainAttrs_dict
abbrev NR:=@PySem.F.slot_tuple_add
abbrev NT:=@List.length_range
abbrev NU:=@List.take_of_length_le
abbrev NV:=@List.reverse_cons
abbrev NW:=@Nat.gcd_comm
abbrev NX:=@List.mem_iff_getElem?
abbrev NY:=@List.length_drop
abbrev NZ:=@List.prefix_refl
abbrev N0:=@List.mem_of_mem_drop
abbrev N1:=@List.mem_of_mem_take
abbrev N3:=@Nat.mul_le_mul_right
abbrev N5:=@PySem.F.slot_zip_next
abbrev N6:=@List.filter_nil
abbrev N7:=@List.Perm.refl
abbrev N8:=@Bool.and_false
abbrev N9:=@List.prefix_append
abbrev N_:=@Int.emod_lt_of_pos
abbrev OA:=@PySem.Value.isInt_shape
abbrev OB:=@Nat.le_add_right
abbrev OC:=@List.of_mem_zip
abbrev OD:=@Int.natCast_pow
abbrev OE:=@List.cons.injEq
abbrev OF:=@List.head?_drop
abbrev OG:=@Int.emod_nonneg
abbrev OH:=@List.mem_range
abbrev OI:=@Bool.false_and
abbrev OJ:=@PySem.W.kitx_dict
abbrev OL:=@Nat.log2_lt
abbrev OM:=@List.nodup_nil
abbrev ON:=@List.drop_zero
abbrev OO:=@List.tail_drop
abbrev OP:=@Nat.mod_lt
abbrev OR:=@Int.le_of_lt
abbrev OS:=@Nat.sub_self
abbrev OT:=@Nat.le_of_eq
abbrev OU:=@Sum.inr.inj
abbrev OV:=@PySem.W.kitx_list
abbrev OW:=@Iff.rfl
abbrev OX:=@beq_iff_eq
namespace L2
noncomputable abbrev Key:=Sum Int Str
noncomputable def pf:Key->Value->Bool
 | .inl k,v=>Value.isInt k v
 | .inr x,v=>Value.isStrOf x v
noncomputable def JW (w:World):Key->Int
 | .inl k=>hashInt k
 | .inr x=>hashStr w x
theorem aP:∀ {k:Key}{v:Value},pf k v=true->(∃i t,k=Sum.inl i/\v=Value.int i t)\/(∃x t,k=Sum.inr x/\v=Value.str x t)
 | .inl i,v,h=>by obtain⟨t,e⟩:=OA (k:=i) (v:=v) h;exact .inl ⟨i,t,rfl,e⟩
 | .inr x,v,h=>by obtain⟨t,e⟩:=M1 (x:=x) (v:=v) h;exact .inr ⟨x,t,rfl,e⟩
theorem yp (i:Int)(t:Tok):pf (.inl i) (.int i t)=true:=by simp[pf,Value.isInt]
theorem xX (x:Str)(t:Tok):pf (.inr x) (.str x t)=true:=by simp[pf,Value.isStrOf]
theorem GL (a b:Int):decide ((Sum.inl a:Key)=Sum.inl b)=(a == b):=by
 by_cases e:a=b
 ·subst e;simp
 ·have h:¬(Sum.inl a:Key)=Sum.inl b:=fun q=>e (Sum.inl.inj q);rw[LG h];exact(beq_eq_false_iff_ne.mpr e).symm
theorem Gf (a b:Str):decide ((Sum.inr a:Key)=Sum.inr b)=decide (a=b):=by
 by_cases e:a=b
 ·subst e;simp
 ·have h:¬(Sum.inr a:Key)=Sum.inr b:=fun q=>e (OU q);rw[LG h,LG e]
theorem Gg (a:Int)(b:Str):decide ((Sum.inl a:Key)=Sum.inr b)=false:=LG (fun q=>nomatch q)
theorem Gj (a:Str)(b:Int):decide ((Sum.inr a:Key)=Sum.inl b)=false:=LG (fun q=>nomatch q)
noncomputable def aF (prog:Program)(w:World):PySem.KeyKind prog w Key where
 is:=pf
 hash:=JW w
 inj:=fun v a b ha hb=>by
  rcases aP ha with⟨i,t,rfl,rfl⟩|⟨x,t,rfl,rfl⟩
  ·rcases aP hb with⟨j,u,rfl,e⟩|⟨y,u,rfl,e⟩
   ·injection e with e1 _;rw[e1]
   ·exact nomatch e
  ·rcases aP hb with⟨j,u,rfl,e⟩|⟨y,u,rfl,e⟩
   ·exact nomatch e
   ·injection e with e1 _;rw[e1]
 byValue:=fun k v h=>by rcases aP h with⟨i,t,rfl,rfl⟩|⟨x,t,rfl,rfl⟩ <;> rfl
 pyHash:=fun hv h=>by
  rcases aP hv with⟨i,t,rfl,rfl⟩|⟨x,t,rfl,rfl⟩
  ·exact wpAny_pyHash_int h
  ·exact wpAny_pyHash_str h
 eqBool:=fun hu hv h=>by
  rcases aP hu with⟨i,t,rfl,rfl⟩|⟨x,t,rfl,rfl⟩
  ·rcases aP hv with⟨j,u,rfl,rfl⟩|⟨y,u,rfl,rfl⟩
   ·rw[GL] at h;exact wpAny_eqBool_int h
   ·rw[Gg] at h;exact SeqAt.EqAt.int_str i t y u _ _ _ _ h
  ·rcases aP hv with⟨j,u,rfl,rfl⟩|⟨y,u,rfl,rfl⟩
   ·rw[Gj] at h;exact SeqAt.EqAt.str_int x t j u _ _ _ _ h
   ·rw[Gf] at h;exact wpAny_eqBool_str h
 «strs»:=fun k x t v h=>by
  rcases aP h with⟨i,u,rfl,e⟩|⟨y,u,rfl,e⟩
  ·exact nomatch e
  ·injection e with e1 _
   subst e1;cases v <;> rfl
theorem sT (prog:Program)(w:World)(i:Int)(t:Tok):(aF prog w).is (.inl i) (.int i t)=true:=yp i t
theorem kQ (prog:Program)(w:World)(x:Str)(t:Tok):(aF prog w).is (.inr x) (.str x t)=true:=xX x t
end L2
namespace L2
inductive V where
 | non|bl (b:Bool)|int (i:Int)|str (x:Str)|byt (b:Array UInt8)|flt (b:UInt64)|ref (a:Addr)|ty (n:String)
 deriving DecidableEq
noncomputable def RelV:V->Value->Prop
 | .non,u=>u=Value.none
 | .bl b,u=>u=Value.bool b
 | .int i,u=>∃t,u=Value.int i t
 | .str x,u=>∃t,u=Value.str x t
 | .byt b,u=>∃t,u=Value.bytes b t
 | .flt b,u=>∃t,u=Value.float b t
 | .ref a,u=>u=Value.ref a
 | .ty n,u=>u=Value.type n
noncomputable abbrev Vals:List V->List Value->Prop:=Paired RelV
theorem Vals.length (r:Vals xs us):xs.length=us.length:=Paired.length r
theorem Vals.get:∀ {xs:List V}{us:List Value}{i:Nat}{x:V},Vals xs us->xs[i]?=some x->∃u,us[i]?=some u/\RelV x u
 | _,_,_,_,.nil,e=>by simp at e
 | _,_,0,_,.cons r _,e=>by simp at e;subst e;exact⟨_,rfl,r⟩
 | _,_,i+1,x,.cons _ t,e=>by obtain⟨u,h1,h2⟩:=Vals.get (i:=i) (x:=x) t (by simpa using e);exact⟨u,by simpa using h1,h2⟩
theorem Vals.set (r:RelV x u):∀ {xs:List V}{us:List Value} (i:Nat),Vals xs us->Vals (xs.set i x) (us.set i u)
 | _,_,_,.nil=>.nil
 | _,_,0,.cons _ t=>.cons r t
 | _,_,i+1,.cons q t=>.cons q (Vals.set r i t)
theorem Vals.append:∀ {xs ys:List V}{us ws:List Value},Vals xs us->Vals ys ws->Vals (xs++ys) (us++ws)
 | _,_,_,_,.nil,s=>s
 | _,_,_,_,.cons r t,s=>.cons r (Vals.append t s)
theorem Vals.take:∀ {xs:List V}{us:List Value} (n:Nat),Vals xs us->Vals (xs.take n) (us.take n)
 | _,_,0,_=>.nil
 | _,_,_+1,.nil=>.nil
 | _,_,n+1,.cons r t=>.cons r (Vals.take n t)
theorem Vals.drop:∀ {xs:List V}{us:List Value} (n:Nat),Vals xs us->Vals (xs.drop n) (us.drop n)
 | _,_,0,r=>r
 | _,_,_+1,.nil=>.nil
 | _,_,n+1,.cons _ t=>Vals.drop n t
noncomputable def RelO:Option V->Option Value->Prop
 | some v,some u=>RelV v u
 | none,none=>True
 | _,_=>False
noncomputable def KV {κ:Type}:List (κ × V)->List (κ × Value)->Prop:=Paired fun (p:κ × V) (q:κ × Value)=>p.1=q.1/\RelV p.2 q.2
noncomputable def kV:Key->V
 | .inl i=>.int i
 | .inr x=>.str x
set_option genInjectivity false
inductive HO where
 | lst (xs:List V)
 | tup (xs:List V)
 | dK (kvs:List (Key × V))|dT (kvs:List (List Key × V))
 | set (S:Int->Bool) (n:Nat)
 | ins (C dx:Addr) (fs:List (Str × V))
 | own (x:Addr)
 | xd (fs:List (Str × V))
 | met (f x:Addr)
 | rng (lo hi:Int)
 | frz (o:Obj) (u:HO)
 | tbl (ps:Array Value)
 | ext (φ:Heap->Prop)
noncomputable abbrev Hp:=Addr->Option HO
noncomputable def upd (H:Hp)(a:Addr)(o:HO):Hp:=fun b=>if b=a then some o else H b
theorem aA:upd H a o a=some o:=by unfold upd;rw[K1 rfl]
theorem ag {a b:Addr}(h:b≠a):upd H a o b=H b:=by unfold upd;rw[KW h]
theorem Ib {H:Hp}(h:H a=some o)(h':H b=some u)(d:o≠u):a≠b:=by intro e;subst e;rw[h] at h';exact d (L7 h')
theorem ao {H:Hp}(h:H a=some o)(h':H b=none):a≠b:=by intro e;subst e;rw[h] at h';cases h'
section
variable (P:Program) (w:World)
noncomputable def ObjOk (H:Hp)(h:Heap)(a:Addr):HO->Prop
 | .lst xs=>xs.length<=sizeLine/\∃(its:List Value) (n:Nat),Vals xs its/\h.get? a=some { cls:=.type "list",data:=.seq its.toArray n }
 | .tup xs=>xs.length<=sizeLine/\∃its:List Value,Vals xs its/\IsTup h a its.toArray
 | .dK kvs=>kvs.length<=sizeLine/\(a == sysModules)=false/\∃vs,KV kvs vs/\h.DictOf (aF P w) a vs
 | .dT kvs=>kvs.length<=sizeLine/\(a == sysModules)=false/\∃xs:List (List Key × Addr × Value),
   Paired (fun (p:List Key × V) (q:List Key × Addr × Value)=>p.1=q.1/\H q.2.1=some (.tup (p.1.map kV))/\RelV p.2 q.2.2) kvs xs /\
   ∃o es ep,h.get? a=some o/\o.ExactDict/\o.data=.dict es ep/\es.toList=xs.map (entryOfKey (tupleKind (aF P w)))/\(xs.map (·.1)).Nodup
 | .set S n=>h.SetOf (intKind P w) a S n
 | .ins C dx fs=>H dx=some (.own a)/\fs.length<=1000/\dx≠a/\h.get? a=some (W.instObj C dx) /\
   ∃mA,h.Ns1 dx mA/\(∀f,RelO (fs.lookup f) (mA f))/\PySem.Within mA (fs.map (·.1))
 | .own _=>∃o,h.get? a=some o
 | .xd fs=>∃mA,h.Ns1 a mA/\∀f,RelO (fs.lookup f) (mA f)
 | .rng lo hi=>∃t u v,h.get? a=some { cls:=.type "range",data:=.fields #[.int lo t,.int hi u,.int 1 v] }
 | .frz o u=>h.get? a=some o/\ObjOk H h a u
 | .tbl ps=>h.get? a=some { cls:=.none,data:=.fields ps }
 | .met f x=>h.get? a=some (W.methodObj (.ref f) (.ref x))
 | .ext φ=>φ h/\(∃o,h.get? a=some o)/\∀h1 h2:Heap,φ h1->(∀o,h1.get? a=some o->h2.get? a=some o)->φ h2
def HOk (H:Hp)(h:Heap):Prop:=∀a o,H a=some o->ObjOk P w H h a o
end
section
variable {P:Program}{w:World}{H H':Hp}{h h':Heap}{a:Addr}{o:HO}
theorem ObjOk.lt (x:ObjOk P w H h a o):a<h.objs.size:=by
 cases o with
 | lst xs=>obtain⟨_,_,_,_,e⟩:=x;exact KS e
 | tup xs=>obtain⟨_,_,_,p⟩:=x;exact p.lt
 | dK kvs=>obtain⟨_,_,_,_,o,_,_,e,_⟩:=x;exact KS e
 | dT kvs=>obtain⟨_,_,_,_,o,_,_,e,_⟩:=x;exact KS e
 | set S n=>obtain⟨o,_,_,_,e,_⟩:=x;exact KS e
 | ins C dx fs=>obtain⟨_,_,_,e,_⟩:=x;exact KS e
 | own y=>obtain⟨_,e⟩:=x;exact KS e
 | xd fs=>obtain⟨_,⟨_,_,_,e,_⟩,_⟩:=x;exact KS e
 | rng lo hi=>obtain⟨_,_,_,e⟩:=x;exact KS e
 | frz ob u=>obtain⟨e,_⟩:=x;exact KS e
 | tbl ps=>exact KS (show h.get? a=some _ from x)
 | met f y=>exact KS (show h.get? a=some _ from x)
 | ext φ=>obtain⟨_,⟨_,e⟩,_⟩:=x;exact KS e
theorem Paired.mapP {α β:Type}{F G:α->β->Prop}:∀ {l₁:List α}{l₂:List β},Paired F l₁ l₂->(∀a b,F a b->G a b)->Paired G l₁ l₂
 | _,_,.nil,_=>.nil
 | _,_,.cons r t,f=>.cons (f _ _ r) (Paired.mapP t f)
theorem ObjOk.stay (x:ObjOk P w H h a o)(k:∀b u,(b=a\/H b=some (.own a))->h.get? b=some u->h'.get? b=some u)
  (ho:∀b,H b=some (.own a)->H' b=some (.own a)) (ht:∀b xs,H b=some (.tup xs)->H' b=some (.tup xs)):ObjOk P w H' h' a o:=by
 induction o with
 | lst xs=>obtain⟨z,its,n,r,e⟩:=x;exact⟨z,its,n,r,k _ _ (.inl rfl) e⟩
 | tup xs=>obtain⟨z,its,r,ob,e,c⟩:=x;exact⟨z,its,r,ob,k _ _ (.inl rfl) e,c⟩
 | dK kvs=>obtain⟨z,y,vs,r,ob,es,ep,e,c⟩:=x;exact⟨z,y,vs,r,ob,es,ep,k _ _ (.inl rfl) e,c⟩
 | dT kvs =>obtain⟨z,y,xs,r,ob,es,ep,e,c⟩:=x;exact⟨z,y,xs,Paired.mapP r fun p q z=>⟨z.1,ht _ _ z.2.1,z.2.2⟩,ob,es,ep,k _ _ (.inl rfl) e,c⟩
 | set S n=>obtain⟨ob,es,ep,t,e,c⟩:=x;exact⟨ob,es,ep,t,k _ _ (.inl rfl) e,c⟩
 | ins C dx fs =>obtain⟨d,z,ne,e,mA,⟨od,es,ep,e2,c⟩,r⟩:=x;exact⟨ho _ d,z,ne,k _ _ (.inl rfl) e,mA,⟨od,es,ep,k _ _ (.inr d) e2,c⟩,r⟩
 | own y=>obtain⟨ob,e⟩:=x;exact⟨ob,k _ _ (.inl rfl) e⟩
 | xd fs=>obtain⟨mA,⟨od,es,ep,e,c⟩,r⟩:=x;exact⟨mA,⟨od,es,ep,k _ _ (.inl rfl) e,c⟩,r⟩
 | rng lo hi=>obtain⟨t,u,v,e⟩:=x;exact⟨t,u,v,k _ _ (.inl rfl) e⟩
 | frz ob u ih=>obtain⟨e,q⟩:=x;exact⟨k _ _ (.inl rfl) e,ih q⟩
 | tbl ps =>have e:h.get? a=some { cls:=.none,data:=.fields ps }:=x;show h'.get? a=some { cls:=.none,data:=.fields ps };exact k a _ (.inl rfl) e
 | met f y =>have e:h.get? a=some (W.methodObj (.ref f) (.ref y)):=x;show h'.get? a=some (W.methodObj (.ref f) (.ref y));exact k a _ (.inl rfl) e
 | ext φ=>obtain⟨p,⟨o,e⟩,st⟩:=x;exact⟨st _ _ p fun o q=>k _ _ (.inl rfl) q,⟨o,k _ _ (.inl rfl) e⟩,st⟩
theorem HOk.lt (x:HOk P w H h)(e:H a=some o):a<h.objs.size:=(x a o e).lt
theorem HOk.fresh (x:HOk P w H h)(e:h.objs.size<=a):H a=none:=by
 cases q:H a with
 | none=>rfl
 | some u=>exact absurd (KZ (x.lt q) e) (MR _)
theorem HOk.kept (x:HOk P w H h)(k:∀b u,h.get? b=some u->h'.get? b=some u):HOk P w H h':=fun a o e =>
 (x a o e).stay (fun b u _ q=>k b u q) (fun _ q=>q) fun _ _ q=>q
theorem HOk.laid (x:HOk P w H h)(k:∀b u,h.get? b=some u->h'.get? b=some u)(hp:h.objs.size<=a)(new:ObjOk P w (upd H a o) h' a o):HOk P w (upd H a o) h':=fun b u e=>by
 have hn:=x.fresh hp;by_cases hb:b=a
 ·subst hb;rw[aA] at e;cases e;exact new
 ·rw[ag hb] at e;exact(x b u e).stay (fun c v _ q=>k c v q) (fun c q=>by rw[ag (ao q hn)];exact q) fun c xs q=>by rw[ag (ao q hn)];exact q
end
def Rd (H:Hp)(a:Addr)(u:HO):Prop:=H a=some u\/∃o,H a=some (.frz o u)
theorem Rd.ok (r:Rd H a u)(x:HOk P w H h):ObjOk P w H h a u:=by
 rcases r with r|⟨o,r⟩
 ·exact x a u r
 ·obtain⟨_,q⟩:=x a _ r;exact q
noncomputable def Mut:Option HO->Prop
 | some (.lst _)=>True
 | some (.dK _)=>True
 | some (.dT _)=>True
 | some (.set _ _)=>True
 | some (.ins _ _ _)=>True
 | some (.ext _)=>True
 | _=>False
section
variable {P:Program}{w:World}{H:Hp}{h h':Heap}{x e:Addr}{o':HO}
theorem HOk.write (ok:HOk P w H h)(mu:Mut (H x))(he:e=x\/H e=some (.own x))(k:∀b u,b≠e->h.get? b=some u->h'.get? b=some u)(heo:∃u,h'.get? e=some u)
  (new:ObjOk P w (upd H x o') h' x o'):HOk P w (upd H x o') h':=fun b u q=>by
 have nown:∀c y,H c=some (.own y)->c≠x:=fun c y r z=>by subst z;rw[r] at mu;exact mu
 have ntup:∀c xs,H c=some (.tup xs)->c≠x:=fun c xs r z=>by subst z;rw[r] at mu;exact mu
 by_cases hb:b=x
 ·subst hb;rw[aA] at q;cases q;exact new
 ·rw[ag hb] at q;by_cases hbe:b=e
  ·have q':H b=some (.own x):=by
    rcases he with z|z
    ·exact absurd (hbe.trans z) hb
    ·rw[hbe];exact z
   rw[q] at q';cases q';obtain⟨v,hv⟩:=heo;exact⟨v,by rw[hbe];exact hv⟩
  ·refine(ok b u q).stay (fun c v hc r=>k c v ?_ r) (fun c r=>by rw[ag (nown c b r)];exact r) fun c xs r=>by rw[ag (ntup c xs r)];exact r
   rcases hc with rfl|hc
   ·exact hbe
   ·rintro rfl;rcases he with z|z
    ·exact nown c b hc z
    ·rw[hc] at z;cases z;exact hb rfl
end
set_option genCtorIdx false
structure Un (fs ex:List Addr)(H H':Hp)(h h':Heap):Prop where
 keep:∀b o,h.get? b=some o->H b=none->b ∉ fs->b ∉ ex->h'.get? b=some o
 slot:∀b o,h.get? b=some o->H b=none->b∈fs->b ∉ ex->∃sl,h'.get? b=some { o with slots:=sl }
 free:∀b o,h.get? b=some o->H b=none->b ∉ ex->H' b=none
 there:∀b o,h.get? b=some o->b ∉ ex->∃o',h'.get? b=some o'
 tups:∀b xs,H b=some (.tup xs)->H' b=some (.tup xs)
 frzs:∀b o u,H b=some (.frz o u)->H' b=some (.frz o u)
 tbls:∀b ps,H b=some (.tbl ps)->∃more,H' b=some (.tbl (ps++more))
section
variable {fs fs' ex ex':List Addr}{H H1 H2:Hp}{h h1 h2 h':Heap}{a x e:Addr}{o:HO}
theorem Un.any (u:Un fs ex H H1 h h1)(q:h.get? b=some ob)(n:H b=none)(hx:b ∉ ex):∃sl,h1.get? b=some { ob with slots:=sl }:=by
 by_cases hb:b∈fs
 ·exact u.slot b ob q n hb hx
 ·exact⟨ob.slots,u.keep b ob q n hb hx⟩
theorem Un.kept (k:∀b u,h.get? b=some u->h'.get? b=some u):Un fs ex H H h h' :=
 ⟨fun b ob q _ _ _=>k b ob q,fun b ob q _ _ _=>⟨ob.slots,k b ob q⟩,fun _ _ _ n _=>n,fun b ob q _=>⟨ob,k b ob q⟩,fun _ _ q=>q,fun _ _ _ q=>q,fun _ ps q=>⟨#[],by rw[q];simp⟩⟩
theorem Un.refl:Un fs ex H H h h:=Un.kept fun _ _ q=>q
theorem Un.laid (k:∀b u,h.get? b=some u->h'.get? b=some u)(hp:h.objs.size<=a)(hn:H a=none):Un fs ex H (upd H a o) h h' where
 keep:=fun b u q _ _ _=>k b u q
 slot:=fun b u q _ _ _=>⟨u.slots,k b u q⟩
 free:=fun b u q n _=>by rw[ag (K0 (KZ (KS q) hp))];exact n
 there:=fun b u q _=>⟨u,k b u q⟩
 tups:=fun b xs q=>by rw[ag (ao q hn)];exact q
 frzs:=fun b u xs q=>by rw[ag (ao q hn)];exact q
 tbls:=fun b ps q=>⟨#[],by rw[ag (ao q hn),q];simp⟩
theorem Un.write (mu:Mut (H x))(he:e=x\/H e=some (.own x))(k:∀b u,b≠e->h.get? b=some u->h'.get? b=some u)(heo:∃u,h'.get? e=some u):Un fs ex H (upd H x o) h h':=by
 have hx:∀b,H b=none->b≠x:=fun b n z=>by subst z;rw[n] at mu;exact mu
 have hb:∀b,H b=none->b≠e:=fun b n z=>by
  subst z;rcases he with r|r
  ·exact hx b n r
  ·rw[n] at r;cases r
 have hm:∀b u,H b=some u->¬Mut (some u)->b≠x:=fun b u q nm z=>by subst z;rw[q] at mu;exact nm mu
 refine⟨fun b u q n _ _=>k b u (hb b n) q,fun b u q n _ _=>⟨u.slots,k b u (hb b n) q⟩,fun b u q n _=>by rw[ag (hx b n)];exact n,fun b u q _=>?_,
  fun b xs q=>by rw[ag (hm b _ q fun z=>z)];exact q,fun b u xs q=>by rw[ag (hm b _ q fun z=>z)];exact q,fun b ps q=>⟨#[],by rw[ag (hm b _ q fun z=>z),q];simp⟩⟩
 by_cases hbe:b=e
 ·subst hbe;exact heo
 ·exact⟨u,k b u hbe q⟩
end
noncomputable def trk (h:Heap)(H:Hp):List Addr:=(List.range h.objs.size).filter fun a=>(H a).isSome
noncomputable def oD (h:Heap)(H:Hp):Heap:=W.hideAll h (trk h H)
theorem x9 (h:Heap)(H:Hp):(oD h H).objs.size=h.objs.size:=W.hideAll_size _ _
theorem Ac {h:Heap}{H:Hp}(e:h.get? b=some o)(n:H b=none):(oD h H).get? b=some o :=
 W.hideAll_get _ e fun hm=>by have q:(H b).isSome=true:=(List.mem_filter.mp hm).2;rw[n] at q;simp at q
theorem C1 (e:(oD h H).get? b=some o):h.get? b=some o/\H b=none:=by
 have e':h.get? b=some o:=W.of_hideAll (trk h H) e;refine⟨e',?_⟩;cases q:H b with
 | none=>rfl
 | some x =>have hm:b∈trk h H:=List.mem_filter.mpr ⟨OH.mpr (KS e'),by simp[q]⟩;have z:(oD h H).get? b=none:=W.hideAll_none (trk h H) hm;rw[z] at e;cases e
end L2
namespace L2
structure Mod (K:W.Frag)(mg:Str->Option Value)(base:Heap):Prop where
 kin:K.In base
 glob:base.Ns mainGlobals mg
 blt:∃mb,base.Ns builtinsNs mb/\∀x:Str,x≠"__name__"->mb x=bootBuiltins x
 nolimit:base.NoLimit
structure Cx where
 prog:Program
 w:World
 K:W.Frag
 mg:Str->Option Value
 base:Heap
 A:Around
 N:List Str
 s₀:Shared
 H₀:Hp
 env:Env
 outer:List Env
 stack:List Env
 ex:List Addr
 fn:Str->Bool
 calm:Bool
 pn:List (Addr × Obj)
 xe:Value->Shared->Prop
noncomputable def frs (l:List Env):List Addr:=l.filterMap (·.frame)
noncomputable abbrev Cx.fs (X:Cx):List Addr:=frs X.outer
def Vis (sc:Scope)(x:Str):Prop:=sc.names.lookup x=some .local\/sc.names.lookup x=some .cell\/sc.names.lookup x=some .free
def Loc (sc:Scope)(x:Str):Prop:=sc.names.lookup x=some .local\/sc.names.lookup x=some .cell
def Kf (env:Env)(h:Heap)(m:Str->Option Value)(x:Str)(u:Value):Prop :=
 (env.kindOf x=some .local/\m x=some u)\/((env.kindOf x=some .cell\/env.kindOf x=some .free)/\∃c,env.cells.lookup x=some c/\h.IsCell c (some u))
structure Cx.Ok (X:Cx):Prop where
 mod:Mod X.K X.mg X.base
 kind:X.env.scope.kind=.function
 glob:X.env.globals=mainGlobals
 blt:X.env.builtins=builtinsNs
 above:X.s₀.heap.objs.size<=X.env.locals
 inj:∀x y c,X.env.cells.lookup x=some c->X.env.cells.lookup y=some c->x=y
 has:∀x,(X.env.kindOf x=some .cell\/X.env.kindOf x=some .free)->∃c,X.env.cells.lookup x=some c
 cab:∀x c,X.fn x=true->X.env.cells.lookup x=some c->X.s₀.heap.objs.size<=c
 hd:X.calm=true->X.A.handled=none
 frames:X.A.frames=some X.stack
 stk:X.stack=X.outer\/(X.stack=X.env::X.outer/\X.env.frame=some X.env.locals)
 exf:∀b∈X.ex,b≠X.env.locals/\∀x c,X.env.cells.lookup x=some c->c≠b
 bs:∀b o,X.base.get? b=some o->X.s₀.heap.get? b=some o/\X.H₀ b=none
 bsz:X.base.objs.size<=X.s₀.heap.objs.size
 noex:∀b o,X.base.get? b=some o->b ∉ X.ex
 exfs:∀b∈X.ex,b ∉ X.fs
 funs:X.s₀.heap.FunFrames X.base X.outer
 frf:∀b∈X.fs,X.H₀ b=none
structure Inv (X:Cx)(pins:List (Addr × Obj))(σ:List (Option V))(H:Hp)(s:Shared):Prop where
 ok:X.Ok
 os:s.os=X.s₀.os
 bare:AllBare s.gens
 base:Un X.fs X.ex X.H₀ H X.s₀.heap s.heap
 loc:∃m,s.heap.Ns X.env.locals m/\∀(i:Nat) (x:Str) (v:V),X.N[i]?=some x->σ[i]?=some (some v)->Vis X.env.scope x->∃u,RelV v u/\Kf X.env s.heap m x u
 cell:∀x c,X.env.cells.lookup x=some c->∃v,s.heap.IsCell c v
 free:H X.env.locals=none
 freeC:∀x c,X.env.cells.lookup x=some c->H c=none
 pin:∀p∈X.pn++pins,s.heap.get? p.1=some p.2/\H p.1=none/\p.1≠X.env.locals/\p.1 ∉ X.fs/\∀v,p.2.data≠.cell v
 hok:HOk X.prog X.w H s.heap
 len:σ.length=X.N.length
section
variable {X:Cx}{pins:List (Addr × Obj)}{σ:List (Option V)}{H H':Hp}{s:Shared}{h':Heap}
theorem Cx.Ok.nofr (ok:X.Ok)(e:X.base.get? b=some o):b ∉ X.fs:=fun hb=>by have:=(ok.funs.mem hb).1;rw[e] at this;cases this
theorem Inv.bs (I:Inv X pins σ H s):∀b o,X.base.get? b=some o->s.heap.get? b=some o/\H b=none:=fun b o e =>
 ⟨I.base.keep b o (I.ok.bs b o e).1 (I.ok.bs b o e).2 (I.ok.nofr e) (I.ok.noex b o e),I.base.free b o (I.ok.bs b o e).1 (I.ok.bs b o e).2 (I.ok.noex b o e)⟩
theorem Inv.bk (I:Inv X pins σ H s):∀b o,X.base.get? b=some o->s.heap.get? b=some o:=fun b o e=>(I.bs b o e).1
theorem Inv.mod (I:Inv X pins σ H s):Mod X.K X.mg X.base:=I.ok.mod
theorem Inv.kIn (I:Inv X pins σ H s):X.K.In s.heap:=I.ok.mod.kin.keeps I.bk
theorem Inv.lt (I:Inv X pins σ H s):X.env.locals<s.heap.objs.size:=let ⟨_,hn,_⟩:=I.loc;hn.lt
theorem Inv.sz (I:Inv X pins σ H s):X.s₀.heap.objs.size<=s.heap.objs.size:=K_ I.ok.above (L0 I.lt)
theorem Inv.nofs (I:Inv X pins σ H s){a:Addr}(h:s.heap.objs.size<=a):a ∉ X.fs:=fun hb=>by obtain⟨_,o,ho,_⟩:=I.ok.funs.mem hb;exact absurd (KZ (KS ho) (K_ I.sz h)) (MR _)
theorem Inv.cne (I:Inv X pins σ H s):∀x c,X.env.cells.lookup x=some c->c≠X.env.locals:=fun x c e z=>by obtain⟨v,o,ho,hd⟩:=I.cell x c e;obtain⟨m,⟨o',es,ep,ho',hd',_⟩,_⟩:=I.loc;rw[z,ho'] at ho;cases ho;rw[hd'] at hd;cases hd
theorem Inv.funs (I:Inv X pins σ H s):s.heap.FunFrames X.base X.outer:=by
 have all:∀(l:List Env),(∀b∈frs l,b∈X.fs)->X.s₀.heap.FunFrames X.base l->s.heap.FunFrames X.base l:=by
  intro l
  induction l with
  | nil=>intro _ _;trivial
  | cons env r ih =>intro hs hl;obtain⟨hk,⟨L,o,hf,hn,ho,hd⟩,hr⟩:=hl;have hL:L∈X.fs:=hs L (by unfold frs;rw[L5,hf];exact KP);obtain⟨sl,e⟩:=I.base.slot L o ho (I.ok.frf L hL) hL fun z=>I.ok.exfs L z hL;exact⟨hk,⟨L,_,hf,hn,e,hd⟩,ih (fun b hb=>hs b (by unfold frs;rw[L5,hf];exact KN _ hb)) hr⟩
 exact all X.outer (fun _ hb=>hb) I.ok.funs
theorem Inv.stack (I:Inv X pins σ H s):s.heap.FunFrames X.base X.stack:=by
 rcases I.ok.stk with e|⟨e,hf⟩
 ·rw[e];exact I.funs
 ·rw[e];obtain⟨m,hn,_⟩:=I.loc;refine .cons (by rw[I.ok.kind];decide) hf hn ?_ I.funs;exact Heap.get?_none_of_le (K_ I.ok.bsz I.ok.above)
theorem Inv.stkSub (I:Inv X pins σ H s):∀b∈frs X.stack,b∈X.env.locals::X.fs:=fun b hb=>by
 rcases I.ok.stk with e|⟨e,hf⟩
 ·rw[e] at hb;exact KN _ hb
 ·rw[e] at hb;unfold frs at hb;rw[L5,hf] at hb;exact hb
theorem Inv.stkFree (I:Inv X pins σ H s):∀b∈frs X.stack,H b=none:=fun b hb=>by
 rcases K8.mp (I.stkSub b hb) with e|hb
 ·rw[e];exact I.free
 ·obtain⟨_,o,ho,_⟩:=I.ok.funs.mem hb;exact I.base.free b o ho (I.ok.frf b hb) fun z=>I.ok.exfs b z hb
theorem Inv.step {t':Nat}{d':Drawn}{ch:List Addr}(I:Inv X pins σ H s)(hch:∀b∈ch,(b∈X.ex\/X.s₀.heap.objs.size<=b)/\b≠X.env.locals/\(∀x c,X.env.cells.lookup x=some c->c≠b)/\∀p∈X.pn++pins,p.1≠b)(keep:∀b o,b≠X.env.locals->b ∉ X.fs->b ∉ ch->s.heap.get? b=some o->H b=none->h'.get? b=some o)(slot:∀b o,b≠X.env.locals->b∈X.fs->b ∉ ch->s.heap.get? b=some o->H b=none->∃sl,h'.get? b=some { o with slots:=sl })(free:∀b o,b ∉ ch->s.heap.get? b=some o->H b=none->H' b=none)(there:∀b o,b ∉ ch->s.heap.get? b=some o->∃o',h'.get? b=some o')(tups:∀b xs,H b=some (.tup xs)->H' b=some (.tup xs))(frzs:∀b o u,H b=some (.frz o u)->H' b=some (.frz o u))(tbls:∀b ps,H b=some (.tbl ps)->∃more,H' b=some (.tbl (ps++more)))(ns:∀m,s.heap.Ns X.env.locals m->h'.Ns X.env.locals m)(hok:HOk X.prog X.w H' h')(hg:AllBare g') :
  Inv X pins σ H' { s with heap:=h',gens:=g',drawn:=d',toks:=t' }:=by
 have neL:∀b o,X.s₀.heap.get? b=some o->b≠X.env.locals:=fun b o e=>K0 (KZ (KS e) I.ok.above);have neC:∀b o,X.s₀.heap.get? b=some o->b ∉ X.ex->b ∉ ch:=fun b o e hx hb=>by
  rcases (hch b hb).1 with z|z
  ·exact hx z
  ·exact absurd (KZ (KS e) z) (MR _)
 have cellK:∀x c,X.env.cells.lookup x=some c->∀v,s.heap.IsCell c v->h'.IsCell c v:=fun x c e v ⟨o,ho,hd⟩=>by
  have nch:c ∉ ch:=fun z=>(hch c z).2.2.1 x c e rfl;by_cases hc:c∈X.fs
  ·obtain⟨sl,q⟩:=slot c o (I.cne x c e) hc nch ho (I.freeC x c e);exact⟨_,q,hd⟩
  ·exact⟨o,keep c o (I.cne x c e) hc nch ho (I.freeC x c e),hd⟩
 refine⟨I.ok,I.os,hg,⟨fun b o e n hb hx=>?_,fun b o e n hb hx=>?_,fun b o e n hx=>?_,fun b o e hx=>?_,fun b xs e=>tups b xs (I.base.tups b xs e),fun b o xs e=>frzs b o xs (I.base.frzs b o xs e),fun b ps e=>?_⟩,?_,fun x c e=>?_,?_,fun x c e=>?_,fun p hp=>?_,hok,I.len⟩
 ·exact keep b o (neL b o e) hb (neC b o e hx) (I.base.keep b o e n hb hx) (I.base.free b o e n hx)
 ·obtain⟨sl,e1⟩:=I.base.slot b o e n hb hx;obtain⟨sl',e2⟩:=slot b _ (neL b o e) hb (neC b o e hx) e1 (I.base.free b o e n hx);exact⟨sl',e2⟩
 ·obtain⟨o',e1⟩:=I.base.there b o e hx;exact free b o' (neC b o e hx) e1 (I.base.free b o e n hx)
 ·obtain⟨o',e1⟩:=I.base.there b o e hx;exact there b o' (neC b o e hx) e1
 ·obtain⟨m1,e1⟩:=I.base.tbls b ps e;obtain⟨m2,e2⟩:=tbls b _ e1;exact⟨m1++m2,by rw[e2,Array.append_assoc]⟩
 ·obtain⟨m,hn,hl⟩:=I.loc;refine⟨m,ns m hn,fun i x v e1 e2 e3=>?_⟩;obtain⟨u,r,l⟩:=hl i x v e1 e2 e3;refine⟨u,r,?_⟩;rcases l with l|⟨k,c,e,z⟩
  ·exact .inl l
  ·exact .inr ⟨k,c,e,cellK x c e _ z⟩
 ·obtain⟨v,z⟩:=I.cell x c e;exact⟨v,cellK x c e v z⟩
 ·obtain⟨m,⟨o,_,_,ho,_⟩,_⟩:=I.loc;exact free _ o (fun z=>(hch _ z).2.1 rfl) ho I.free
 ·obtain⟨v,o,ho,hd⟩:=I.cell x c e;exact free c o (fun z=>(hch c z).2.2.1 x c e rfl) ho (I.freeC x c e)
 ·obtain⟨e,n,ne,nf,d⟩:=I.pin p hp;have nch:p.1 ∉ ch:=fun z=>(hch p.1 z).2.2.2 p hp rfl;exact⟨keep p.1 p.2 ne nf nch e n,free p.1 p.2 nch e n,ne,nf,d⟩
theorem Inv.un {t':Nat}(I:Inv X pins σ H s)(u:Un X.fs [] H H' s.heap h')(hok:HOk X.prog X.w H' h'):Inv X pins σ H' { s with heap:=h',toks:=t' }:=by
 obtain⟨m,⟨o,es,ep,ho,r⟩,_⟩:=id I.loc;obtain⟨sl,hL⟩:=u.any ho I.free (by simp);exact I.step (g':=s.gens) (d':=s.drawn) (ch:=[]) (fun _ z=>nomatch z) (fun b o _ hb _ e n=>u.keep b o e n hb (by simp)) (fun b o _ hb _ e n=>u.slot b o e n hb (by simp)) (fun b o _ e n=>u.free b o e n (by simp)) (fun b o _ e=>u.there b o e (by simp)) u.tups u.frzs u.tbls (fun m' hm=>by obtain⟨o',es',ep',ho',r'⟩:=hm;rw[ho] at ho';cases ho';exact⟨_,es',ep',hL,r'⟩) hok I.bare
theorem Inv.call {t':Nat}{d':Drawn}(I:Inv X pins σ H s)(u:Un (frs X.stack) ch H H' s.heap h')(hok:HOk X.prog X.w H' h')(hg:AllBare g')(hch:∀b∈ch,(b∈X.ex\/X.s₀.heap.objs.size<=b)/\b≠X.env.locals/\(∀x c,X.env.cells.lookup x=some c->c≠b)/\∀p∈X.pn++pins,p.1≠b) :
  Inv X pins σ H' { s with heap:=h',gens:=g',drawn:=d',toks:=t' }:=by
 obtain⟨m,⟨o,es,ep,ho,r⟩,_⟩:=id I.loc;obtain⟨sl,hL⟩:=u.any ho I.free fun z=>(hch _ z).2.1 rfl;exact I.step (ch:=ch) hch (fun b o hL hb hc e n=>u.keep b o e n (fun z=>(K8.mp (I.stkSub b z)).elim hL hb) hc) (fun b o _ _ hc e n=>u.any e n hc) (fun b o hc e n=>u.free b o e n hc) (fun b o hc e=>u.there b o e hc) u.tups u.frzs u.tbls (fun m' hm=>by obtain⟨o',es',ep',ho',r'⟩:=hm;rw[ho] at ho';cases ho';exact⟨_,es',ep',hL,r'⟩) hok hg
theorem Inv.turned {t':Nat}{it:Addr}(I:Inv X pins σ H s)(k:∀b o,b≠it->s.heap.get? b=some o->h'.get? b=some o)(hn:H it=none)(hL:it≠X.env.locals)
  (h1:it∈X.ex\/X.s₀.heap.objs.size<=it) (h2:∀x c,X.env.cells.lookup x=some c->c≠it) (h3:∀p∈X.pn++pins,p.1≠it):Inv X pins σ H { s with heap:=h',toks:=t' }:=by
 have nit:∀b u,H b=some u->b≠it:=fun b u e z=>by rw[z,hn] at e;cases e
 refine I.step (g':=s.gens) (d':=s.drawn) (ch:=[it]) (fun b hb=>?_) (fun b o _ _ hc e _=>k b o (fun z=>hc (by simp[z])) e) (fun b o _ _ hc e _=>⟨o.slots,k b o (fun z=>hc (by simp[z])) e⟩) (fun _ _ _ _ n=>n)
  (fun b o hc e=>⟨o,k b o (fun z=>hc (by simp[z])) e⟩) (fun _ _ e=>e) (fun _ _ _ e=>e) (fun b ps e=>⟨#[],by rw[e];simp⟩) (fun m hm=>?_) (fun b u e=>?_) I.bare
 ·have e:b=it:=by simpa using hb
  subst e;exact⟨h1,hL,h2,h3⟩
 ·obtain⟨o,es,ep,ho,r⟩:=hm;exact⟨o,es,ep,k _ o (Ne.symm hL) ho,r⟩
 ·refine(I.hok b u e).stay (fun c v hc q=>k c v ?_ q) (fun _ q=>q) fun _ _ q=>q;rcases hc with z|z
  ·rw[z];exact nit b u e
  ·exact nit c _ z
theorem Inv.tok (I:Inv X pins σ H s)(t:Nat):Inv X pins σ H { s with toks:=t }:=I.un (h':=s.heap) (t':=t) Un.refl I.hok
theorem Inv.kept {t':Nat}(I:Inv X pins σ H s)(k:∀b u,s.heap.get? b=some u->h'.get? b=some u):Inv X pins σ H { s with heap:=h',toks:=t' }:=I.un (Un.kept k) (I.hok.kept k)
theorem Inv.laid {a:Addr}{t':Nat}(I:Inv X pins σ H s)(k:∀b u,s.heap.get? b=some u->h'.get? b=some u)(hp:s.heap.objs.size<=a)(new:ObjOk X.prog X.w (upd H a o) h' a o) :
  Inv X pins σ (upd H a o) { s with heap:=h',toks:=t' }:=I.un (Un.laid k hp (I.hok.fresh hp)) (I.hok.laid k hp new)
theorem Inv.write {e:Addr}{t':Nat}(I:Inv X pins σ H s)(mu:Mut (H x))(he:e=x\/H e=some (.own x))(k:∀b u,b≠e->s.heap.get? b=some u->h'.get? b=some u)(heo:∃u,h'.get? e=some u)(new:ObjOk X.prog X.w (upd H x o) h' x o):Inv X pins σ (upd H x o) { s with heap:=h',toks:=t' }:=I.un (Un.write mu he k heo) (I.hok.write mu he k heo new)
theorem Inv.pins_of {pins':List (Addr × Obj)}(I:Inv X pins σ H s)(h:∀p∈pins',s.heap.get? p.1=some p.2/\H p.1=none/\p.1≠X.env.locals/\p.1 ∉ X.fs/\∀v,p.2.data≠.cell v):Inv X pins' σ H s :=
 ⟨I.ok,I.os,I.bare,I.base,I.loc,I.cell,I.free,I.freeC,fun p hp=>(LC.mp hp).elim (fun z=>I.pin p (List.mem_append_left _ z)) (h p),I.hok,I.len⟩
theorem sH {N:List Str}(hN:N.Nodup){i j:Nat}(a:N[i]?=some x)(b:N[j]?=some x):i=j:=by obtain⟨h1,e1⟩:=KQ.mp a;obtain⟨h2,e2⟩:=KQ.mp b;exact(List.getElem_inj hN).mp (e1.trans e2.symm)
theorem o7 {M:Model}{E:Value->Shared->Prop}{i:Nat}{Q:Unit->Shared->Prop}(I:Inv X pins σ H s)(hN:X.N.Nodup)(hi:X.N[i]?=some x)(hx:Loc X.env.scope x)(r:RelV v u)(h:∀s',Inv X pins (σ.set i (some v)) H s'->(∃a,Heap.SameBut a s.heap s'.heap/\(a=X.env.locals\/X.env.cells.lookup x=some a))->Q () s')(hf:X.fn x=true\/X.env.scope.names.lookup x=some .local:=by first|exact .inl rfl|exact .inr rfl|assumption):wpAny M A (storeName X.env x u) Q E s:=by
 obtain⟨m,hn,hl⟩:=id I.loc;have hcls:(X.env.scope.kind == .class || (X.env.scope.kind == .module && X.env.locals != X.env.globals))=false:=by rw[I.ok.kind];rfl
 have hiσ:i<σ.length:=by rw[I.len];exact(KQ.mp hi).1
 have cne:=I.cne;have tracked:∀ {a:Addr}{h':Heap},(∃o,s.heap.get? a=some o/\H a=none)->Heap.SameBut a s.heap h'->HOk X.prog X.w H h':=fun {a h'} ha hs b ob e=>by
  obtain⟨_,_,hfree⟩:=ha;refine(I.hok b ob e).stay (fun c w' hc q=>(hs.2 c ?_).trans q) (fun _ q=>q) fun _ _ q=>q;rintro rfl;rcases hc with rfl|hc
  ·rw[hfree] at e;cases e
  ·rw[hfree] at hc;cases hc
 rcases hx with hk|hk
 ·refine wpAny_storeName_local hk hn (fun h' hn' hs=>?_) hcls;obtain⟨oL,_,_,hoL,_⟩:=id hn;refine h _ ⟨I.ok,I.os,I.bare,⟨fun b o e n hb hx=>?_,fun b o e n hb hx=>?_,I.base.free,fun b o e hx=>?_,I.base.tups,I.base.frzs,I.base.tbls⟩,⟨_,hn',fun j y v' e1 e2 e3=>?_⟩,fun y c e=>?_,I.free,I.freeC,fun p hp=>?_,tracked ⟨oL,hoL,I.free⟩ hs,by simpa using I.len⟩ ⟨_,hs,.inl rfl⟩
  ·exact(hs.2 b (K0 (KZ (KS e) I.ok.above))).trans (I.base.keep b o e n hb hx)
  ·obtain⟨sl,e1⟩:=I.base.slot b o e n hb hx;exact⟨sl,(hs.2 b (K0 (KZ (KS e) I.ok.above))).trans e1⟩
  ·obtain⟨o',e1⟩:=I.base.there b o e hx;exact⟨o',(hs.2 b (K0 (KZ (KS e) I.ok.above))).trans e1⟩
  ·by_cases hj:j=i
   ·subst hj;rw[hi] at e1;cases e1;rw[KR hiσ] at e2;cases e2;exact⟨u,r,.inl ⟨hk,by simp⟩⟩
   ·rw[KU (Ne.symm hj)] at e2;obtain⟨u',r',q⟩:=hl j y v' e1 e2 e3;refine⟨u',r',?_⟩;rcases q with⟨k,e⟩|⟨k,c,e,z⟩
    ·refine .inl ⟨k,?_⟩;have:y≠x:=fun e=>hj (sH hN e1 (e ▸ hi));simp[this,e]
    ·exact .inr ⟨k,c,e,z.sameBut hs (cne y c e)⟩
  ·obtain⟨w',z⟩:=I.cell y c e;exact⟨w',z.sameBut hs (cne y c e)⟩
  ·obtain⟨e,n,ne,nf,d⟩:=I.pin p hp;exact⟨(hs.2 p.1 ne).trans e,n,ne,nf,d⟩
 ·have hfn:X.fn x=true:=by
   rcases hf with z|z
   ·exact z
   ·rw[z] at hk;cases hk
  obtain⟨c,hc⟩:=I.ok.has x (.inl hk);obtain⟨w',z⟩:=I.cell x c hc;refine wpAny_storeName_cell I.ok.kind hk hc z (fun h' hc' hs=>?_);obtain⟨oc,hoc,hocd⟩:=id z;refine h { s with heap:=h' } ⟨I.ok,I.os,I.bare,⟨fun b o e n hb hx=>?_,fun b o e n hb hx=>?_,I.base.free,fun b o e hx=>?_,I.base.tups,I.base.frzs,I.base.tbls⟩,⟨m,hn.sameBut hs (Ne.symm (cne x c hc)),fun j y v' e1 e2 e3=>?_⟩,fun y c' e=>?_,I.free,I.freeC,fun p hp=>?_,tracked ⟨oc,hoc,I.freeC x c hc⟩ hs,by simpa using I.len⟩ ⟨c,hs,.inr hc⟩
  ·exact(hs.2 b (K0 (KZ (KS e) (I.ok.cab x c hfn hc)))).trans (I.base.keep b o e n hb hx)
  ·obtain⟨sl,e1⟩:=I.base.slot b o e n hb hx;exact⟨sl,(hs.2 b (K0 (KZ (KS e) (I.ok.cab x c hfn hc)))).trans e1⟩
  ·obtain⟨o',e1⟩:=I.base.there b o e hx;exact⟨o',(hs.2 b (K0 (KZ (KS e) (I.ok.cab x c hfn hc)))).trans e1⟩
  ·by_cases hj:j=i
   ·subst hj;rw[hi] at e1;cases e1;rw[KR hiσ] at e2;cases e2;exact⟨u,r,.inr ⟨.inl hk,c,hc,hc'⟩⟩
   ·rw[KU (Ne.symm hj)] at e2;obtain⟨u',r',q⟩:=hl j y v' e1 e2 e3;refine⟨u',r',?_⟩;rcases q with q|⟨k,c',e,z'⟩
    ·exact .inl q
    ·refine .inr ⟨k,c',e,z'.sameBut hs ?_⟩;rintro rfl;exact hj (sH hN e1 (I.ok.inj _ _ _ e hc ▸ hi))
  ·by_cases hcc:c'=c
   ·subst hcc;exact⟨_,hc'⟩
   ·obtain⟨w2,z2⟩:=I.cell y c' e;exact⟨w2,z2.sameBut hs hcc⟩
  ·obtain⟨e,n,ne,nf,d⟩:=I.pin p hp;refine⟨(hs.2 p.1 ?_).trans e,n,ne,nf,d⟩;intro q;rw[q,hoc] at e;have q':oc=p.2:=L7 e;exact d w' (by rw[<-q'];exact hocd)
theorem eJ {M:Model}{E:Value->Shared->Prop}{i:Nat}{Q:Unit->Shared->Prop}(I:Inv X pins σ H s)(hN:X.N.Nodup)(hi:X.N[i]?=some x)(hx:Loc X.env.scope x)(r:RelV v u)(h:∀s',Inv X pins (σ.set i (some v)) H s'->Q () s')(hf:X.fn x=true\/X.env.scope.names.lookup x=some .local:=by first|exact .inl rfl|exact .inr rfl|assumption):wpAny M A (storeName X.env x u) Q E s :=
 o7 I hN hi hx r (fun s' I' _=>h s' I') hf
theorem Inv.call' {s':Shared}(I:Inv X pins σ H s)(ho:s'.os=s.os)(u:Un (frs X.stack) ch H H' s.heap s'.heap)(hok:HOk X.prog X.w H' s'.heap)(hg:AllBare s'.gens)(hch:∀b∈ch,(b∈X.ex\/X.s₀.heap.objs.size<=b)/\b≠X.env.locals/\(∀x c,X.env.cells.lookup x=some c->c≠b)/\∀p∈X.pn++pins,p.1≠b):Inv X pins σ H' s':=by
 obtain⟨h',g',d',t',o'⟩:=s';have e:o'=s.os:=ho;subst e;exact I.call (g':=g') (t':=t') (d':=d') u hok hg hch
end
noncomputable abbrev XK:=Value->Option Addr->Hp->Prop
noncomputable abbrev St:=List (Option V)
noncomputable abbrev VK:=V->Hp->Prop
noncomputable abbrev TE:=St->Hp->VK->Prop
noncomputable abbrev TT:=St->Hp->(Bool->Hp->Prop)->Prop
noncomputable abbrev TA:=St->Hp->(List V->Hp->Prop)->Prop
structure Ends where
 nx:St->Hp->Prop
 rt:VK
 bk:St->Hp->Prop:=fun _ _=>False
 ct:St->Hp->Prop:=fun _ _=>False
noncomputable abbrev TS:=Ends->St->Hp->Prop
def EP (X:Cx)(pins:List (Addr × Obj))(σ:St)(Q:VK)(u:Value)(s':Shared):Prop:=∃v H',Inv X pins σ H' s'/\RelV v u/\Q v H'
def TP (X:Cx)(pins:List (Addr × Obj))(σ:St)(Q:Bool->Hp->Prop)(b:Bool)(s':Shared):Prop:=∃H',Inv X pins σ H' s'/\Q b H'
def AP (X:Cx)(pins:List (Addr × Obj))(σ:St)(Q:List V->Hp->Prop)(us:List Value)(s':Shared):Prop:=∃vs H',Inv X pins σ H' s'/\Vals vs us/\Q vs H'
def SP (X:Cx)(pins:List (Addr × Obj))(D:Ends)(f:Flow)(s':Shared):Prop :=
 match f with
 | .next=>∃σ' H',Inv X pins σ' H' s'/\D.nx σ' H'
 | .brk=>∃σ' H',Inv X pins σ' H' s'/\D.bk σ' H'
 | .cont=>∃σ' H',Inv X pins σ' H' s'/\D.ct σ' H'
 | .ret u=>∃v σ' H',Inv X pins σ' H' s'/\RelV v u/\D.rt v H'
def PE (X:Cx)(e:Expr)(t:TE):Prop :=
 ∀(pins:List (Addr × Obj)) (s:Shared) (σ:St) (H:Hp) (Q:VK),Inv X pins σ H s->t σ H Q->wpAny (model X.prog X.w) X.A (eval e X.env) (EP X pins σ Q) X.xe s
def PT (X:Cx)(e:Expr)(t:TT):Prop :=
 ∀(pins:List (Addr × Obj)) (s:Shared) (σ:St) (H:Hp) (Q:Bool->Hp->Prop),Inv X pins σ H s->t σ H Q->wpAny (model X.prog X.w) X.A (isTrue e X.env (eval e X.env)) (TP X pins σ Q) X.xe s
def PW (X:Cx)(e:Expr)(t:TT):Prop :=
 ∀(whole:Sem Value) (pins:List (Addr × Obj)) (s:Shared) (σ:St) (H:Hp) (Q:Bool->Hp->Prop),Inv X pins σ H s->t σ H Q->wpAny (model X.prog X.w) X.A (isTrue e X.env whole) (TP X pins σ Q) X.xe s
theorem PW.pt (h:PW X e t):PT X e t:=h _
def PA (X:Cx)(es:List Expr)(t:TA):Prop :=
 ∀(pos:Pos) (pins:List (Addr × Obj)) (s:Shared) (σ:St) (H:Hp) (Q:List V->Hp->Prop),Inv X pins σ H s->t σ H Q->wpAny (model X.prog X.w) X.A (spliced (backTo pos (starEach es X.env))) (AP X pins σ Q) X.xe s
def PS (X:Cx)(st:Stmt)(t:TS):Prop :=
 ∀(pins:List (Addr × Obj)) (s:Shared) (σ:St) (H:Hp) (D:Ends),Inv X pins σ H s->t D σ H->wpAny (model X.prog X.w) X.A (exec st X.env) (SP X pins D) X.xe s
def PSs (X:Cx)(st:List Stmt)(t:TS):Prop :=
 ∀(pins:List (Addr × Obj)) (s:Shared) (σ:St) (H:Hp) (D:Ends),Inv X pins σ H s->t D σ H->wpAny (model X.prog X.w) X.A (execs st X.env) (SP X pins D) X.xe s
theorem thn {α:Type}{t:Sem α}{Q Q':α->Shared->Prop}{M:Model}{E:Value->Shared->Prop}(h:wpAny M A t Q E s)(hQ:∀a s,Q a s->Q' a s):wpAny M A t Q' E s:=wpAny_mono h hQ fun _ _ x=>x
end L2
namespace L2
section
variable {X:Cx}
noncomputable def Kt (i:Nat):TE:=fun σ H Q=>∃v,σ[i]?=some (some v)/\Q v H
noncomputable def tC (v:V):TE:=fun _ H Q=>Q v H
theorem Ho {i:Nat}{x:Str}{pos:Pos}(hN:X.N[i]?=some x)(hv:Vis X.env.scope x)(hd:(x == ("__debug__":Str))=false:=by decide)(hcd:(x == ("__classdict__":Str))=false:=by decide):PE X (.Name x pos) (Kt i):=by
 intro pins s σ H Q I h;obtain⟨v,e,h⟩:=h;obtain⟨m,hn,hl⟩:=I.loc;obtain⟨u,r,l⟩:=hl i x v hN e hv;have fin:EP X pins σ Q u s:=⟨v,H,I,r,h⟩;rcases l with⟨hk,hm⟩|⟨hk,c,hc,hcell⟩
 ·exact wpAny_Name (wpAny_loadName_local I.ok.kind hk hn hm fin) hd
 ·rcases hk with hk|hk
  ·exact wpAny_Name (wpAny_loadName_cell I.ok.kind hk hc hcell fin) hd
  ·exact wpAny_Name (wpAny_loadName_free I.ok.kind hk hc hcell fin hcd) hd
theorem B2 {i j pos}:PE X (.Constant (.int i) j pos) (tC (.int i)):=fun _ _ _ H _ I h=>wpAny_Constant_int ⟨.int i,H,I.tok _,⟨_,rfl⟩,h⟩
theorem HR {b j pos}:PE X (.Constant (.bool b) j pos) (tC (.bl b)):=fun _ _ _ H _ I h=>Constant_bool ⟨.bl b,H,I,rfl,h⟩
theorem Ht {j pos}:PE X (.Constant .none j pos) (tC .non):=fun _ _ _ H _ I h=>Constant_none ⟨.non,H,I,rfl,h⟩
theorem Hd {x j pos}:PE X (.Constant (.str x) j pos) (tC (.str x)):=fun _ _ _ H _ I h=>Calls.Constant_str ⟨.str x,H,I.tok _,⟨_,rfl⟩,h⟩
def Gl (X:Cx)(x:Str):Prop:=X.env.kindOf x=some .globalImplicit
theorem qI {E:Value->Shared->Prop}{σ:St}{Q:Value->Shared->Prop}(I:Inv X pins σ H s)(hg:Gl X x)(hm:X.mg x=some u)(h:Q u s)(hd:(x == ("__debug__":Str))=false:=by decide):wpAny (model X.prog X.w) X.A (eval (.Name x pos) X.env) Q E s :=
 Calls.Name_function_global I.ok.kind hg (Calls.loadGlobal_global (by rw[I.ok.glob];exact I.mod.glob.keeps I.bk) hm h) hd
theorem l' {E:Value->Shared->Prop}{pins:List (Addr × Obj)}{s:Shared}{σ:St}{H:Hp}{x:Str}{u:Value}{pos:Pos}{Q:Value->Shared->Prop}(I:Inv X pins σ H s)(hg:Gl X x)(hm:X.mg x=none)(hv:bootBuiltins x=some u)(h:Q u s)
  (hn:x≠"__name__":=by decide) (hd:(x == ("__debug__":Str))=false:=by decide):wpAny (model X.prog X.w) X.A (eval (.Name x pos) X.env) Q E s:=by
 obtain⟨mb,h1,h2⟩:=I.mod.blt;exact Calls.Name_function_global I.ok.kind hg (Calls.loadGlobal_builtin (by rw[I.ok.glob];exact I.mod.glob.keeps I.bk) hm (by rw[I.ok.blt];exact h1.keeps I.bk) ((h2 x hn).trans hv) h) hd
theorem Dr (hg:Gl X x)(hm:X.mg x=some u)(r:RelV v u)(hd:(x == ("__debug__":Str))=false:=by decide):PE X (.Name x pos) (tC v) :=
 fun _ _ _ H _ I h=>qI I hg hm ⟨v,H,I,r,h⟩ hd
theorem Do {x:Str}{v:V}{u:Value}{pos:Pos}(hg:Gl X x)(hm:X.mg x=none)(hv:bootBuiltins x=some u)(r:RelV v u)(hn:x≠"__name__":=by decide)(hd:(x == ("__debug__":Str))=false:=by decide):PE X (.Name x pos) (tC v) :=
 fun _ _ _ H _ I h=>l' I hg hm hv ⟨v,H,I,r,h⟩ hn hd
variable {a b:Expr}{ta tb:TE}{pos:Pos}
variable {tA tB':TT}{rest:List Expr}
noncomputable def HV (t u:TT):TT:=fun σ H Q=>t σ H fun c H1=>if c=true then u σ H1 Q else Q false H1
noncomputable def tOr (t u:TT):TT:=fun σ H Q=>t σ H fun c H1=>if c=true then Q true H1 else u σ H1 Q
noncomputable def JX (t:TT):TT:=fun σ H Q=>t σ H fun c H1=>Q (!c) H1
theorem D3 (ha:PT X a tA):PW X (.BoolOp .And [a] pos) tA:=by
 intro wh pins s σ H Q I h;refine isTrue_and (thn (ha pins s σ H Q I h) fun c s1 e=>?_);cases c with
 | true=>exact isTrue_and_nil e
 | false=>exact e
theorem GI (ha:PT X a tA):PW X (.BoolOp .Or [a] pos) tA:=by
 intro wh pins s σ H Q I h;refine isTrue_or (thn (ha pins s σ H Q I h) fun c s1 e=>?_);cases c with
 | false=>exact isTrue_or_nil e
 | true=>exact e
theorem F1 (ha:PT X a tA)(hb:PW X (.BoolOp .And (b::rest) pos) tB'):PW X (.BoolOp .And (a::b::rest) pos) (HV tA tB'):=by
 intro wh pins s σ H Q I h;refine isTrue_and (thn (ha pins s σ H _ I h) fun c s1 ⟨H1,I1,q1⟩=>?_);cases c with
 | true=>exact hb wh pins s1 σ H1 Q I1 q1
 | false=>exact⟨H1,I1,q1⟩
theorem Jf (ha:PT X a tA)(hb:PW X (.BoolOp .Or (b::rest) pos) tB'):PW X (.BoolOp .Or (a::b::rest) pos) (tOr tA tB'):=by
 intro wh pins s σ H Q I h;refine isTrue_or (thn (ha pins s σ H _ I h) fun c s1 ⟨H1,I1,q1⟩=>?_);cases c with
 | true=>exact⟨H1,I1,q1⟩
 | false=>exact hb wh pins s1 σ H1 Q I1 q1
theorem F4 (ha:PT X a tA):PT X (.UnaryOp .Not a pos) (JX tA):=by intro pins s σ H Q I h;exact isTrue_not (ha pins s σ H (fun c H1=>Q (!c) H1) I h)
noncomputable def HU (ta tb:TE):TE:=fun σ H Q=>ta σ H fun x H1=>∃c,x=.bl c/\if c=true then tb σ H1 Q else Q (.bl false) H1
noncomputable def KA (ta tb:TE):TE:=fun σ H Q=>ta σ H fun x H1=>∃c,x=.bl c/\if c=true then Q (.bl true) H1 else tb σ H1 Q
noncomputable def Ja (ta:TE):TE:=fun σ H Q=>ta σ H fun x H1=>∃c,x=.bl c/\Q (.bl (!c)) H1
theorem Cv {op}(h:PE X a t):PE X (.BoolOp op [a] pos) t:=fun pins s σ H Q I hw=>BoolOp_one (h pins s σ H Q I hw)
theorem GM (ha:PE X a ta)(hb:PE X (.BoolOp .And (b::rest) pos) tb):PE X (.BoolOp .And (a::b::rest) pos) (HU ta tb):=by
 intro pins s σ H Q I h;refine BoolOp_and (thn (ha pins s σ H _ I h) fun v s1 ⟨x,H1,I1,r1,q1⟩=>?_);obtain⟨c,rfl,q1⟩:=q1;cases r1;refine wpAny_truthy_bool ?_;cases c with
 | true=>exact hb pins s1 σ H1 Q I1 q1
 | false=>exact⟨.bl false,H1,I1,rfl,q1⟩
theorem H_ (ha:PE X a ta)(hb:PE X (.BoolOp .Or (b::rest) pos) tb):PE X (.BoolOp .Or (a::b::rest) pos) (KA ta tb):=by
 intro pins s σ H Q I h;refine BoolOp_or (thn (ha pins s σ H _ I h) fun v s1 ⟨x,H1,I1,r1,q1⟩=>?_);obtain⟨c,rfl,q1⟩:=q1;cases r1;refine wpAny_truthy_bool ?_;cases c with
 | false=>exact hb pins s1 σ H1 Q I1 q1
 | true=>exact⟨.bl true,H1,I1,rfl,q1⟩
theorem FU (ha:PE X a ta):PE X (.UnaryOp .Not a pos) (Ja ta):=by intro pins s σ H Q I h;refine UnaryOp_ (thn (ha pins s σ H _ I h) fun v s1 ⟨x,H1,I1,r1,q1⟩=>?_);obtain⟨c,rfl,q1⟩:=q1;cases r1;exact not_of (wpAny_truthy_bool ⟨.bl (!c),H1,I1,rfl,q1⟩)
noncomputable def tIf (t:TT)(ta tb:TE):TE:=fun σ H Q=>t σ H fun c H1=>if c=true then ta σ H1 Q else tb σ H1 Q
theorem Cd (hc:PT X c tA)(ha:PE X a ta)(hb:PE X b tb):PE X (.IfExp c a b pos) (tIf tA ta tb):=by
 intro pins s σ H Q I h;refine wpAny_IfExp (thn (hc pins s σ H _ I h) fun d s1 ⟨H1,I1,q1⟩=>?_);cases d with
 | true=>exact ha pins s1 σ H1 Q I1 q1
 | false=>exact hb pins s1 σ H1 Q I1 q1
end
end L2
namespace L2
def SqL (K:W.Frag)(H:Hp)(a:Addr)(xs:List V):Prop :=
 Rd H a (.lst xs) \/
  ∃(o:Obj) (its:Array Value) (n:Nat),K.lookup a=some o/\o.cls=.type "list"/\o.dict=none/\o.data=.seq its n/\its.size<=sizeLine/\Vals xs its.toList
def SqT (K:W.Frag)(H:Hp)(a:Addr)(xs:List V):Prop :=
 Rd H a (.tup xs) \/
  ∃(o:Obj) (its:Array Value) (n:Nat),K.lookup a=some o/\o.cls=.type "tuple"/\o.data=.seq its n/\its.size<=sizeLine/\Vals xs its.toList
noncomputable def Kx:Value->Option V
 | .none=>some .non
 | .bool b=>some (.bl b)
 | .int i _=>some (.int i)
 | .str x _=>some (.str x)
 | .bytes b _=>some (.byt b)
 | .float b _=>some (.flt b)
 | .ref a=>some (.ref a)
 | .type n=>some (.ty n)
 | _=>none
theorem RelV.abs (r:RelV x u):Kx u=some x:=by
 cases x with
 | non=>cases r;rfl
 | bl _=>cases r;rfl
 | int _=>obtain⟨t,rfl⟩:=r;rfl
 | str _=>obtain⟨t,rfl⟩:=r;rfl
 | byt _=>obtain⟨t,rfl⟩:=r;rfl
 | flt _=>obtain⟨t,rfl⟩:=r;rfl
 | ref _=>cases r;rfl
 | ty _=>cases r;rfl
theorem RelV.inj (r:RelV x u)(q:RelV y u):x=y:=L7 (r.abs.symm.trans q.abs)
theorem Vals.inj:∀ {xs ys:List V}{us:List Value},Vals xs us->Vals ys us->xs=ys
 | _,_,_,.nil,.nil=>rfl
 | _,_,_,.cons r t,.cons r' t'=>by rw[r.inj r',Vals.inj t t']
section
variable {X:Cx}{pins:List (Addr × Obj)}{σ:St}{H:Hp}{s:Shared}{a:Addr}{xs ys:List V}
theorem SqL.of (h:H a=some (.lst xs)):SqL K H a xs:=.inl (.inl h)
theorem SqT.of (h:H a=some (.tup xs)):SqT K H a xs:=.inl (.inl h)
theorem Inv.list (I:Inv X pins σ H s)(h:SqL X.K H a xs):∃its:List Value,Vals xs its/\PlainL s.heap a its.toArray/\xs.length<=sizeLine:=by
 rcases h with h|⟨o,its,n,hk,hc,hd,hs,hz,r⟩
 ·obtain⟨z,its,n,r,e⟩:=h.ok I.hok;exact⟨its,r,⟨_,n,e,rfl,rfl,rfl⟩,z⟩
 ·refine⟨its.toList,r,⟨o,n,I.kIn a o hk,hc,hd,by simpa using hs⟩,?_⟩;have e:=r.length;simp only[Array.length_toList] at e;omega
theorem Inv.tuple (I:Inv X pins σ H s)(h:SqT X.K H a xs):∃its:List Value,Vals xs its/\IsTup s.heap a its.toArray/\xs.length<=sizeLine:=by
 rcases h with h|⟨o,its,n,hk,hc,hs,hz,r⟩
 ·obtain⟨z,its,r,p⟩:=h.ok I.hok;exact⟨its,r,p,z⟩
 ·refine⟨its.toList,r,⟨o,I.kIn a o hk,hc,n,by simpa using hs⟩,?_⟩;have e:=r.length;simp only[Array.length_toList] at e;omega
theorem Inv.list_inj (I:Inv X pins σ H s)(h:SqL X.K H a xs)(h':SqL X.K H a ys):xs=ys:=by
 obtain⟨its,r,⟨o,n,e,_,_,d⟩,_⟩:=I.list h;obtain⟨its',r',⟨o',n',e',_,_,d'⟩,_⟩:=I.list h';rw[e] at e';cases e';rw[d] at d';injection d' with d1 _
 have:its=its':=by simpa using LP Array.toList d1
 subst this;exact r.inj r'
theorem Inv.tuple_inj (I:Inv X pins σ H s)(h:SqT X.K H a xs)(h':SqT X.K H a ys):xs=ys:=by
 obtain⟨its,r,⟨o,e,_,n,d⟩,_⟩:=I.tuple h;obtain⟨its',r',⟨o',e',_,n',d'⟩,_⟩:=I.tuple h';rw[e] at e';cases e';rw[d] at d';injection d' with d1 _
 have:its=its':=by simpa using LP Array.toList d1
 subst this;exact r.inj r'
end
noncomputable abbrev Cx.wish (X:Cx)(E:Value->Shared->Prop):Cx:={ X with xe:=E }
noncomputable abbrev Cx.nox (X:Cx):Cx:=X.wish fun _ _=>False
theorem Cx.Ok.wish {X:Cx}(ok:X.Ok)(E:Value->Shared->Prop):(X.wish E).Ok :=
 ⟨ok.mod,ok.kind,ok.glob,ok.blt,ok.above,ok.inj,ok.has,ok.cab,ok.hd,ok.frames,ok.stk,ok.exf,ok.bs,ok.bsz,ok.noex,ok.exfs,ok.funs,ok.frf⟩
theorem Cx.Ok.unwish {X:Cx}{E:Value->Shared->Prop}(ok:(X.wish E).Ok):X.Ok :=
 ⟨ok.mod,ok.kind,ok.glob,ok.blt,ok.above,ok.inj,ok.has,ok.cab,ok.hd,ok.frames,ok.stk,ok.exf,ok.bs,ok.bsz,ok.noex,ok.exfs,ok.funs,ok.frf⟩
section
variable {X:Cx}{pins:List (Addr × Obj)}{σ:St}{H:Hp}{s:Shared}{E:Value->Shared->Prop}
theorem Inv.wish (I:Inv X pins σ H s)(E:Value->Shared->Prop):Inv (X.wish E) pins σ H s:=⟨I.ok.wish E,I.os,I.bare,I.base,I.loc,I.cell,I.free,I.freeC,I.pin,I.hok,I.len⟩
theorem Inv.unwish (I:Inv (X.wish E) pins σ H s):Inv X pins σ H s:=⟨I.ok.unwish,I.os,I.bare,I.base,I.loc,I.cell,I.free,I.freeC,I.pin,I.hok,I.len⟩
theorem SP.unwish {D:Ends}(h:SP (X.wish E) pins D f s'):SP X pins D f s':=by
 cases f with
 | next=>obtain⟨σ',H',I,q⟩:=h;exact⟨σ',H',I.unwish,q⟩
 | brk=>obtain⟨σ',H',I,q⟩:=h;exact⟨σ',H',I.unwish,q⟩
 | cont=>obtain⟨σ',H',I,q⟩:=h;exact⟨σ',H',I.unwish,q⟩
 | ret u=>obtain⟨v,σ',H',I,r,q⟩:=h;exact⟨v,σ',H',I.unwish,r,q⟩
theorem PSs.nox (h:PSs X.nox st t):PSs X st t:=fun pins s σ H D I hw =>
 wpAny_mono (h pins s σ H D (I.wish _) hw) (fun _ _ q=>q.unwish) fun _ _ z=>False.elim z
end
section
variable {X:Cx}{st:Stmt}{rest:List Stmt}{t u:TS}{e:Expr}{te:TE}{pos:Pos}
noncomputable def EG:TS:=fun D σ H=>D.nx σ H
noncomputable def J5 (t u:TS):TS:=fun D σ H=>t { D with nx:=u D } σ H
theorem DM:PSs X [] EG:=fun _ _ σ H _ I h=>wpAny_execs_nil ⟨σ,H,I,h⟩
theorem BA (h1:PS X st t)(h2:PSs X rest u):PSs X (st::rest) (J5 t u):=by
 intro pins s σ H D I h;refine wpAny_execs_cons (thn (h1 pins s σ H { D with nx:=u D } I h) fun f s1 q=>?_);cases f with
 | next =>obtain⟨σ',H',I',q⟩:=q;exact h2 pins s1 σ' H' D I' q
 | ret v=>exact q
 | brk=>exact q
 | cont=>exact q
noncomputable def Hb:TS:=fun D σ H=>D.bk σ H
noncomputable def Jn:TS:=fun D σ H=>D.ct σ H
theorem D2:PS X (.Pass pos) EG:=fun _ _ σ H _ I h=>wpAny_Pass ⟨σ,H,I,h⟩
theorem zg:PS X (.Break pos) Hb:=fun _ _ σ H _ I h=>wpAny_Break ⟨σ,H,I,h⟩
theorem uc:PS X (.Continue pos) Jn:=fun _ _ σ H _ I h=>wpAny_Continue ⟨σ,H,I,h⟩
theorem Inv.quiet {σ:St}(I:Inv X pins σ H s):interactive X.env=false:=by simp[interactive,I.ok.kind]
noncomputable def Jp (te:TE):TS:=fun D σ H=>te σ H fun _ H1=>D.nx σ H1
theorem C5 (he:PE X e te)(hs:swapsWith e none pos.line X.env=pure false:=by rfl):PS X (.Expr e pos) (Jp te):=by intro pins s σ H D I h;exact wpAny_Expr_any (thn (he pins s σ H _ I h) fun v s1 ⟨x,H1,I1,r1,q1⟩=>⟨σ,H1,I1,q1⟩) I.quiet hs
noncomputable def J7 (te:TE):TS:=fun D σ H=>te σ H D.rt
theorem Gq (he:PE X e te):PS X (.Return (some e) pos) (J7 te):=by intro pins s σ H D I h;exact wpAny_Return_some (thn (he pins s σ H _ I h) fun v s1 ⟨x,H1,I1,r1,q1⟩=>⟨x,σ,H1,I1,r1,q1⟩)
noncomputable def HQ:TS:=fun D _ H=>D.rt .non H
theorem DF:PS X (.Return none pos) HQ:=fun _ _ σ H _ I h=>wpAny_Return_none ⟨.non,σ,H,I,rfl,h⟩
noncomputable def Ku (c:TT)(t u:TS):TS:=fun D σ H=>c σ H fun b H1=>if b=true then t D σ H1 else u D σ H1
theorem IT (hc:PT X c tc)(ha:PSs X a t)(hb:PSs X b u):PS X (.If c a b pos) (Ku tc t u):=by
 intro pins s σ H D I h;refine wpAny_If (thn (hc pins s σ H _ I h) fun d s1 ⟨H1,I1,q1⟩=>?_);cases d with
 | true=>exact ha pins s1 σ H1 D I1 q1
 | false=>exact hb pins s1 σ H1 D I1 q1
end
noncomputable abbrev TG:=V->St->Hp->(St->Hp->Prop)->Prop
noncomputable abbrev TGs:=List V->St->Hp->(St->Hp->Prop)->Prop
def PG (X:Cx)(target:Expr)(t:TG):Prop :=
 ∀(pins:List (Addr × Obj)) (s:Shared) (σ:St) (H:Hp) (v:V) (u:Value) (Q:St->Hp->Prop),Inv X pins σ H s->RelV v u->t v σ H Q ->
  wpAny (model X.prog X.w) X.A (assign target X.env u) (fun _ s'=>∃σ' H',Inv X pins σ' H' s'/\Q σ' H') X.xe s
def PGs (X:Cx)(ts:List Expr)(t:TGs):Prop :=
 ∀(pins:List (Addr × Obj)) (s:Shared) (σ:St) (H:Hp) (vs:List V) (us:List Value) (Q:St->Hp->Prop),Inv X pins σ H s->Vals vs us->t vs σ H Q ->
  wpAny (model X.prog X.w) X.A (assignInOrder ((assignEach ts X.env).map (·.2)) us) (fun _ s'=>∃σ' H',Inv X pins σ' H' s'/\Q σ' H') X.xe s
noncomputable abbrev GU:=V->V->V->Hp->(Hp->Prop)->Prop
def DJ (X:Cx)(t:GU):Prop :=
 ∀(pins:List (Addr × Obj)) (s:Shared) (σ:St) (H:Hp) (o i v:V) (ov iv u:Value) (Q:Hp->Prop),Inv X pins σ H s->RelV o ov->RelV i iv->RelV v u->t o i v H Q ->
  wpAny (model X.prog X.w) X.A (setItem ov iv u) (fun _ s'=>∃H',Inv X pins σ H' s'/\Q H') X.xe s
noncomputable abbrev TIp:=V->V->Hp->VK->Prop
def PIp (X:Cx)(op:Operator)(t:TIp):Prop :=
 ∀(pins:List (Addr × Obj)) (s:Shared) (σ:St) (H:Hp) (x y:V) (v u:Value) (Q:VK),Inv X pins σ H s->RelV x v->RelV y u->t x y H Q ->
  wpAny (model X.prog X.w) X.A (inplaceOp op v u) (EP X pins σ Q) X.xe s
section
variable {X:Cx}{pos:Pos}
noncomputable def Fi (i:Nat):TG:=fun v σ H Q=>Q (σ.set i (some v)) H
theorem CP {i:Nat}(hN:X.N.Nodup)(hi:X.N[i]?=some x)(hx:Loc X.env.scope x)(hf:X.fn x=true\/X.env.scope.names.lookup x=some .local:=by first|exact .inl rfl|exact .inr rfl|assumption):PG X (.Name x pos) (Fi i):=by intro pins s σ H v u Q I r h;exact wpAny_assign_Name (eJ I hN hi hx r (fun s' I'=>⟨_,H,I',h⟩) hf)
noncomputable def Ka:TGs:=fun vs σ H Q=>vs=[]/\Q σ H
noncomputable def IB (t:TG)(u:TGs):TGs:=fun vs σ H Q=>∃v r,vs=v::r/\t v σ H fun σ' H'=>u r σ' H' Q
theorem CZ:PGs X [] Ka:=by intro pins s σ H vs us Q I r h;obtain⟨e,h⟩:=h;subst e;cases r;exact assignInOrder_nil ⟨σ,H,I,h⟩
theorem zB (h1:PG X e t)(h2:PGs X es u)(hs:(assignEach (e::es) X.env).map (·.2)=assign e X.env::(assignEach es X.env).map (·.2):=by rfl):PGs X (e::es) (IB t u):=by
 intro pins s σ H vs us Q I r h;obtain⟨v,vr,e1,h⟩:=h;subst e1;cases r with
 | cons r rr =>rw[hs];refine assignInOrder_cons (thn (h1 pins s σ H _ _ _ I r h) fun _ s1 ⟨σ1,H1,I1,q1⟩=>?_);exact h2 pins s1 σ1 H1 _ _ Q I1 rr q1
noncomputable def Ko (K:W.Frag)(n:Nat)(t:TGs):TG:=fun v σ H Q=>∃a xs,v=.ref a/\SqT K H a xs/\xs.length=n/\t xs σ H Q
theorem F6 {es:List Expr}{k:Nat}{t:TGs}{n:Nat}(hc:X.calm=true)(h:PGs X es t)
  (hn:(assignEach es X.env).length=n:=by rfl) (hst:(assignEach es X.env).findIdx? (·.1)=none:=by rfl):PG X (.Tuple es k pos) (Ko X.K n t):=by
 intro pins s σ H v u Q I r hw;obtain⟨a,xs,e1,hq,hl,hw⟩:=hw;subst e1;cases r;obtain⟨its,rv,ht,hz⟩:=I.tuple hq;refine assign_Tuple_tuple (I.ok.hd hc) ht (by simp[hn,<-hl,rv.length]) hst fun h' hx=>?_;have I1:Inv X pins σ H { s with heap:=h' }:=I.kept (t':=s.toks) fun b o e=>hx b o (K0 (KS e)) e;exact h pins _ σ H xs _ Q I1 (by simpa using rv) hw
noncomputable def Km (to ti:TE)(t:GU):TG:=fun v σ H Q=>to σ H fun o H1=>ti σ H1 fun i H2=>t o i v H2 fun H3=>Q σ H3
theorem zw (ho:PE X o to)(hi:PE X i ti)(hs:DJ X t)(ha:∀v,assign (.Subscript o i pos) X.env v=(do
   let ov <-holding [v] (eval o X.env);let iv <-holding [v,ov] (eval i X.env)
   standAt pos
   holding [v,ov,iv] (setItem ov iv v)
   release [v,ov,iv] []):=by intro _;rfl):PG X (.Subscript o i pos) (Km to ti t):=by
 intro pins s σ H v u Q I r h;rw[ha];refine KF (LU (thn (ho pins s σ H _ I h) fun ov s1 ⟨x,H1,I1,r1,q1⟩=>?_));refine KF (LU (thn (hi pins s1 σ H1 _ I1 q1) fun iv s2 ⟨y,H2,I2,r2,q2⟩=>?_));refine KF (wpAny_standAt (KF (LU (thn (hs pins s2 σ H2 x y v ov iv u _ I2 r1 r2 r q2) fun _ s3 ⟨H3,I3,q3⟩=>?_))));exact wpAny_release ⟨σ,H3,I3,q3⟩
noncomputable def C4 (te:TE)(g:TG):TS:=fun D σ H=>te σ H fun x H1=>g x σ H1 D.nx
theorem jX (he:PE X e te)(hg:PG X tg g)(hs:swapsWithSole [tg] e pos.line X.env=pure false:=by rfl)(hw:swappedStores [tg] e X.env=pure none:=by rfl)(h1:(assignEach [tg] X.env).map (·.2)=[assign tg X.env]:=by rfl):PS X (.Assign [tg] e pos) (C4 te g):=by
 intro pins s σ H D I h;refine wpAny_Assign_stores (thn (he pins s σ H _ I h) fun v s1 ⟨x,H1,I1,r1,q1⟩=>?_) hs hw;rw[h1];exact thn (hg pins s1 σ H1 x v _ I1 r1 q1) fun _ s2 q=>q
theorem Cg {i:Nat}(hN:X.N.Nodup)(hi:X.N[i]?=some x)(hx:Loc X.env.scope x)(he:PE X e te)(hs:swapsWith e (some (.Name x pos')) pos.line X.env=pure false:=by rfl)(hf:X.fn x=true\/X.env.scope.names.lookup x=some .local:=by first|exact .inl rfl|exact .inr rfl|assumption) :
  PS X (.Assign [.Name x pos'] e pos) (C4 te (Fi i)):=by
 intro pins s σ H D I h;refine wpAny_Assign_Name (thn (he pins s σ H _ I h) fun v s1 ⟨y,H1,I1,r1,q1⟩=>?_) hs;exact eJ I1 hN hi hx r1 (fun s2 I2=>⟨_,H1,I2,q1⟩) hf
noncomputable def Ki (i j:Nat)(ta:TA):TS:=fun D σ H=>ta σ H fun vs H1=>∃v w,vs=[v,w]/\D.nx ((σ.set i (some v)).set j (some w)) H1
theorem G_ {i j:Nat}{a:Expr}{kt k2 pt2}(hc:X.calm=true)(hN:X.N.Nodup)(hi:X.N[i]?=some x)(hj:X.N[j]?=some y)(hij:i≠j)(hx:X.env.scope.names.lookup x=some .local)(hy:X.env.scope.names.lookup y=some .local)(ha:PA X [a,b] ta)(hw:swappedStores [.Tuple [.Name x px,.Name y py] kt pt] (.Tuple [a,b] k2 pt2) X.env=pure (some [x,y]))(hs:swapsWithSole [.Tuple [.Name x px,.Name y py] kt pt] (.Tuple [a,b] k2 pt2) pos.line X.env=pure false:=by rfl) :
  PS X (.Assign [.Tuple [.Name x px,.Name y py] kt pt] (.Tuple [a,b] k2 pt2) pos) (Ki i j ta):=by
 intro pins s σ H D I h;rw[exec_Assign_arm];refine KF (wpAny_standAt ?_);rw[hs];refine KF (KG ?_);rw[KW (by decide)];refine KF (Tuple_ (thn (ha _ pins s σ H _ I h) fun us s1 ⟨vs,H1,I1,r1,q1⟩=>?_));obtain⟨v,w,e1,q1⟩:=q1;subst e1;obtain⟨u1,u2,rfl,rv,rw'⟩:∃u1 u2,us=[u1,u2]/\RelV v u1/\RelV w u2:=by
  cases r1 with
  | cons p q =>
   cases q with
   | cons p' q' =>cases q';exact⟨_,_,rfl,p,p'⟩
 refine wpAny_newObj_type ?_ (by show 2<=sizeLine;decide);have I2:Inv X pins σ H1 { s1 with heap:=s1.heap.push { cls:=.type "tuple",data:=.seq [u1,u2].toArray } }:=I1.kept (t':=s1.toks) fun b o e=>KH _ e;rw[hw];refine KF (KG ?_);show wpAny (model X.prog X.w) X.A (do rule "assign.swapped-stores";let items <-unpackItems (.ref s1.heap.objs.size) 2 none;assignInOrder [fun v=>bindName X.env y v,fun v=>bindName X.env x v] items.reverse;pure Flow.next) _ _ _;refine KF (wpAny_rule (KF (unpackItems_tuple (items:=#[u1,u2]) (I.ok.hd hc) (IsTup.new s1.heap _) fun h' hx'=>?_)));have I3:=I2.kept (h':=h') (t':=s1.toks) fun b o e=>hx' b o (K0 (KS e)) e;show wpAny _ _ (assignInOrder [fun v=>bindName X.env y v,fun v=>bindName X.env x v] [u2,u1] >>= fun _=>pure Flow.next) _ _ _;refine KF (assignInOrder_cons (wpAny_bindName (eJ I3 hN hj (.inl hy) rw' (fun s2 I4=>?_) (.inr hy))));refine assignInOrder_cons (wpAny_bindName (eJ I4 hN hi (.inl hx) rv (fun s3 I5=>assignInOrder_nil (KG ?_)) (.inr hx)));rw[List.set_comm _ _ (Ne.symm hij)] at I5;exact⟨_,H1,I5,q1⟩
noncomputable def JS (i:Nat)(te:TE)(ti:TIp):TS:=fun D σ H=>∃x,σ[i]?=some (some x)/\te σ H fun y H1=>ti x y H1 fun z H2=>D.nx (σ.set i (some z)) H2
theorem Hl {i:Nat}(hN:X.N.Nodup)(hi:X.N[i]?=some x)(hx:Loc X.env.scope x)(he:PE X e te)(ho:PIp X op ti)(hf:X.fn x=true\/X.env.scope.names.lookup x=some .local:=by first|exact .inl rfl|exact .inr rfl|assumption) :
  PS X (.AugAssign (.Name x pos') op e pos) (JS i te ti):=by
 intro pins s σ H D I h;obtain⟨v,e1,h⟩:=h;obtain⟨m,hn,hl⟩:=I.loc;have vis:Vis X.env.scope x:=by rcases hx with k|k;exact .inl k;exact .inr (.inl k)
 obtain⟨u,r,l⟩:=hl i x v hi e1 vis;refine wpAny_AugAssign_Name ?_;have go:wpAny (model X.prog X.w) X.A (eval e X.env) (fun w s₂=>wpAny (model X.prog X.w) X.A (inplaceOp op u w) (fun r s₃=>wpAny (model X.prog X.w) X.A (storeName X.env x r) (fun _=>SP X pins D .next) X.xe s₃) X.xe s₂) X.xe s:=by refine thn (he pins s σ H _ I h) fun w s1 ⟨y,H1,I1,r1,q1⟩=>?_;refine thn (ho pins s1 σ H1 v y u w _ I1 r r1 q1) fun z s2 ⟨zv,H2,I2,r2,q2⟩=>?_;exact eJ I2 hN hi hx r2 (fun s3 I3=>⟨_,H2,I3,q2⟩) hf
 rcases l with⟨hk,hm⟩|⟨hk,c,hc,hcell⟩
 ·exact wpAny_loadName_local I.ok.kind hk hn hm go
 ·rcases hk with hk|hk
  ·exact wpAny_loadName_cell I.ok.kind hk hc hcell go
  ·rcases hx with k|k
   ·have:X.env.scope.names.lookup x=some .free:=hk;rw[k] at this;cases this
   ·have:X.env.scope.names.lookup x=some .free:=hk;rw[k] at this;cases this
noncomputable def ipI (f:Int->Int->Int):TIp:=fun x y H Q=>∃i j,x=.int i/\y=.int j/\Q (.int (f i j)) H
theorem GA:PIp X .Add (ipI fun i j=>i+j):=by intro pins s σ H x y v u Q I r1 r2 h;obtain⟨i,j,e1,e2,q⟩:=h;subst e1;subst e2;obtain⟨t,rfl⟩:=r1;obtain⟨t',rfl⟩:=r2;exact iadd_int ⟨.int _,H,I.tok _,⟨_,rfl⟩,q⟩
theorem Gi:PIp X .Sub (ipI fun i j=>i-j):=by intro pins s σ H x y v u Q I r1 r2 h;obtain⟨i,j,e1,e2,q⟩:=h;subst e1;subst e2;obtain⟨t,rfl⟩:=r1;obtain⟨t',rfl⟩:=r2;exact isub_int ⟨.int _,H,I.tok _,⟨_,rfl⟩,q⟩
end
section
variable {X:Cx}{pos:Pos}
noncomputable def Al (c:TT)(tb:TS):TS:=fun D σ H=>∃W:Nat->St->Hp->Prop,(∃m,W m σ H)/\∀m σ H,W m σ H ->
 c σ H fun b H1=>if b=true then ∃N:St->Hp->Prop,(∀σ' H',N σ' H'->∃m',m'<m/\W m' σ' H')/\tb { D with nx:=N,ct:=N,bk:=D.nx } σ H1 else D.nx σ H1
theorem Bm (hp:PassesOwn (model X.prog X.w) X.A X.env X.xe)(hc:PT X c tc)(hb:PSs X body tb):PS X (.While c body [] pos) (Al tc tb):=by
 intro pins s σ H D I h;obtain⟨W,⟨m0,w0⟩,turn⟩:=h;refine wpAny_While (codeAny_whileLoop (fun n s'=>∃σ' H',Inv X pins σ' H' s'/\W n σ' H') ?_ m0 ⟨σ,H,I,w0⟩);rintro n s1 ⟨σ1,H1,I1,w1⟩;refine wpAny_passesOwn hp (thn (hc pins s1 σ1 H1 _ I1 (turn n σ1 H1 w1)) fun b s2 ⟨H2,I2,q2⟩=>?_);cases b with
 | true =>
  obtain⟨N,hN,q2⟩:=q2;rw[K1 rfl];refine wpAny_passesOwn hp (thn (hb pins s2 σ1 H2 _ I2 q2) fun f s3 q3=>?_);cases f with
  | next =>obtain⟨σ3,H3,I3,n3⟩:=q3;obtain⟨m',hm,w3⟩:=hN σ3 H3 n3;exact⟨m',hm,σ3,H3,I3,w3⟩
  | cont =>obtain⟨σ3,H3,I3,n3⟩:=q3;obtain⟨m',hm,w3⟩:=hN σ3 H3 n3;exact⟨m',hm,σ3,H3,I3,w3⟩
  | brk=>exact q3
  | ret v=>exact q3
 | false =>rw[KW KI];exact wpAny_execs_nil ⟨σ1,H2,I2,q2⟩
end
structure It where
 go:Nat->Hp->Prop
 yld:Nat->Hp->V->Hp->Prop
 stop:Nat->Hp->Prop
def kn (X:Cx)(pins:List (Addr × Obj))(H:Hp)(b:Addr):Prop :=
 H b=none/\b≠X.env.locals/\b ∉ X.fs/\(b∈X.ex\/X.s₀.heap.objs.size<=b)/\(∀x c,X.env.cells.lookup x=some c->c≠b)/\∀p∈X.pn++pins,p.1≠b
theorem Inv.fpOk {σ:St}{H':Hp}{b:Addr}(I:Inv X pins σ H s)(hb:s.heap.objs.size<=b)(hn:H' b=none):kn X pins H' b:=by
 refine⟨hn,ME (KZ I.lt hb),I.nofs hb,.inr (K_ I.sz hb),fun x c e z=>?_,fun p hp z=>?_⟩
 ·obtain⟨v,q⟩:=I.cell x c e;exact absurd (KZ q.lt (by rw[z];exact hb)) (MR _)
 ·exact absurd (KZ (KS (I.pin p hp).1) (by rw[z];exact hb)) (MR _)
structure rj (P:Program)(w:World)(K:W.Frag)(tg:Expr)(J:It)(fp:List Addr)(it:Addr)(tn:Nat->Heap->Prop):Prop where
 mem:it∈fp
 obj:∀i h,tn i h->∀b∈fp,∃o,h.get? b=some o/\∀v,o.data≠.cell v
 keep:∀i h h',tn i h->(∀b∈fp,∀o,h.get? b=some o->h'.get? b=some o)->tn i h'
 item:∀(X:Cx),X.prog=P->X.w=w->X.K=K->X.calm=true->∀(i:Nat) (pins:List (Addr × Obj)) (s:Shared) (σ:St) (H:Hp) (E:Value->Shared->Prop),Inv X pins σ H s->(∀b∈fp,kn X pins H b)->tn i s.heap->J.go i H ->
  wpAny (model P w) X.A (pyNext (.ref it)) (fun r s1=>∃u,r=some u /\
   wpAny (model P w) X.A (letOwnedTupleGo tg (.ref it) u) (fun _ s2=>∃x H',Inv X pins σ H' s2/\RelV x u/\J.yld i H x H'/\tn (i+1) s2.heap/\∀b∈fp,H' b=none) E s1) E s
 done:∀(X:Cx),X.prog=P->X.w=w->X.K=K->X.calm=true->∀(i:Nat) (pins:List (Addr × Obj)) (s:Shared) (σ:St) (H:Hp) (E:Value->Shared->Prop),Inv X pins σ H s->(∀b∈fp,kn X pins H b)->tn i s.heap->J.stop i H ->
  wpAny (model P w) X.A (pyNext (.ref it)) (fun r s1=>r=none/\Inv X pins σ H s1) E s
 self:∀(A:Around) (i:Nat) (s:Shared) (Q:Value->Shared->Prop) (E:Value->Shared->Prop),tn i s.heap->Q (.ref it) s->wpAny (model P w) A (pyIter (.ref it)) Q E s
noncomputable abbrev TI:=St->Hp->(It->Hp->Prop)->Prop
def PIE (X:Cx)(pins:List (Addr × Obj))(σ:St)(tg:Expr)(R:It->Hp->Prop)(itv:Value)(s2:Shared):Prop :=
 ∃(it:Addr) (fp:List Addr) (tn:Nat->Heap->Prop) (J:It) (H':Hp),itv=.ref it/\Inv X pins σ H' s2/\rj X.prog X.w X.K tg J fp it tn/\tn 0 s2.heap/\(∀b∈fp,kn X pins H' b)/\R J H'
def PI (X:Cx)(tg iter:Expr)(wi:TI):Prop :=
 ∀(pins:List (Addr × Obj)) (s:Shared) (σ:St) (H:Hp) (R:It->Hp->Prop),Inv X pins σ H s->wi σ H R ->
  wpAny (model X.prog X.w) X.A (eval iter X.env) (fun v s1=>wpAny (model X.prog X.w) X.A (pyIter v) (PIE X pins σ tg R) X.xe s1) X.xe s
theorem tZ {M:Model}{E:Value->Shared->Prop}{s:Shared}{Q:Unit->Shared->Prop}(ho:s.heap.get? it=some o)(hc:o.cls=.type n)(hd:o.data=.fields vs)(hn:["enumerate","zip","dict_itemiterator","dict_reverseitemiterator","odict_iterator","itertools.zip_longest","itertools.pairwise"].contains n=false)(hQ:Q () s):wpAny M A (letOwnedTupleGo tg (.ref it) u) Q E s:=by
 unfold letOwnedTupleGo;cases tg <;> first
  | exact KG hQ
  | (cases u <;> first
    | exact KG hQ
    | (refine KF (wpAny_load ho ?_)
       rw[hc,hd];show wpAny M A (if (["enumerate","zip","dict_itemiterator","dict_reverseitemiterator","odict_iterator","itertools.zip_longest","itertools.pairwise"].contains n && vs[0]? == some (rawInt _))=true then _ else _) Q E s;rw[KW (by intro h;rw[hn,OI] at h;cases h)];exact KG hQ))
noncomputable def Itl (K:W.Frag)(a:Addr):It :=
 ⟨fun i H=>∃xs x,SqL K H a xs/\xs[i]?=some x,fun i H x H'=>H'=H/\∀xs,SqL K H a xs->xs[i]?=some x,fun i H=>∃xs,SqL K H a xs/\xs.length<=i⟩
noncomputable def Itt (K:W.Frag)(a:Addr):It :=
 ⟨fun i H=>∃xs x,SqT K H a xs/\xs[i]?=some x,fun i H x H'=>H'=H/\∀xs,SqT K H a xs->xs[i]?=some x,fun i H=>∃xs,SqT K H a xs/\xs.length<=i⟩
noncomputable def Itr (lo:Int)(n:Nat):It:=⟨fun i _=>i<n,fun i H x H'=>H'=H/\x=.int (lo+i),fun i _=>n<=i⟩
theorem yE {P:Program}{w:World}{K:W.Frag}{tg:Expr}(a it:Addr):rj P w K tg (Itl K a) [it] it (fun i h=>h.IsListIter it a i) where
 mem:=by simp
 obj:=fun i h st b hb=>by
  have e:b=it:=by simpa using hb
  subst e;obtain⟨o,e,c,d⟩:=st;exact⟨o,e,fun v z=>by rw[d] at z;cases z⟩
 keep:=fun i h h' st k=>st.at fun o e=>k it (by simp) o e
 item:=by intro X hP hw hK hc i pins s σ H E I hf st hg;subst hP hw hK;obtain⟨xs,x,hq,hx⟩:=hg;obtain⟨its,rv,p,hz⟩:=I.list hq;obtain⟨u,hu,ru⟩:=rv.get hx;obtain⟨f0,f1,f2,f3,f4,f5⟩:=hf it (by simp);refine wpAny_pyNext_list_item st p.isList (x:=u) (by simpa using hu) fun h' st' sb=>?_;have I1:Inv X pins σ H { s with heap:=h' }:=I.turned (t':=s.toks) (fun b o hb e=>(sb.2 b hb).trans e) f0 f1 f3 f4 f5;obtain⟨o,e,c,d⟩:=id st';exact⟨u,rfl,tZ (s:={ s with heap:=h' }) e c d (by decide) ⟨x,H,I1,ru,⟨rfl,fun ys hy=>by rw[I.list_inj hy hq];exact hx⟩,st',fun b hb=>(hf b hb).1⟩⟩
 done:=by intro X hP hw hK hc i pins s σ H E I hf st hg;subst hP hw hK;obtain⟨xs,hq,hx⟩:=hg;obtain⟨its,rv,p,hz⟩:=I.list hq;obtain⟨f0,f1,f2,f3,f4,f5⟩:=hf it (by simp);have hl:=rv.length;exact wpAny_pyNext_list_end (I.ok.hd hc) st p.isList (by simp;omega) fun h' eb=>⟨rfl,I.turned (t':=s.toks) (fun b o hb e=>eb b o hb e) f0 f1 f3 f4 f5⟩
 self:=fun _ _ _ _ _ st h=>wpAny_pyIter_listiter st h
theorem vK {P:Program}{w:World}{K:W.Frag}{tg:Expr}(a it:Addr):rj P w K tg (Itt K a) [it] it (fun i h=>h.IsTupleIter it a i) where
 mem:=by simp
 obj:=fun i h st b hb=>by
  have e:b=it:=by simpa using hb
  subst e;obtain⟨o,e,c,d⟩:=st;exact⟨o,e,fun v z=>by rw[d] at z;cases z⟩
 keep:=fun i h h' st k=>st.at fun o e=>k it (by simp) o e
 item:=by intro X hP hw hK hc i pins s σ H E I hf st hg;subst hP hw hK;obtain⟨xs,x,hq,hx⟩:=hg;obtain⟨its,rv,p,hz⟩:=I.tuple hq;obtain⟨u,hu,ru⟩:=rv.get hx;obtain⟨f0,f1,f2,f3,f4,f5⟩:=hf it (by simp);refine wpAny_pyNext_tuple_item st (show s.heap.IsTuple a its.toArray from p) (x:=u) (by simpa using hu) fun h' st' sb=>?_;have I1:Inv X pins σ H { s with heap:=h' }:=I.turned (t':=s.toks) (fun b o hb e=>(sb.2 b hb).trans e) f0 f1 f3 f4 f5;obtain⟨o,e,c,d⟩:=id st';exact⟨u,rfl,tZ (s:={ s with heap:=h' }) e c d (by decide) ⟨x,H,I1,ru,⟨rfl,fun ys hy=>by rw[I.tuple_inj hy hq];exact hx⟩,st',fun b hb=>(hf b hb).1⟩⟩
 done:=by intro X hP hw hK hc i pins s σ H E I hf st hg;subst hP hw hK;obtain⟨xs,hq,hx⟩:=hg;obtain⟨its,rv,p,hz⟩:=I.tuple hq;obtain⟨f0,f1,f2,f3,f4,f5⟩:=hf it (by simp);have hl:=rv.length;exact wpAny_pyNext_tuple_end (I.ok.hd hc) st (show s.heap.IsTuple a its.toArray from p) (by simp;omega) fun h' eb=>⟨rfl,I.turned (t':=s.toks) (fun b o hb e=>eb b o hb e) f0 f1 f3 f4 f5⟩
 self:=fun _ _ _ _ _ st h=>wpAny_pyIter_tupleiter st h
theorem vB {P:Program}{w:World}{K:W.Frag}{tg:Expr}(it:Addr)(lo:Int)(n:Nat):rj P w K tg (Itr lo n) [it] it (fun i h=>IsRangeIter h it (lo+(i:Nat)*1) ((n:Int)-(i:Nat)) 1) where
 mem:=by simp
 obj:=fun i h st b hb=>by
  have e:b=it:=by simpa using hb
  subst e;exact⟨_,st,fun v z=>by have z':Data.fields _=Data.cell v:=z;cases z'⟩
 keep:=fun i h h' st k=>k it (by simp) _ st
 item:=by intro X hP hw hK hc i pins s σ H E I hf st hg;subst hP hw hK;obtain⟨f0,f1,f2,f3,f4,f5⟩:=hf it (by simp);have W:=Walks.range (prog:=X.prog) (w:=X.w) (I.ok.hd hc) it lo 1 n;refine W.item i s _ _ hg st fun v h' tk hv st' kk=>?_;obtain⟨t,rfl⟩:=hv;have I1:Inv X pins σ H { s with heap:=h',toks:=tk }:=I.turned (fun b o hb e=>kk b o (by simpa using hb) e) f0 f1 f3 f4 f5;refine ⟨_,rfl,tZ (s:={ s with heap:=h',toks:=tk }) (n:="range_iterator") st' rfl rfl (by decide) ⟨.int (lo+i),H,I1,⟨t,?_⟩,⟨rfl,rfl⟩,st',fun b hb=>(hf b hb).1⟩⟩;rw[Int.mul_one]
 done:=by intro X hP hw hK hc i pins s σ H E I hf st hg;subst hP hw hK;obtain⟨f0,f1,f2,f3,f4,f5⟩:=hf it (by simp);exact wpAny_pyNext_range_end (I.ok.hd hc) st (by have:n<=i:=hg;omega) fun h' eb=>⟨rfl,I.turned (t':=s.toks) (fun b o hb e=>eb b o hb e) f0 f1 f3 f4 f5⟩
 self:=fun _ _ _ _ _ st h=>wpAny_pyIter_rangeiter st h
end L2
namespace L2
section
variable {X:Cx}{tg:Expr}
theorem Bi {σ:St}{R:It->Hp->Prop}{E:Value->Shared->Prop}{lo hi:Int}{t u v:Tok}{tk:Nat}(I:Inv X pins σ H s)(h1:-(2 ^ 62)<=lo)(h2:lo<2 ^ 62)(h3:-(2 ^ 62)<=hi)(h4:hi<2 ^ 62)(q:R (Itr lo (hi-lo).toNat) H):wpAny (model X.prog X.w) X.A (pyIter (.ref s.heap.objs.size)) (PIE X pins σ tg R) E { s with heap:=s.heap.push { cls:=.type "range",data:=.fields #[.int lo t,.int hi u,.int 1 v] },toks:=tk }:=by
 refine wpAny_pyIter_range (IsRange.new ..) (small_one h1 h2 h3 h4) ?_;have I1:Inv X pins σ H { s with heap:=s.heap.push { cls:=.type "range",data:=.fields #[.int lo t,.int hi u,.int 1 v] },toks:=tk }:=I.kept fun b o e=>KH _ e;refine ⟨(s.heap.push { cls:=.type "range",data:=.fields #[.int lo t,.int hi u,.int 1 v] }).objs.size,[(s.heap.push { cls:=.type "range",data:=.fields #[.int lo t,.int hi u,.int 1 v] }).objs.size],_,_,H,rfl,
  I1.kept (t':=tk) fun b o e=>KH _ e,vB _ lo (hi-lo).toNat,?_,fun b hb=>?_,q⟩
 ·have e1:lo+((0:Nat):Int)*1=lo:=by simp
  have e2:(((hi-lo).toNat:Nat):Int)-((0:Nat):Int)=Builtin.Range.rangeSize lo hi 1:=by rw[rangeSize_one];split <;> omega
  show IsRangeIter _ _ (lo+((0:Nat):Int)*1) ((((hi-lo).toNat:Nat):Int)-((0:Nat):Int)) 1;rw[e1,e2];exact KL _ rfl
 ·have e:b=(s.heap.push { cls:=.type "range",data:=.fields #[.int lo t,.int hi u,.int 1 v] }).objs.size:=by simpa using hb
  subst e;exact I1.fpOk (KJ _) (I1.hok.fresh (KJ _))
noncomputable def HA (ta:TA):TI:=fun σ H R=>ta σ H fun vs H1=>∃j:Int,vs=[.int j]/\-(2 ^ 62)<=j/\j<2 ^ 62/\R (Itr 0 j.toNat) H1
theorem yq {a:Expr}(hg:Gl X "range")(hm:X.mg "range"=none)(ha:PA X [a] ta)(hs:starEach [a] X.env=[(false,eval a X.env)]:=by rfl):PI X tg (.Call (.Name "range" p) [a] [] pos) (HA ta):=by
 intro pins s σ H R I h;refine Call_ (l' I hg hm boot_range (NC (thn (ha pos pins s σ H _ I h) fun us s1 ⟨vs,H1,I1,r1,q1⟩=>?_) hs rfl));obtain⟨j,e,q1,q2,q⟩:=q1;subst e;cases r1 with
 | cons r rr =>cases rr;obtain⟨t,rfl⟩:=r;exact call_range_1 (Bi I1 (by omega) (by omega) q1 q2 (by simpa using q))
noncomputable def GN (wi:TI)(g:TG)(tb:TS):TS:=fun D σ H=>wi σ H fun J H1=>∃W:Nat->Nat->St->Hp->Prop,(∃m,W 0 m σ H1)/\∀i m σ H,W i m σ H ->
 (J.stop i H/\D.nx σ H)\/(J.go i H/\∃N:St->Hp->Prop,(∀σ' H',N σ' H'->∃m',m'<m/\W (i+1) m' σ' H')/\∀x H',J.yld i H x H'->g x σ H' fun σ2 H2=>tb { D with nx:=N,ct:=N,bk:=D.nx } σ2 H2)
noncomputable def mi (fp:List Addr)(h:Heap):List (Addr × Obj):=fp.filterMap fun b=>(h.get? b).map fun o=>(b,o)
theorem fS {fp:List Addr}{h:Heap}{b:Addr}(hb:b∈fp)(e:h.get? b=some o):(b,o)∈mi fp h:=NN.mpr ⟨b,hb,by rw[e];rfl⟩
theorem yZ {p:Addr × Obj}(hp:p∈mi fp h):p.1∈fp/\h.get? p.1=some p.2:=by
 obtain⟨b,hb,e⟩:=NN.mp hp;cases q:h.get? b with
 | none=>rw[q] at e;cases e
 | some o =>rw[q] at e;have e':(b,o)=p:=L7 e;subst e';exact⟨hb,q⟩
theorem Inv.pinned {σ:St}{fp:List Addr}(I:Inv X pins σ H s)(hf:∀b∈fp,kn X pins H b)(ho:∀b∈fp,∃o,s.heap.get? b=some o/\∀v,o.data≠.cell v):Inv X (pins++mi fp s.heap) σ H s :=
 I.pins_of fun p hp=>(LC.mp hp).elim (fun z=>I.pin p (LX _ z)) fun z=>by obtain⟨hb,e⟩:=yZ z;obtain⟨f0,f1,f2,_⟩:=hf p.1 hb;obtain⟨o,e',d⟩:=ho p.1 hb;rw[e] at e';cases e';exact⟨e,f0,f1,f2,d⟩
theorem Inv.unpinned {pins pl:List (Addr × Obj)}{σ:St}(I:Inv X (pins++pl) σ H s):Inv X pins σ H s:=I.pins_of fun p hp=>I.pin p (LX _ (List.mem_append_left _ hp))
theorem zx (hp:PassesOwn (model X.prog X.w) X.A X.env X.xe)(hc:X.calm=true)(hi:PI X tg iter wi)(hg:PG X tg g)(hb:PSs X body tb)(hs:∀x,foldedSetIterable iter X.env x=pure x:=by intro _;rfl):PS X (.For tg iter body [] pos) (GN wi g tb):=by
 intro pins s σ H D I h;refine wpAny_For (thn (hi pins s σ H _ I h) fun v s1 h1=>thn h1 fun itv s2 h2=>?_) hs;obtain⟨it,fp,tn,J,H2,e,I2,T,st2,f2,W,⟨m0,w0⟩,turn⟩:=h2;subst e;have stat:∀ {H':Hp},(∀b∈fp,H' b=none)->∀b∈fp,kn X pins H' b:=fun hn b hb=>⟨hn b hb,(f2 b hb).2⟩;refine codeAny_forLoop_any (fun n s'=>∃i σ' H',Inv X pins σ' H' s'/\tn i s'.heap/\(∀b∈fp,H' b=none)/\W i n σ' H') ?_ m0 ⟨0,σ,H2,I2,st2,fun b hb=>(f2 b hb).1,w0⟩;rintro n s3 ⟨i,σ3,H3,I3,st3,fr3,w3⟩;rcases turn i n σ3 H3 w3 with⟨stop,qn⟩|⟨go,N,hN,step⟩
 ·refine wpAny_passesOwn hp (thn (T.done X rfl rfl rfl hc i pins s3 σ3 H3 X.xe I3 (stat fr3) st3 stop) fun r s4 ⟨hr,I4⟩=>?_);subst hr;exact wpAny_execs_nil ⟨σ3,H3,I4,qn⟩
 ·refine wpAny_passesOwn hp (thn (T.item X rfl rfl rfl hc i pins s3 σ3 H3 X.xe I3 (stat fr3) st3 go) fun r s4 ⟨u,hr,h4⟩=>?_);subst hr;refine wpAny_passesOwn hp (thn h4 fun _ s5 ⟨x,H5,I5,r5,y5,st5,fr5⟩=>?_);have I5':=I5.pinned (stat fr5) (T.obj _ _ st5);refine wpAny_passesOwn hp (thn (hg _ s5 σ3 H5 x u _ I5' r5 (step x H5 y5)) fun _ s6 ⟨σ6,H6,I6,q6⟩=>?_);refine wpAny_passesOwn hp (thn (hb _ s6 σ6 H6 _ I6 q6) fun f s7 q7=>?_);have again:∀ {σ7:St}{H7:Hp},Inv X (pins++mi fp s5.heap) σ7 H7 s7->N σ7 H7->∃m,m<n/\∃i σ' H',Inv X pins σ' H' s7/\tn i s7.heap/\(∀b∈fp,H' b=none)/\W i m σ' H':=fun {σ7 H7} I7 n7=>by obtain⟨m',hm,w7⟩:=hN σ7 H7 n7;refine⟨m',hm,i+1,σ7,H7,I7.unpinned,T.keep _ _ _ st5 fun b hb o e=>(I7.pin (b,o) (LX _ (LX _ (fS hb e)))).1,fun b hb=>?_,w7⟩;obtain⟨o,e,d⟩:=T.obj _ _ st5 b hb;exact(I7.pin (b,o) (LX _ (LX _ (fS hb e)))).2.1
  cases f with
  | next=>obtain⟨σ7,H7,I7,n7⟩:=q7;exact again I7 n7
  | cont=>obtain⟨σ7,H7,I7,n7⟩:=q7;exact again I7 n7
  | brk=>obtain⟨σ7,H7,I7,q7⟩:=q7;exact⟨σ7,H7,I7.unpinned,q7⟩
  | ret v=>obtain⟨x7,σ7,H7,I7,r7,q7⟩:=q7;exact⟨x7,σ7,H7,I7.unpinned,r7,q7⟩
end
end L2
namespace L2
noncomputable abbrev R2:=V->V->Hp->VK->Prop
def OpR (X:Cx)(f:Value->Value->Sem Value)(r:R2):Prop :=
 ∀(pins:List (Addr × Obj)) (s:Shared) (σ:St) (H:Hp) (x y:V) (v u:Value) (Q:VK),Inv X pins σ H s->RelV x v->RelV y u->r x y H Q ->
  wpAny (model X.prog X.w) X.A (f v u) (EP X pins σ Q) X.xe s
def UnR (X:Cx)(f:Value->Sem Value)(r:V->Hp->VK->Prop):Prop :=
 ∀(pins:List (Addr × Obj)) (s:Shared) (σ:St) (H:Hp) (x:V) (v:Value) (Q:VK),Inv X pins σ H s->RelV x v->r x H Q ->
  wpAny (model X.prog X.w) X.A (f v) (EP X pins σ Q) X.xe s
def dj (X:Cx)(f:Value)(r:List V->Hp->VK->Prop):Prop :=
 ∀(pins:List (Addr × Obj)) (s:Shared) (σ:St) (H:Hp) (xs:List V) (us:List Value) (Q:VK),Inv X pins σ H s->Vals xs us->r xs H Q ->
  wpAny (model X.prog X.w) X.A (call f us) (EP X pins σ Q) X.xe s
def Kk (X:Cx)(r:V->Hp->(Bool->Hp->Prop)->Prop):Prop :=
 ∀(pins:List (Addr × Obj)) (s:Shared) (σ:St) (H:Hp) (x:V) (v:Value) (Q:Bool->Hp->Prop),Inv X pins σ H s->RelV x v->r x H Q ->
  wpAny (model X.prog X.w) X.A (truthy v) (TP X pins σ Q) X.xe s
noncomputable def tOp (r:R2)(ta tb:TE):TE:=fun σ H Q=>ta σ H fun x H1=>tb σ H1 fun y H2=>r x y H2 Q
noncomputable def tUn (r:V->Hp->VK->Prop)(ta:TE):TE:=fun σ H Q=>ta σ H fun x H1=>r x H1 Q
noncomputable def rI (C:Int->Int->Prop)(g:Int->Int->V):R2:=fun x y H Q=>∃i j,x=.int i/\y=.int j/\C i j/\Q (g i j) H
noncomputable def rI0 (g:Int->Int->V):R2:=fun x y H Q=>∃i j,x=.int i/\y=.int j/\Q (g i j) H
noncomputable def rU (g:Int->V):V->Hp->VK->Prop:=fun x H Q=>∃i,x=.int i/\Q (g i) H
section
variable {X:Cx}{a b c:Expr}{ta tb tc:TE}{pos:Pos}
theorem Hm (ha:PE X a ta)(hb:PE X b tb){σ:St}{R:V->V->Hp->Prop}(I:Inv X pins σ H s)(h:ta σ H fun x H1=>tb σ H1 fun y H2=>R x y H2){f:Value->Value->Sem Value}(hf:∀v u s2 x y H2,Inv X pins σ H2 s2->RelV x v->RelV y u->R x y H2->wpAny (model X.prog X.w) X.A (f v u) Q X.xe s2) :
  wpAny (model X.prog X.w) X.A (eval a X.env) (fun v s₁=>wpAny (model X.prog X.w) X.A (eval b X.env) (fun u s₂=>wpAny (model X.prog X.w) X.A (f v u) Q X.xe s₂) X.xe s₁) X.xe s:=by
 refine thn (ha pins s σ H _ I h) fun v s1 ⟨x,H1,I1,r1,q1⟩=>?_;refine thn (hb pins s1 σ H1 _ I1 q1) fun u s2 ⟨y,H2,I2,r2,q2⟩=>?_;exact hf v u s2 x y H2 I2 r1 r2 q2
theorem Ji (ho:OpR X (binaryOp op) r)(ha:PE X a ta)(hb:PE X b tb):PE X (.BinOp a op b pos) (tOp r ta tb):=by intro pins s σ H Q I h;exact wpAny_BinOp (Hm ha hb I h fun v u s2 x y H2 I2 rx ry q=>ho pins s2 σ H2 x y v u Q I2 rx ry q)
theorem D_ (ho:UnR X (unaryOp op) r)(ha:PE X a ta):PE X (.UnaryOp op a pos) (tUn r ta):=by intro pins s σ H Q I h;exact UnaryOp_ (thn (ha pins s σ H _ I h) fun v s1 ⟨x,H1,I1,r1,q1⟩=>ho pins s1 σ H1 x v Q I1 r1 q1)
theorem opI {f:Value->Value->Sem Value}{C:Int->Int->Prop}{g:Int->Int->Int}
  (rule:∀(i j:Int) (t u:Tok) (s:Shared) (Q:Value->Shared->Prop) (E:Value->Shared->Prop),C i j->Q (.int (g i j) s.toks) { s with toks:=s.toks+1 }->wpAny (model X.prog X.w) X.A (f (.int i t) (.int j u)) Q E s) :
  OpR X f (rI C fun i j=>.int (g i j)):=by
 intro pins s σ H x y v u Q I rx ry h;obtain⟨i,j,rfl,rfl,hc,q⟩:=h;obtain⟨t,rfl⟩:=rx;obtain⟨t',rfl⟩:=ry;exact rule i j t t' s _ _ hc ⟨.int (g i j),H,I.tok _,⟨_,rfl⟩,q⟩
theorem JE {f:Value->Value->Sem Value}{g:Int->Int->Int}
  (rule:∀(i j:Int) (t u:Tok) (s:Shared) (Q:Value->Shared->Prop) (E:Value->Shared->Prop),Q (.int (g i j) s.toks) { s with toks:=s.toks+1 }->wpAny (model X.prog X.w) X.A (f (.int i t) (.int j u)) Q E s) :
  OpR X f (rI0 fun i j=>.int (g i j)):=by
 intro pins s σ H x y v u Q I rx ry h;obtain⟨i,j,rfl,rfl,q⟩:=h;obtain⟨t,rfl⟩:=rx;obtain⟨t',rfl⟩:=ry;exact rule i j t t' s _ _ ⟨.int (g i j),H,I.tok _,⟨_,rfl⟩,q⟩
theorem Gz {f:Value->Value->Sem Value}{g:Int->Int->Bool}
  (rule:∀(i j:Int) (t u:Tok) (s:Shared) (Q:Value->Shared->Prop) (E:Value->Shared->Prop),Q (.bool (g i j)) s->wpAny (model X.prog X.w) X.A (f (.int i t) (.int j u)) Q E s) :
  OpR X f (rI0 fun i j=>.bl (g i j)):=by
 intro pins s σ H x y v u Q I rx ry h;obtain⟨i,j,rfl,rfl,q⟩:=h;obtain⟨t,rfl⟩:=rx;obtain⟨t',rfl⟩:=ry;exact rule i j t t' s _ _ ⟨.bl (g i j),H,I,rfl,q⟩
def A5 (i j:Int):Prop:=0<=j/\j<=1000000/\i.natAbs<2 ^ 64
theorem GR:OpR X (binaryOp .Add) (rI0 fun i j=>.int (i+j)):=JE fun _ _ _ _ _ _ _ q=>add_int q
theorem Gv:OpR X (binaryOp .Sub) (rI0 fun i j=>.int (i-j)):=JE fun _ _ _ _ _ _ _ q=>sub_int q
theorem Hu:OpR X (binaryOp .Mod) (rI (fun _ j=>0<j) fun i j=>.int (i % j)):=opI fun i j _ _ _ _ _ hc q=>by have h1:(0:Int)<j:=hc;exact mod_int' (by omega) (by rw[Int.fmod_eq_emod_of_nonneg i (by omega)];exact q)
theorem GZ:OpR X (binaryOp .Pow) (rI A5 fun i j=>.int (i ^ j.toNat)):=opI fun _ _ _ _ _ _ _ hc q=>pow_int_small hc.1 hc.2.1 hc.2.2 q
theorem unI {f:Value->Sem Value}{g:Int->Int}
  (rule:∀(i:Int) (t:Tok) (s:Shared) (Q:Value->Shared->Prop) (E:Value->Shared->Prop),Q (.int (g i) s.toks) { s with toks:=s.toks+1 }->wpAny (model X.prog X.w) X.A (f (.int i t)) Q E s) :
  UnR X f (rU fun i=>.int (g i)):=by
 intro pins s σ H x v Q I rx h;obtain⟨i,rfl,q⟩:=h;obtain⟨t,rfl⟩:=rx;exact rule i t s _ _ ⟨.int (g i),H,I.tok _,⟨_,rfl⟩,q⟩
theorem BI:UnR X (unaryOp .USub) (rU fun i=>.int (-i)):=unI fun _ _ _ _ _ q=>neg_int q
end
noncomputable def IK:V->V->Bool
 | .non,.non=>true | .non,.int _=>true | .int _,.non=>true | .non,.bl _=>true | .bl _,.non=>true | .non,.str _=>true | .str _,.non=>true
 | .int _,.int _=>true | .bl _,.bl _=>true | .str _,.str _=>true | .byt _,.byt _=>true
 | .int _,.str _=>true | .str _,.int _=>true | .bl _,.str _=>true | .str _,.bl _=>true
 | _,_=>false
noncomputable def rEq:R2:=fun x y H Q=>IK x y=true/\Q (.bl (decide (x=y))) H
noncomputable def rNe:R2:=fun x y H Q=>IK x y=true/\Q (.bl (!decide (x=y))) H
theorem wC:decide (V.int i=V.int j)=(i == j):=by rw[MH];simp
theorem Ci:decide (V.bl i=V.bl j)=(i == j):=by rw[MH];simp
theorem xB:decide (V.str i=V.str j)=(i == j):=by rw[MH];simp
theorem xh {i j:Array UInt8}:decide (V.byt i=V.byt j)=(i.toList == j.toList):=by rw[MH];cases i;cases j;simp
section
variable {X:Cx}{a b c:Expr}{ta tb tc:TE}{pos:Pos}
theorem aK {σ:St}{Q:VK}{k':Bool}(I:Inv X pins σ H s)(q:Q (.bl k) H)(e:k=k'):EP X pins σ Q (.bool k') s:=by subst e;exact⟨.bl k,H,I,rfl,q⟩
theorem Bq:OpR X (compareOp .Eq) rEq:=by
 intro pins s σ H x y v u Q I rx ry h;obtain⟨hs,q⟩:=h;cases x with
 | non =>
  cases rx;cases y with
  | non=>cases ry;exact PySem.EqNone.eq_none_none (aK I q (by simp))
  | bl j=>cases ry;exact PySem.EqNone.eq_none_bool (aK I q (by simp))
  | int j=>obtain⟨t',rfl⟩:=ry;exact PySem.EqNone.eq_none_int (aK I q (by simp))
  | str j=>obtain⟨t',rfl⟩:=ry;exact PySem.EqNone.eq_none_str (aK I q (by simp))
  | _=>exact absurd (show false=true from hs) KI
 | bl i =>
  cases rx;cases y with
  | non=>cases ry;exact PySem.EqNone.eq_bool_none (aK I q (by simp))
  | bl j=>cases ry;exact eq_bool (aK I q Ci)
  | str j=>obtain⟨t',rfl⟩:=ry;exact PySem.EqMixed.eq_bool_str (aK I q (by simp))
  | _=>exact absurd (show false=true from hs) KI
 | int i =>
  obtain⟨t,rfl⟩:=rx;cases y with
  | non=>cases ry;exact PySem.EqNone.eq_int_none (aK I q (by simp))
  | int j=>obtain⟨t',rfl⟩:=ry;exact eq_int (aK I q wC)
  | str j=>obtain⟨t',rfl⟩:=ry;exact PySem.EqMixed.eq_int_str (aK I q (by simp))
  | _=>exact absurd (show false=true from hs) KI
 | str i =>
  obtain⟨t,rfl⟩:=rx;cases y with
  | non=>cases ry;exact PySem.EqNone.eq_str_none (aK I q (by simp))
  | bl j=>cases ry;exact PySem.EqMixed.eq_str_bool (aK I q (by simp))
  | int j=>obtain⟨t',rfl⟩:=ry;exact PySem.EqMixed.eq_str_int (aK I q (by simp))
  | str j=>obtain⟨t',rfl⟩:=ry;exact eq_str (aK I q xB)
  | _=>exact absurd (show false=true from hs) KI
 | byt i =>
  obtain⟨t,rfl⟩:=rx;cases y with
  | byt j=>obtain⟨t',rfl⟩:=ry;exact W.eq_bytes (aK I q xh)
  | _=>exact absurd (show false=true from hs) KI
 | _=>cases y <;> exact absurd (show false=true from hs) KI
theorem AD:OpR X (compareOp .NotEq) rNe:=by
 intro pins s σ H x y v u Q I rx ry h;obtain⟨hs,q⟩:=h;cases x with
 | non =>
  cases rx;cases y with
  | non=>cases ry;exact PySem.EqNone.ne_none_none (aK I q (by simp))
  | bl j=>cases ry;exact PySem.EqNone.ne_none_bool (aK I q (by simp))
  | int j=>obtain⟨t',rfl⟩:=ry;exact PySem.EqNone.ne_none_int (aK I q (by simp))
  | str j=>obtain⟨t',rfl⟩:=ry;exact PySem.EqNone.ne_none_str (aK I q (by simp))
  | _=>exact absurd (show false=true from hs) KI
 | bl i =>
  cases rx;cases y with
  | non=>cases ry;exact PySem.EqNone.ne_bool_none (aK I q (by simp))
  | bl j=>cases ry;exact ne_bool (aK I q (LP not Ci))
  | str j=>obtain⟨t',rfl⟩:=ry;exact PySem.EqMixed.ne_bool_str (aK I q (by simp))
  | _=>exact absurd (show false=true from hs) KI
 | int i =>
  obtain⟨t,rfl⟩:=rx;cases y with
  | non=>cases ry;exact PySem.EqNone.ne_int_none (aK I q (by simp))
  | int j=>obtain⟨t',rfl⟩:=ry;exact ne_int (aK I q (LP not wC))
  | str j=>obtain⟨t',rfl⟩:=ry;exact PySem.EqMixed.ne_int_str (aK I q (by simp))
  | _=>exact absurd (show false=true from hs) KI
 | str i =>
  obtain⟨t,rfl⟩:=rx;cases y with
  | non=>cases ry;exact PySem.EqNone.ne_str_none (aK I q (by simp))
  | bl j=>cases ry;exact PySem.EqMixed.ne_str_bool (aK I q (by simp))
  | int j=>obtain⟨t',rfl⟩:=ry;exact PySem.EqMixed.ne_str_int (aK I q (by simp))
  | str j=>obtain⟨t',rfl⟩:=ry;exact ne_str (aK I q (LP not xB))
  | _=>exact absurd (show false=true from hs) KI
 | byt i =>
  obtain⟨t,rfl⟩:=rx;cases y with
  | byt j=>obtain⟨t',rfl⟩:=ry;exact W.ne_bytes (aK I q (LP not xh))
  | _=>exact absurd (show false=true from hs) KI
 | _=>cases y <;> exact absurd (show false=true from hs) KI
theorem JF:OpR X (compareOp .Lt) (rI0 fun i j=>.bl (decide (i<j))):=Gz fun _ _ _ _ _ _ _ q=>lt_int q
theorem IY:OpR X (compareOp .Gt) (rI0 fun i j=>.bl (decide (j<i))):=Gz fun _ _ _ _ _ _ _ q=>gt_int q
theorem Il:OpR X (compareOp .GtE) (rI0 fun i j=>.bl (decide (j<=i))):=Gz fun _ _ _ _ _ _ _ q=>ge_int q
theorem xN:OpR X (compareOp .Lt) (fun x y H Q=>∃i j,x=.str i/\y=.str j/\Q (.bl (decide (i.cps.toList<j.cps.toList))) H):=by intro pins s σ H x y v u Q I rx ry h;obtain⟨i,j,rfl,rfl,q⟩:=h;obtain⟨t,rfl⟩:=rx;obtain⟨t',rfl⟩:=ry;exact lt_str (aK I q rfl)
theorem xM:OpR X (compareOp .In) (fun x y H Q=>∃i j,x=.str i/\y=.str j/\Q (.bl (!(Builtin.Str.occurrences j i 0 j.length 1).isEmpty)) H):=by intro pins s σ H x y v u Q I rx ry h;obtain⟨i,j,rfl,rfl,q⟩:=h;obtain⟨t,rfl⟩:=rx;obtain⟨t',rfl⟩:=ry;exact in_str (aK I q rfl)
theorem rO (ho:OpR X (compareOp op) r)(ha:PE X a ta)(hb:PE X b tb)(hm:behindInMarks op b=false):PE X (.Compare a [op] [b] pos) (tOp r ta tb):=by intro pins s σ H Q I h;exact wpAny_Compare1 (Hm ha hb I h fun v u s2 x y H2 I2 rx ry q=>ho pins s2 σ H2 x y v u Q I2 rx ry q) hm
noncomputable def Hv (t:TE):TT:=fun σ H Q=>t σ H fun x H'=>∃k,x=.bl k/\Q k H'
theorem qj (ho:OpR X (compareOp op) r)(ha:PE X a ta)(hb:PE X b tb)(hm:behindInMarks op b=false):PT X (.Compare a [op] [b] pos) (Hv (tOp r ta tb)):=by
 intro pins s σ H Q I h;refine wpAny_isTrue_Compare1 (thn (ha pins s σ H _ I h) fun v s1 ⟨x,H1,I1,r1,q1⟩=>thn (hb pins s1 σ H1 _ I1 q1) fun u s2 ⟨y,H2,I2,r2,q2⟩ =>
  thn (ho pins s2 σ H2 x y v u _ I2 r1 r2 q2) fun c s3 ⟨z,H3,I3,r3,k,e,q3⟩=>?_) hm
 subst e;cases r3;exact wpAny_truthy_bool ⟨H3,I3,q3⟩
def GF (K:W.Frag)(x:V)(H:Hp)(k:Bool):Prop :=
 match x with
 | .non=>k=false
 | .bl b=>k=b
 | .int i=>k=(i != 0)
 | .str y=>y.length<=sizeLine/\k=((y.length:Int) != 0)
 | .byt y=>y.size<=sizeLine/\k=((y.size:Int) != 0)
 | .ref p=>(∃xs,SqL K H p xs/\k=!xs.isEmpty)\/(∃xs,SqT K H p xs/\k=!xs.isEmpty)\/∃kvs,H p=some (.dK kvs)/\k=!kvs.isEmpty
 | _=>False
theorem vc {κ:Type}{kvs:List (κ × V)}{vs:List (κ × Value)}(r:KV kvs vs):(!vs.isEmpty)=!kvs.isEmpty:=by cases r <;> rfl
theorem nI (r:Vals xs its):(!its.toArray.isEmpty)=!xs.isEmpty:=by cases r <;> simp
theorem iR:(sizeLine:Nat)<2 ^ 63:=by rw[sizeLine_eq];decide
theorem GC:Kk X (fun x H Q=>∃k,GF X.K x H k/\Q k H):=by
 intro pins s σ H x v Q I rx h;obtain⟨k,e,q⟩:=h;have hl:=iR;have hs:sizeLine=16777216:=sizeLine_eq;cases x with
 | non =>cases rx;have e':k=false:=e;subst e';exact truthy_none ⟨H,I,q⟩
 | bl b =>cases rx;have e':k=b:=e;subst e';exact wpAny_truthy_bool ⟨H,I,q⟩
 | int i =>obtain⟨t,rfl⟩:=rx;have e':k=(i != 0):=e;subst e';exact PySem.P.truthy_int ⟨H,I,q⟩
 | str y =>obtain⟨t,rfl⟩:=rx;obtain⟨hy,e'⟩:y.length<=sizeLine/\k=((y.length:Int) != 0):=e;subst e';exact PySem.P.truthy_str (by omega) ⟨H,I.tok _,q⟩
 | byt y =>obtain⟨t,rfl⟩:=rx;obtain⟨hy,e'⟩:y.size<=sizeLine/\k=((y.size:Int) != 0):=e;subst e';exact W.truthy_bytes (by omega) ⟨H,I.tok _,q⟩
 | ref p =>
  cases rx;have e':(∃xs,SqL X.K H p xs/\k=!xs.isEmpty)\/(∃xs,SqT X.K H p xs/\k=!xs.isEmpty)\/∃kvs,H p=some (.dK kvs)/\k=!kvs.isEmpty:=e;rcases e' with⟨xs,hx,e'⟩|⟨xs,hx,e'⟩|⟨kvs,hx,e'⟩
  ·subst e';obtain⟨its,r,pl,hz⟩:=I.list hx;have hlen:=r.length;exact wpAny_truthy_list pl.isList (by simp only[List.size_toArray];omega) ⟨H,I.tok _,by rw[nI r];exact q⟩
  ·subst e';obtain⟨its,r,pl,hz⟩:=I.tuple hx;have hlen:=r.length;exact truthy_tuple pl (by simp only[List.size_toArray];omega) ⟨H,I.tok _,by rw[nI r];exact q⟩
  ·subst e';obtain⟨hz,hS,vs,r,m⟩:kvs.length<=sizeLine/\(p == sysModules)=false/\∃vs,KV kvs vs/\s.heap.DictOf (aF X.prog X.w) p vs:=I.hok p _ hx;have hlen:kvs.length=vs.length:=Paired.length r;exact wpAny_truthy_dict hS m (by omega) ⟨H,I.tok _,by rw[vc r];exact q⟩
 | _=>exact(show False from e).elim
theorem fB (ha:PE X a ta)(he:∀whole,isTrue a X.env whole=(do let v <-whole;standAt a.pos;holding [v] (truthy v))) :
  PT X a (fun σ H Q=>ta σ H fun x H'=>∃k,GF X.K x H' k/\Q k H'):=by
 intro pins s σ H Q I h;exact isTrue_plain (thn (ha pins s σ H _ I h) fun v s1 ⟨x,H1,I1,r1,q1⟩=>GC pins s1 σ H1 x v Q I1 r1 q1) (he _)
theorem vP:OpR X (binaryOp .Add) (fun x y H Q=>∃i j,x=.str i/\y=.str j/\i.length+j.length<=sizeLine/\Q (.str (i++j)) H):=by intro pins s σ H x y v u Q I rx ry h;obtain⟨i,j,rfl,rfl,hz,q⟩:=h;obtain⟨t,rfl⟩:=rx;obtain⟨t',rfl⟩:=ry;exact add_str (fun t' tk=>⟨.str (i++j),H,I.tok _,⟨_,rfl⟩,q⟩) hz
theorem cR {x:V}(r:Vals [x] us):∃u,us=[u]/\RelV x u:=by
 cases r with
 | cons r1 r2=>cases r2;exact⟨_,rfl,r1⟩
theorem ug {x:V}(r:Vals [x,y] us):∃u w',us=[u,w']/\RelV x u/\RelV y w':=by
 cases r with
 | cons r1 r2 =>
  cases r2 with
  | cons r3 r4=>cases r4;exact⟨_,_,rfl,r1,r3⟩
theorem yo (hc:X.calm=true):dj X (.builtin "max") (fun xs H Q=>∃i j,xs=[.int i,.int j]/\Q (.int (if j > i then j else i)) H):=by
 intro pins s σ H xs us Q I r h;obtain⟨i,j,rfl,q⟩:=h;obtain⟨u,w',rfl,⟨t,rfl⟩,⟨t',rfl⟩⟩:=ug r;refine max_two_ints (I.ok.hd hc) fun h' tk k=>⟨_,H,I.kept k,?_,q⟩;by_cases hj:j > i
 ·rw[K1 hj,K1 hj];exact⟨_,rfl⟩
 ·rw[KW hj,KW hj];exact⟨_,rfl⟩
theorem xR (hc:X.calm=true):dj X (.builtin "min") (fun xs H Q=>∃i j,xs=[.int i,.int j]/\Q (.int (if j<i then j else i)) H):=by
 intro pins s σ H xs us Q I r h;obtain⟨i,j,rfl,q⟩:=h;obtain⟨u,w',rfl,⟨t,rfl⟩,⟨t',rfl⟩⟩:=ug r;refine min_two_ints (I.ok.hd hc) fun h' tk k=>⟨_,H,I.kept k,?_,q⟩;by_cases hj:j<i
 ·rw[K1 hj,K1 hj];exact⟨_,rfl⟩
 ·rw[KW hj,KW hj];exact⟨_,rfl⟩
theorem yR:dj X (.type "int") (fun xs H Q=>(∃i,xs=[.int i]/\Q (.int i) H)\/∃k,xs=[.bl k]/\Q (.int (if k then 1 else 0)) H):=by
 intro pins s σ H xs us Q I r h;rcases h with⟨i,rfl,q⟩|⟨k,rfl,q⟩
 ·obtain⟨u,rfl,t,rfl⟩:=cR r;exact call_int_int ⟨.int i,H,I,⟨_,rfl⟩,q⟩
 ·obtain⟨u,rfl,r1⟩:=cR r;cases r1;exact call_int_bool ⟨.int (if k then 1 else 0),H,I.tok _,⟨_,rfl⟩,q⟩
end
end L2
namespace L2
structure ObjM (h:Heap)(x dx C:Addr)(mA:Str->Option Value):Prop where
 obj:h.get? x=some (W.instObj C dx)
 ns:h.Ns1 dx mA
 ne:dx≠x
theorem xO {h:Heap}(n:h.Ns1 dx mA):∃od,h.get? dx=some od/\∀name,W.lookIn name od=some (mA name):=by
 obtain⟨o,es,ep,ho,hd,hk,_,hm⟩:=n;refine⟨o,ho,fun name=>?_⟩;have e:=hm name;unfold nsFind findBy at e;rw[<-Array.find?_toList] at e;unfold W.lookIn;rw[hd];dsimp only;split
 ·rename_i y q;rw[q] at e;exact LP some e
 ·rename_i q;rw[q] at e;have a:es.toList.any (·.refKey)=false:=by rw[List.any_eq_false];intro y hy;obtain⟨z,t,hkey⟩:=hk y (Array.mem_toList_iff.mp hy);simp[DictEntry.refKey,hkey]
  have a':¬es.toList.any (·.refKey)=true:=by rw[a];exact KI
  rw[KW a'];exact LP some e
theorem ObjM.look (I:ObjM h x dx C mA):∃od,W.InstAt h x (W.instObj C dx) C (some od)/\∀name,W.lookIn name od=some (mA name) :=
 let ⟨od,ho,hl⟩:=xO I.ns
 ⟨od,⟨I.obj,rfl,rfl,ho⟩,hl⟩
section
variable {prog:Program}{w:World}{A:Around}{E:Value->Shared->Prop}{s:Shared}{K:W.Frag}{x dx C f:Addr}{mA:Str->Option Value}{name:Str}{v:Value}
end
theorem RelO.some_of (r:RelO (some v) o):∃u,o=some u/\RelV v u:=by
 cases o with
 | none=>exact(show False from r).elim
 | some u=>exact⟨u,rfl,r⟩
section
variable {P:Program}{w:World}{H H':Hp}{h h':Heap}{a C dx:Addr}{fs fs':List (Str × V)}
theorem DR (hok:HOk P w H h)(e:H a=some (.ins C dx fs)):∃mA,ObjM h a dx C mA/\(∀f,RelO (fs.lookup f) (mA f))/\PySem.Within mA (fs.map (·.1))/\fs.length<=1000/\H dx=some (.own a):=by obtain⟨d,z,ne,ob,mA,n,r,q⟩:=(show ObjOk P w H h a (.ins C dx fs) from hok a _ e);exact⟨mA,⟨ob,n,ne⟩,r,q,z,d⟩
end
structure Cls (K:W.Frag)(C:Addr):Prop where
 pg:W.plainGet K C Str.empty=true
 hd:W.hasDictIn K C=true
 po:W.plainOver K C=true
 sa:W.findIn K (.ref C) "__setattr__"=some (some (.builtin "object.__setattr__"))
theorem Cls.get (c:Cls K C)(f:Str):W.plainGet K C f=true:=c.pg
structure Con (K:W.Frag)(C:Addr)(f:Str)(v:V)(u:Value):Prop where
 at_:W.findIn K (.ref C) f=some (some u)
 rel:RelV v u
 get:W.specialIn K u "__get__"=some none
 cp:W.copiedNames.contains f=false
structure KC (K:W.Frag)(C:Addr)(m:Str)(f:Addr):Prop where
 at_:W.findIn K (.ref C) m=some (some (.ref f))
 fn:W.isFn K (.ref f)=true
 kp:W.keepIn K (.ref f)=true
section
variable {X:Cx}{pins:List (Addr × Obj)}{σ:St}{H:Hp}{s:Shared}{a C dx:Addr}{fs:List (Str × V)}{f:Str}{v:V}{A:Around}{E:Value->Shared->Prop}
end
section
variable {X:Cx}{o e value:Expr}{f:Str}{pos pos' tpos:Pos}{ta tv:TE}
end
section
variable {X:Cx}{pins:List (Addr × Obj)}{σ:St}{H:Hp}{s:Shared}{A:Around}{E:Value->Shared->Prop}{Q:Value->Shared->Prop}{c:Value}{b:Bool}
inductive lQ (K:W.Frag)(H:Hp):V->Value->Prop where
 | non:lQ K H .non (.type "NoneType")
 | bl (x:Bool):lQ K H (.bl x) (.type "bool")
 | int (i:Int):lQ K H (.int i) (.type "int")
 | str (x:Str):lQ K H (.str x) (.type "str")
 | flt (x:UInt64):lQ K H (.flt x) (.type "float")
 | lst {a:Addr} {xs:List V} (e:H a=some (.lst xs)):lQ K H (.ref a) (.type "list")
 | frz {a:Addr} {o:Obj} {xs:List V} (e:H a=some (.frz o (.lst xs))):lQ K H (.ref a) (.type "list")
 | tup {a:Addr} {xs:List V} (e:H a=some (.tup xs)):lQ K H (.ref a) (.type "tuple")
 | dK {a:Addr} {kvs:List (Key × V)} (e:H a=some (.dK kvs)):lQ K H (.ref a) (.type "dict")
 | dT {a:Addr} {kvs:List (List Key × V)} (e:H a=some (.dT kvs)):lQ K H (.ref a) (.type "dict")
 | ins {a C dx:Addr} {fs:List (Str × V)} (e:H a=some (.ins C dx fs)) (cl:Cls K C) (ha:W.findIn K (.ref C) "__class__"=some (some (.builtin "object.__class__")))
   (hn:W.specialIn K (.builtin "object.__class__") "__get__"=some (some (.builtin "getset_descriptor.__get__"))) (htk:W.takesIn K (.builtin "object.__class__")=some true)
   (hm:W.mroIn K C (.type "object")=some true):lQ K H (.ref a) (.ref C)
theorem dX (I:Inv X pins σ H s)(rx:RelV x u)(ty:lQ X.K H x t)(e:W.kitOne X.K t c=some b)(h:∀tk,Q (.bool b) { s with toks:=tk }) :
  wpAny (model X.prog X.w) A (call (.builtin "isinstance") [u,c]) Q E s:=by
 cases ty with
 | non=>cases (show u=Value.none from rx);exact MN W.kitx_none I.kIn True.intro e (fun z=>nomatch z) h
 | bl y=>cases (show u=Value.bool y from rx);exact MN W.kitx_bool I.kIn True.intro e (fun z=>nomatch z) h
 | int i=>obtain⟨t,q⟩:=(show ∃t,u=Value.int i t from rx);cases q;exact MN W.kitx_int I.kIn True.intro e (fun z=>nomatch z) h
 | str y=>obtain⟨t,q⟩:=(show ∃t,u=Value.str y t from rx);cases q;exact MN W.kitx_str I.kIn True.intro e (fun z=>nomatch z) h
 | flt y=>obtain⟨t,q⟩:=(show ∃t,u=Value.float y t from rx);cases q;exact MN W.kitx_float I.kIn True.intro e (fun z=>nomatch z) h
 | @lst a xs ea =>cases (show u=Value.ref a from rx);obtain⟨_,_,n,_,h1⟩:=(show ObjOk X.prog X.w H s.heap a (.lst xs) from I.hok a _ ea);exact MN OV I.kIn ⟨_,h1,rfl⟩ e (fun z=>nomatch z) h
 | @frz a ob xs ea =>cases (show u=Value.ref a from rx);obtain⟨_,_,_,n,_,h1⟩:=(show ObjOk X.prog X.w H s.heap a (.frz ob (.lst xs)) from I.hok a _ ea);exact MN OV I.kIn ⟨_,h1,rfl⟩ e (fun z=>nomatch z) h
 | @tup a xs ea =>cases (show u=Value.ref a from rx);obtain⟨_,_,_,p⟩:=(show ObjOk X.prog X.w H s.heap a (.tup xs) from I.hok a _ ea);obtain⟨o,h1,h2,_⟩:=p;exact MN W.kitx_tuple I.kIn ⟨o,h1,h2⟩ e (fun z=>nomatch z) h
 | @dK a kvs ea =>cases (show u=Value.ref a from rx);obtain⟨_,_,vs,_,p⟩:=(show ObjOk X.prog X.w H s.heap a (.dK kvs) from I.hok a _ ea);obtain⟨o,es,ep,h1,h2,_⟩:=p;exact MN OJ I.kIn ⟨o,h1,h2.1⟩ e (fun z=>nomatch z) h
 | @dT a kvs ea =>cases (show u=Value.ref a from rx);obtain⟨_,_,xs,_,o,es,ep,h1,h2,_⟩:=(show ObjOk X.prog X.w H s.heap a (.dT kvs) from I.hok a _ ea);exact MN OJ I.kIn ⟨o,h1,h2.1⟩ e (fun z=>nomatch z) h
 | @ins a C dx fs ea cl ha hn htk hm =>cases (show u=Value.ref a from rx);obtain⟨mA,O,_⟩:=DR I.hok ea;obtain⟨od,J,_⟩:=O.look;exact MN (W.kitx_own (cl.get _) cl.hd ha hn htk hm) I.kIn J e (fun z=>nomatch z) h
end
end L2
namespace L2
structure Room (k:Nat)(A:Around):Prop where
 hd:A.handled=none
 dp:A.depth+3*k+5<recursionLimit
 un:A.units+16*k+200<cLine
 gd:A.guards=some []
theorem Room.mono {j:Nat}(r:Room k A)(h:j<=k):Room j A:=⟨r.hd,by have:=r.dp;omega,by have:=r.un;omega,r.gd⟩
theorem Room.deeper {k:Nat}(r:Room (k+1) A)(env:Env):Room k (A.deeper env) :=
 ⟨r.hd,by have:=r.dp;show A.depth+1+3*k+5<_;omega,by have:=r.un;show A.units+3+16*k+200<_;omega,r.gd⟩
theorem Room.depth (r:Room k A):A.depth<recursionLimit:=by have:=r.dp;omega
theorem Room.units (r:Room k A):A.units+64<cLine:=by have:=r.un;omega
noncomputable def tU:TA:=fun _ H Q=>Q [] H
noncomputable def lg (ta:TE)(tr:TA):TA:=fun σ H Q=>ta σ H fun x H1=>tr σ H1 fun xs H2=>Q (x::xs) H2
section
variable {X:Cx}{e:Expr}{es:List Expr}{te:TE}{t:TA}{pos:Pos}
theorem eI:PA X [] tU:=fun _ _ _ _ H Q I h=>Calls.spliced_nil ⟨[],H,I,.nil,h⟩
theorem Dj (ha:PE X e te)(hr:PA X es t)(hs:starEach (e::es) X.env=(false,eval e X.env)::starEach es X.env:=by rfl):PA X (e::es) (lg te t):=by intro pos pins s σ H Q I h;rw[hs];show wpAny _ _ (spliced ((false,eval e X.env)::backTo pos (starEach es X.env))) _ _ s;refine Calls.spliced_cons (thn (ha pins s σ H _ I h) fun u s1 ⟨x,H1,I1,r1,q1⟩=>?_);exact thn (hr pos pins s1 σ H1 _ I1 q1) fun us s2 ⟨xs,H2,I2,r2,q2⟩=>⟨x::xs,H2,I2,.cons r1 r2,q2⟩
noncomputable def Kn (t:TA):TE:=fun σ H Q=>t σ H fun xs H1=>xs.length<=sizeLine/\∀p,H1 p=none->Q (.ref p) (upd H1 p (.tup xs))
noncomputable def IG (t:TA):TE:=fun σ H Q=>t σ H fun xs H1=>xs.length<=sizeLine/\∀p,H1 p=none->Q (.ref p) (upd H1 p (.lst xs))
theorem Gb {x1}(h:PA X es t):PE X (.Tuple es x1 pos) (Kn t):=by intro pins s σ H Q I hq;refine wpAny_Tuple_spliced (thn (h pos pins s σ H _ I hq) fun us s1 ⟨xs,H1,I1,r,z,q⟩=>⟨by rw[<-r.length];exact z,?_⟩);have hf:H1 s1.heap.objs.size=none:=I1.hok.fresh (KJ _);refine⟨.ref s1.heap.objs.size,upd H1 s1.heap.objs.size (.tup xs),I1.laid (t':=s1.toks) (fun b u e=>KH _ e) (KJ _) ?_,rfl,q _ hf⟩;exact⟨z,us,r,⟨_,KL _ rfl,rfl,_,rfl⟩⟩
theorem u9 (h:PA X es t):PE X (.List es pos) (IG t):=by intro pins s σ H Q I hq;refine wpAny_List_spliced (thn (h pos pins s σ H _ I hq) fun us s1 ⟨xs,H1,I1,r,z,q⟩=>⟨by rw[<-r.length];exact z,?_⟩);have hf:H1 s1.heap.objs.size=none:=I1.hok.fresh (KJ _);refine⟨.ref s1.heap.objs.size,upd H1 s1.heap.objs.size (.lst xs),I1.laid (t':=s1.toks) (fun b u e=>KH _ e) (KJ _) ?_,rfl,q _ hf⟩;exact⟨z,us,0,r,KL _ rfl⟩
end
noncomputable abbrev Sp:=List V->Hp->VK->XK->Prop
noncomputable abbrev CXT:=List Env->Hp->Shared->XK->Value->Shared->Prop
structure yG (P:Program)(w:World)(K:W.Frag)(mg:Str->Option Value)(base:Heap)(A:Around)(outer:List Env)(s:Shared)(H:Hp):Prop where
 frames:A.frames=some outer
 mod:Mod K mg base
 bs:∀b o,base.get? b=some o->s.heap.get? b=some o/\H b=none
 bsz:base.objs.size<=s.heap.objs.size
 funs:s.heap.FunFrames base outer
 frf:∀b∈frs outer,H b=none
 hok:HOk P w H s.heap
 bare:AllBare s.gens
def CE (outer:List Env)(P:Program)(w:World)(H:Hp)(s:Shared)(Q:VK)(u:Value)(s':Shared):Prop :=
 ∃v H',s'.os=s.os/\AllBare s'.gens/\Un (frs outer) [] H H' s.heap s'.heap/\HOk P w H' s'.heap/\RelV v u/\Q v H'
def CR (CX:CXT)(outer:List Env)(P:Program)(w:World)(H:Hp)(s:Shared)(Q:VK)(E:XK)(r:Result)(s':Shared):Prop :=
 match r with
 | .ok (.ret u)=>CE outer P w H s Q u s'
 | .ok _=>False
 | .error e=>CX outer H s E e s'
structure oo (P:Program)(w:World)(K:W.Frag)(mg:Str->Option Value)(base:Heap)(CX:CXT)(k:Nat)(f:Addr)(fd:FuncData)(ps:List Str)(sp:Sp):Prop where
 len:∀vs H Q E,sp vs H Q E->vs.length=ps.length
 run:∀(A:Around) (outer:List Env) (s:Shared) (H:Hp) (args:Args) (us:List Value) (vs:List V) (Q:VK) (E:XK),Room k A->yG P w K mg base A outer s H->BindsTo s fd args (ps.zip us)->Vals vs us->sp vs H Q E ->
  codeAny (model P w) A (.call (.ref f) args) (CR CX outer P w H s Q E) s
section
variable {X:Cx}{pins:List (Addr × Obj)}{σ:St}{H:Hp}{s s':Shared}
theorem Inv.env0 (I:Inv X pins σ H s):yG X.prog X.w X.K X.mg X.base X.A X.stack s H :=
 ⟨I.ok.frames,I.ok.mod,I.bs,K_ I.ok.bsz I.sz,I.stack,I.stkFree,I.hok,I.bare⟩
theorem Inv.after (I:Inv X pins σ H s)(h:CE X.stack X.prog X.w H s Q u s'):EP X pins σ Q u s':=by obtain⟨v,H',os,bare,un,hok,r,q⟩:=h;obtain⟨hh,g,d,t,os'⟩:=s';obtain rfl:os'=s.os:=os;exact⟨v,H',I.call (h':=hh) (g':=g) (d':=d) (t':=t) (ch:=[]) un hok bare (fun b z=>absurd z (by simp)),r,q⟩
end
noncomputable def pP (sp:Sp)(dvs:List V)(E:XK)(t:TA):TE:=fun σ H Q=>t σ H fun vs H1=>sp (vs++dvs) H1 Q E
def Binds (K:W.Frag)(fd:FuncData)(ps:List Str)(ds:List Value):Prop :=
 ∀(s:Shared) (us:List Value),K.In s.heap->(us++ds).length=ps.length->BindsTo s fd ⟨us,[]⟩ (ps.zip (us++ds))
theorem Binds.all {ps:List Str}(h:∀us:List Value,us.length=ps.length->bindArgs fd ⟨us,[]⟩=pure (ps.zip us)):Binds K fd ps []:=fun s us _ hl=>by
 rw[M8] at hl |-
 exact .of_eq (h us hl)
def rC (CX:CXT)(X:Cx)(E:XK):Prop:=∀(pins:List (Addr × Obj)) (σ:St) (H:Hp) (s:Shared) (e:Value) (s':Shared),Inv X pins σ H s->CX X.stack H s E e s'->X.xe e s'
section
variable {X:Cx}{CX:CXT}{k:Nat}{f C:Addr}{fd:FuncData}{ps:List Str}{sp:Sp}{dvs:List V}{ds:List Value}{E:XK}{x m:Str}{p pos apos:Pos}{e o:Expr}{es:List Expr}{ta:TE}{t:TA}
theorem zX {σ:St}(F:oo X.prog X.w X.K X.mg X.base CX k f fd ps sp)(hr:Room k X.A)(hb:Binds X.K fd ps ds)(hd:Vals dvs ds)(hx:rC CX X E)(I:Inv X pins σ H s)(r:Vals vs us)(h:sp (vs++dvs) H Q E):wpAny (model X.prog X.w) X.A (call (.ref f) us) (EP X pins σ Q) X.xe s:=by
 have r2:Vals (vs++dvs) (us++ds):=r.append hd;have hl:(us++ds).length=ps.length:=by rw[<-r2.length];exact F.len _ _ _ _ h
 refine wpAny_call (codeAny_mono (F.run X.A X.stack s H ⟨us,[]⟩ (us++ds) (vs++dvs) Q E hr I.env0 (hb s us I.kIn hl) r2 h) fun r s' hq=>?_);cases r with
 | error e=>exact hx pins σ H s e s' I hq
 | ok fl =>
  cases fl with
  | ret u=>exact I.after hq
  | next=>exact False.elim hq
  | brk=>exact False.elim hq
  | cont=>exact False.elim hq
theorem CO (F:oo X.prog X.w X.K X.mg X.base CX k f fd ps sp)(hr:Room k X.A)(hg:Gl X x)(hm:X.mg x=some (.ref f))(hk:W.keepIn X.K (.ref f)=true)(hb:Binds X.K fd ps ds)(hd:Vals dvs ds)(hx:rC CX X E)
  (ha:PA X (e::es) t) (hdb:(x == ("__debug__":Str))=false:=by decide) (he:starEach (e::es) X.env=(false,eval e X.env)::starEach es X.env:=by rfl) (hpl:(backTo pos (starEach es X.env)).any (·.1)=false:=by rfl) :
  PE X (.Call (.Name x p) (e::es) [] pos) (pP sp dvs E t):=by
 intro pins s σ H Q I h;refine wpAny_Call_Name_kw (qI I hg hm ?_ hdb);refine W.callWith_K (h₀:=X.base) I.ok.mod.kin hk (thn (ha pos pins s σ H _ I h) fun us s1 ⟨vs,H1,I1,r,q⟩=>⟨I1.kIn,?_⟩) he hpl;exact zX F hr hb hd hx I1 r q
theorem CC (F:oo X.prog X.w X.K X.mg X.base CX k f fd ps sp)(hr:Room k X.A)(hg:Gl X x)(hm:X.mg x=some (.ref f))(hk:W.keepIn X.K (.ref f)=true)(hb:Binds X.K fd ps ds)(hd:Vals dvs ds)(hx:rC CX X E)
  (hdb:(x == ("__debug__":Str))=false:=by decide):PE X (.Call (.Name x p) [] [] pos) (pP sp dvs E tU):=by
 intro pins s σ H Q I h;refine wpAny_Call_Name_kw (qI I hg hm ?_ hdb);exact W.callWith_K0 I.kIn hk (zX (us:=[]) F hr hb hd hx I .nil h)
structure Mk (K:W.Frag)(C f:Addr):Prop where
 makes:W.makesIn K C=true
 init:W.findIn K (.ref C) "__init__"=some (some (.ref f))
 fn:W.isFn K (.ref f)=true
 kp:W.keepIn K (.ref C)=true
end
section
variable {X:Cx}{CX:CXT}{k:Nat}{f C:Addr}{fd:FuncData}{ps ks:List Str}{sp:Sp}{E:XK}{x m:Str}{p pos apos kpos:Pos}{e o:Expr}{es:List Expr}{kws:List Keyword}{te ta:TE}{t tk:TA}{nm:Option Str}
structure J0 (K:W.Frag)(fd:FuncData)(ps ks:List Str)(g:List Value->List Value->List Value)(gV:List V->List V->List V):Prop where
 to:∀(s:Shared) (us ws:List Value),K.In s.heap->(g us ws).length=ps.length->BindsTo s fd ⟨us,ks.zip ws⟩ (ps.zip (g us ws))
 rel:∀ {vs:List V}{us:List Value}{zs:List V}{ws:List Value},Vals vs us->Vals zs ws->Vals (gV vs zs) (g us ws)
variable {g:List Value->List Value->List Value}{gV:List V->List V->List V}
end
structure aq (N P:List Str)(sc:Scope):Prop where
 kind:sc.kind=.function
 co:sc.isCoroutine=false
 gen:sc.isGenerator=false
 nd:N.Nodup
 pre:N.take P.length=P
 par:∀x∈P,sc.names.lookup x=some .local\/sc.names.lookup x=some .cell
 nofree:∀y∈sc.names,y.2≠.free
theorem o4 {kindOf:Str->Option NameKind}{x:Str}:∀ {binds:List (Str × Value)}{m:Str->Option Value},(∀v,(x,v) ∉ binds)->bindL kindOf binds m x=m x
 | [],_,_=>rfl
 | (n,v)::r,m,h=>by
  unfold bindL;rw[o4 fun w hw=>h w (KN _ hw)];split
  ·have:x≠n:=by rintro rfl;exact h v KP
   simp[this]
  ·rfl
theorem o6 {kindOf:Str->Option NameKind}{x:Str}:∀ {binds:List (Str × Value)}{m:Str->Option Value},(∀v,(x,v) ∉ binds)->bindC kindOf binds m x=m x
 | [],_,_=>rfl
 | (n,v)::r,m,h=>by
  unfold bindC;rw[o6 fun w hw=>h w (KN _ hw)];split
  ·rfl
  ·have:x≠n:=by rintro rfl;exact h v KP
   simp[this]
theorem oV {kindOf:Str->Option NameKind}:∀ {P:List Str}{vs:List Value}{i:Nat}{m:Str->Option Value},P.Nodup->P[i]?=some x->vs[i]?=some v->kindOf x=some .local ->
  bindL kindOf (P.zip vs) m x=some v
 | [],_,_,_,_,h,_,_=>by simp at h
 | _::_,[],_,_,_,_,h,_=>by simp at h
 | p::P,w::vs,0,m,nd,h1,h2,hk=>by simp at h1 h2;subst h1;subst h2;show bindL kindOf ((p,w)::P.zip vs) m p=_;unfold bindL;rw[o4 fun v hv=>(KY.mp nd).1 (OC hv).1,K1 hk];simp
 | p::P,w::vs,i+1,m,nd,h1,h2,hk=>by show bindL kindOf ((p,w)::P.zip vs) m x=_;unfold bindL;exact oV (i:=i) (KY.mp nd).2 (by simpa using h1) (by simpa using h2) hk
theorem pY {kindOf:Str->Option NameKind}:∀ {P:List Str}{vs:List Value}{i:Nat}{m:Str->Option Value},P.Nodup->P[i]?=some x->vs[i]?=some v->kindOf x≠some .local ->
  bindC kindOf (P.zip vs) m x=some v
 | [],_,_,_,_,h,_,_=>by simp at h
 | _::_,[],_,_,_,_,h,_=>by simp at h
 | p::P,w::vs,0,m,nd,h1,h2,hk=>by simp at h1 h2;subst h1;subst h2;show bindC kindOf ((p,w)::P.zip vs) m p=_;unfold bindC;rw[o6 fun v hv=>(KY.mp nd).1 (OC hv).1,KW hk];simp
 | p::P,w::vs,i+1,m,nd,h1,h2,hk=>by show bindC kindOf ((p,w)::P.zip vs) m x=_;unfold bindC;exact pY (i:=i) (KY.mp nd).2 (by simpa using h1) (by simpa using h2) hk
noncomputable def start (N:List Str)(vs:List V):St:=vs.map some++List.replicate (N.length-vs.length) none
noncomputable def jZ (CX:CXT)(P:Program)(w:World)(K:W.Frag)(mg:Str->Option Value)(base:Heap)(N:List Str)(qual:Str)(scope:Scope)(f:Addr)(cd:Value)(A:Around)(outer:List Env)(s:Shared)(H:Hp)(E:XK):Cx where
 prog:=P
 w:=w
 K:=K
 mg:=mg
 base:=base
 A:=A.deeper (envOfC qual scope s.heap.objs.size f cd)
 N:=N
 s₀:=s
 H₀:=H
 env:=envOfC qual scope s.heap.objs.size f cd
 outer:=outer
 stack:=envOfC qual scope s.heap.objs.size f cd::outer
 ex:=[]
 calm:=true
 fn:=fun _=>true
 pn:=[]
 xe:=fun e s'=>wpAny (model P w) (A.deeper (envOfC qual scope s.heap.objs.size f cd)) (leaving (envOfC qual scope s.heap.objs.size f cd) e) (fun _ s''=>CX outer H s E e s'') (fun e' s''=>CX outer H s E e' s'') s'
theorem sN {sc:Scope}(h:sc.names.lookup x=some .cell):∃c,(cellsFrom n sc.names []).lookup x=some c:=by have q:=W.cellsFrom_some sc.names n [] (.inl h);exact Option.isSome_iff_exists.mp q
theorem yK {A:Around}{E:XK}{vs:List V}(S:aq N ps scope)(hd:A.handled=none)(e0:yG P w K mg base A outer s H)(hl:vs.length=ps.length)(r:Vals vs us)(x:InCallC s s.heap.objs.size (bindL (envOfC qual scope s.heap.objs.size f cd).kindOf (ps.zip us) fun _=>none) (cellsFrom (s.heap.objs.size+1) scope.names []) (bindC (envOfC qual scope s.heap.objs.size f cd).kindOf (ps.zip us) fun _=>none) s1) :
  Inv (jZ CX P w K mg base N qual scope f cd A outer s H E) [] (start N vs) H s1:=by
 have hpl:ps.length<=N.length:=by have:=LP List.length S.pre;rw[MI] at this;omega
 obtain⟨h1,tk,rfl,hk⟩:=x.done;have noA:∀b:Addr,b ∉ (jZ CX P w K mg base N qual scope f cd A outer s H E).ex:=fun b z=>absurd (show b∈([]:List Addr) from z) (by simp);refine⟨⟨e0.mod,S.kind,rfl,rfl,KJ _,fun y z c h1 h2=>?_,fun y hy=>?_,fun y c _ h=>?_,fun _=>hd,Around.frames_deeper e0.frames,.inr ⟨rfl,rfl⟩,fun b z=>absurd z (noA b),e0.bs,e0.bsz,fun b _ _=>noA b,fun b z=>absurd z (noA b),e0.funs,e0.frf⟩,
  rfl,e0.bare,Un.kept hk,⟨_,x.toInCall.ns,fun i y v h1 h2 h3=>?_⟩,fun y c h=>⟨_,x.cell y c h⟩,e0.hok.fresh (KJ _),fun y c h=>?_,fun p hp=>absurd (show p∈([]:List (Addr × Obj)) from hp) (by simp),e0.hok.kept hk,?_⟩
 ·exact name_of_addr x.apart (MG h1) (MG h2)
 ·have hy:scope.names.lookup y=some .cell\/scope.names.lookup y=some .free:=hy;rcases hy with hy|hy
  ·exact sN hy
  ·exact absurd rfl (S.nofree _ (MG hy))
 ·exact L0 (x.above y c (MG h))
 ·have hi:i<vs.length:=by
   unfold start at h2;by_cases hi:i<vs.length
   ·exact hi
   ·rw[LH (by simpa using hi)] at h2;rw[List.getElem?_replicate] at h2;split at h2 <;> cases h2
  have ha:vs[i]?=some v:=by
   unfold start at h2;rw[K9 (by simpa using hi),K2] at h2;cases e:vs[i]? with
   | none=>rw[e] at h2;cases h2
   | some a=>rw[e] at h2;cases h2;rfl
  obtain⟨u,hu,rv⟩:=r.get ha;have hp:ps[i]?=some y:=by rw[<-S.pre,MZ (by omega)];exact h1
  have ndP:ps.Nodup:=by rw[<-S.pre];exact S.nd.sublist (List.take_sublist _ _)
  refine⟨u,rv,?_⟩;rcases S.par y (K5 hp) with k|k
  ·exact .inl ⟨k,oV ndP hp hu k⟩
  ·obtain⟨c,e⟩:=sN (n:=s.heap.objs.size+1) k;refine .inr ⟨.inl k,c,e,?_⟩;have q:=x.cell y c e;rw[pY ndP hp hu (by show scope.names.lookup y≠_;rw[k];decide)] at q;exact q
 ·exact e0.hok.fresh (L0 (x.above y c (MG h)))
 ·unfold start;show _=N.length;rw[LJ,LA,List.length_replicate];omega
theorem Jq {K:W.Frag}{name qual:Str}{params:Arguments}{body:List Stmt}{scope:Scope}{dV kV doc pm cdv ct:Value}{an:Option Addr}(lk:K.lookup f=some ⟨oc,od,.func (W.fnOf name qual params body scope dV kV doc pm an cdv ct),osl⟩)(hcd:W.codeIn K cdv qual=true)(S:aq N ps scope)(len:∀vs H Q E,sp vs H Q E->vs.length=ps.length)(hbody:∀(A:Around) (outer:List Env) (s:Shared) (H:Hp) (vs:List V) (Q:VK) (E:XK),Room k (A.deeper (envOfC qual scope s.heap.objs.size f cdv))->sp vs H Q E ->
   ∃t,PSs (jZ CX P w K mg base N qual scope f cdv A outer s H E) body t/\t { nx:=fun _ H'=>Q .non H',rt:=Q } (start N vs) H) :
  oo P w K mg base CX (k+1) f (W.fnOf name qual params body scope dV kV doc pm an cdv ct) ps sp:=by
 refine⟨len,fun A outer s H args us vs Q E hr e0 hb r hsp=>?_⟩;have hl:=len _ _ _ _ hsp;have KX:K.In s.heap:=e0.mod.kin.keeps fun b o e=>(e0.bs b o e).1;have lim:s.heap.NoLimit:=e0.mod.nolimit.keeps fun b o e=>(e0.bs b o e).1;have hkind:∀y∈ps.zip us,scope.names.lookup y.1=some .local\/(scope.names.lookup y.1=some .cell/\((cellsFrom (s.heap.objs.size+1) scope.names []).lookup y.1).isSome=true):=fun ⟨n,v⟩ hy=>by
  rcases S.par n (OC hy).1 with q|q
  ·exact .inl q
  ·exact .inr ⟨q,W.cellsFrom_some _ _ _ (.inl q)⟩
 refine codeAny_call_function hr.depth (KX _ _ lk) rfl S.co S.gen rfl (W.codeRec_of KX hcd) (hb _ _ _ _ ?_);refine wpAny_newFunctionEnv_cells S.kind hkind fun env he s1 x=>?_;subst he;refine⟨lim.keeps x.toInCall.keep,codeAny_func ?_⟩;obtain⟨t,ht,hq⟩:=hbody A outer s H vs Q E (hr.deeper _) hsp;have I:Inv (jZ CX P w K mg base N qual scope f cdv A outer s H E) [] (start N vs) H s1:=yK S hr.hd e0 hl r x;refine wpAny_mono (ht [] s1 (start N vs) H _ I hq) (fun fl s' hs=>?_) fun e s' hs=>hs;have fin:∀ {σ':St}{H':Hp}{v:V}{u:Value},Inv (jZ CX P w K mg base N qual scope f cdv A outer s H E) [] σ' H' s'->RelV v u->Q v H'->CE outer P w H s Q u s' :=
  fun {σ' H' v u} J rv q=>⟨v,H',J.os,J.bare,J.base,J.hok,rv,q⟩
 cases fl with
 | ret u =>obtain⟨v,σ',H',J,rv,q⟩:=hs;exact fin J rv q
 | next =>obtain⟨σ',H',J,q⟩:=hs;exact fin (v:=V.non) (u:=Value.none) J rfl q
 | brk =>obtain⟨_,_,_,q⟩:=hs;exact False.elim q
 | cont =>obtain⟨_,_,_,q⟩:=hs;exact False.elim q
end L2
namespace L2
section
variable {X:Cx}{x:Str}{p pos:Pos}{e:Expr}{es:List Expr}{t:TA}{id T:String}{r:List V->Hp->VK->Prop}
noncomputable def tCB (r:List V->Hp->VK->Prop)(t:TA):TE:=fun σ H Q=>t σ H fun vs H1=>r vs H1 Q
theorem zT (hc:dj X (.builtin id) r)(hg:Gl X x)(hm:X.mg x=none)(hv:bootBuiltins x=some (.builtin id))(ha:PA X (e::es) t)(hn:x≠"__name__":=by decide)(hdb:(x == ("__debug__":Str))=false:=by decide)
  (he:starEach (e::es) X.env=(false,eval e X.env)::starEach es X.env:=by rfl) (hpl:(backTo pos (starEach es X.env)).any (·.1)=false:=by rfl):PE X (.Call (.Name x p) (e::es) [] pos) (tCB r t):=by
 intro pins s σ H Q I h;refine wpAny_Call_Name_kw (l' I hg hm hv ?_ hn hdb);exact PyProof.Rows.callWith_builtin1 (thn (ha pos pins s σ H _ I h) fun us s1 ⟨vs,H1,I1,r1,q1⟩=>hc pins s1 σ H1 vs us Q I1 r1 q1) he hpl
theorem ym (hc:dj X (.type T) r)(hg:Gl X x)(hm:X.mg x=none)(hv:bootBuiltins x=some (.type T))(ha:PA X (e::es) t)(hn:x≠"__name__":=by decide)(hdb:(x == ("__debug__":Str))=false:=by decide)
  (he:starEach (e::es) X.env=(false,eval e X.env)::starEach es X.env:=by rfl) (hpl:(backTo pos (starEach es X.env)).any (·.1)=false:=by rfl):PE X (.Call (.Name x p) (e::es) [] pos) (tCB r t):=by
 intro pins s σ H Q I h;refine wpAny_Call_Name_kw (l' I hg hm hv ?_ hn hdb);exact NC (thn (ha pos pins s σ H _ I h) fun us s1 ⟨vs,H1,I1,r1,q1⟩=>hc pins s1 σ H1 vs us Q I1 r1 q1) he hpl
end
end L2
namespace HT
open PySem
open PyProof.Rows hiding K st lo ad
section
open PySem.SeqAt
open PySem.AutoSeq1 (wpAny_loadPart')
open PySem.MeetsSeq PySem.MeetsSeq2 PySem.MeetsSeq3
end
section
variable {prog:Program}{w:World}{A:Around}{E:Value->Shared->Prop}{s:Shared}
theorem cat_tup {vs ws:List Value}{Q:Value->Shared->Prop}(ht:IsTup s.heap t vs.toArray)(hb:IsTup s.heap b ws.toArray)(hv:vs≠[])(h1:ws=[]->Q (.ref t) s)(h2:ws≠[]->Q (.ref s.heap.objs.size) { s with heap:=s.heap.push { cls:=.type "tuple",data:=.seq (vs++ws).toArray } })(hsz:vs.length+ws.length<=sizeLine):wpAny (model prog w) A (binaryOp .Add (.ref t) (.ref b)) Q E s:=by
 obtain⟨⟨cls,dd,data,sl⟩,ho,hc,n,hd⟩:=id ht;obtain⟨⟨cls2,dd2,data2,sl2⟩,ho2,hc2,n2,hd2⟩:=id hb;simp only at hc hd hc2 hd2;subst hc hd hc2 hd2;have e:vs.toArray++ws.toArray=(vs++ws).toArray:=by simp
 by_cases hw:ws=[]
 ·exact concat_meets ⟨_,ho,rfl⟩ ⟨_,ho2,rfl⟩ noFill_tuple_add seq_tuple_add NR NO (NL _ _)
   (tuple_addW1 t b vs.toArray ws.toArray n n2 dd dd2 sl sl2 (by simpa using hv) (by simp[hw])) ⟨ho,ho2,h1 hw⟩
 ·refine concat_meets ⟨_,ho,rfl⟩ ⟨_,ho2,rfl⟩ noFill_tuple_add seq_tuple_add NR NO (NL _ _)
   (tuple_addW2 t b vs.toArray ws.toArray n n2 dd dd2 sl sl2 (by simpa using hv) (by simpa using hw) (by rw[K3,K3];exact hsz)) ⟨ho,ho2,?_⟩
  rw[e];exact h2 hw
noncomputable def sIx (n d:Nat):Option Int->Nat
 | none=>d
 | some v=>if v<0 then (v+(n:Int)).toNat else min v.toNat n
theorem sIx_none (n d:Nat):sIx n d none=d:=rfl
theorem sIx_nat (n d k:Nat):sIx n d (some (k:Int))=min k n:=by show (if (k:Int)<0 then ((k:Int)+(n:Int)).toNat else min (k:Int).toNat n)=min k n;rw[KW (by omega),LV]
theorem Hq (n d:Nat)(hd:d<=n)(o:Option Int):sIx n d o<=n:=by
 cases o with
 | none=>exact hd
 | some v =>
  show (if v<0 then (v+(n:Int)).toNat else min v.toNat n)<=n;by_cases hv:v<0
  ·rw[K1 hv];omega
  ·rw[KW hv];exact Nat.min_le_right _ _
theorem wG (v:Int)(n d:Nat):(if v<0 then max (v+(n:Int)) 0 else min v (n:Int))=((sIx n d (some v):Nat):Int):=by
 show (if v<0 then max (v+(n:Int)) 0 else min v (n:Int))=(((if v<0 then (v+(n:Int)).toNat else min v.toNat n):Nat):Int);by_cases hv:v<0
 ·simp only[if_pos hv];omega
 ·simp only[if_neg hv];omega
theorem vN (lo hi:Option Int)(n:Nat):Builtin.Slice.sliceAdjust lo hi 1 (n:Int)=(((sIx n 0 lo:Nat):Int),((sIx n n hi:Nat):Int)):=by
 have h1:¬((1:Int)<0):=by omega
 unfold Builtin.Slice.sliceAdjust;simp only[h1,if_false];refine Prod.ext ?_ ?_
 ·cases lo with
  | none=>rfl
  | some v=>exact wG v n 0
 ·cases hi with
  | none=>rfl
  | some v=>exact wG v n n
theorem vz (i j:Nat):Builtin.Slice.slicePlaces (i:Int) (j:Int) 1=j-i:=by
 unfold Builtin.Slice.slicePlaces;have h1:(1:Int) > 0:=by omega
 simp only[h1,if_true,Int.ediv_one];split <;> omega
theorem mq {Q:Option Int->Shared->Prop}(p:IsPart v o)(h:Q o s):wpAny (model prog w) A (Builtin.Slice.slicePartIndex v) Q E s:=by
 cases p with
 | none=>exact slicePart_none h
 | int i t=>exact slicePart_int h
theorem sliceApplied_gen {Q:Int × Int × Nat->Shared->Prop}(hs:s.heap.IsSliceOf sl vl vu .none)(pl:IsPart vl lo)(pu:IsPart vu hi)(h:Q (((sIx n 0 lo:Nat):Int),1,sIx n n hi-sIx n 0 lo) s):wpAny (model prog w) A (Builtin.Slice.sliceApplied (.ref sl) (pure (n:Int))) Q E s:=by
 obtain⟨os,hos,hcs,hds⟩:=id hs;unfold Builtin.Slice.sliceApplied Builtin.Slice.sliceFields;refine KF (KF (wpAny_field hos hds (x:=vl) rfl (KF (wpAny_field hos hds (x:=vu) rfl (KF (wpAny_field hos hds (x:=.none) rfl (KG ?_)))))));refine KF (slicePart_none ?_);show wpAny _ _ (if ((1:Int) == 0)=true then _ else _) _ _ s;rw[KW (by decide)];refine KF (mq pl (KF (mq pu (KF (KG ?_)))));show wpAny _ _ (match Builtin.Slice.sliceAdjust lo hi 1 (n:Int) with|(lo,hi)=>pure (lo,(1:Int),Builtin.Slice.slicePlaces lo hi 1)) _ _ s;rw[vN lo hi n];show wpAny _ _ (pure (((sIx n 0 lo:Nat):Int),(1:Int),Builtin.Slice.slicePlaces ((sIx n 0 lo:Nat):Int) ((sIx n n hi:Nat):Int) 1)) _ _ s;rw[vz];exact KG h
theorem zr (xs:Array Value)(i k:Nat):((List.range k).filterMap fun (m:Nat)=>xs[((i:Int)+(m:Int)*1).toNat]?).toArray=((xs.toList.drop i).take k).toArray:=by
 have e:(fun (m:Nat)=>xs[((i:Int)+(m:Int)*1).toNat]?)=fun m=>xs[i+m]?:=by
  funext m;have:((i:Int)+(m:Int)*1).toNat=i+m:=by omega
  rw[this]
 rw[e];have:=pick_run xs i k;rw[List.filterMap_map] at this;have e2:((fun x=>xs[x]?) ∘ fun x=>i+x)=fun m=>xs[i+m]?:=rfl;rw[e2] at this;rw[this]
theorem getItem_tuple_cut {Q:Value->Shared->Prop}(ht:IsTup s.heap t items)(hs:s.heap.IsSliceOf sl vl vu .none)(pl:IsPart vl lo)(pu:IsPart vu hi)(hw:¬(sIx items.size 0 lo=0/\sIx items.size items.size hi=items.size))(h:Q (.ref s.heap.objs.size) { s with heap:=s.heap.push { cls:=.type "tuple",data:=.seq ((items.toList.drop (sIx items.size 0 lo)).take (sIx items.size items.size hi-sIx items.size 0 lo)).toArray } })(hsz:items.size<=sizeLine):wpAny (model prog w) A (getItem (.ref t) (.ref sl)) Q E s:=by
 have htake:sizeOk (.seq ((items.toList.drop (sIx items.size 0 lo)).take (sIx items.size items.size hi-sIx items.size 0 lo)).toArray):=by show ((items.toList.drop (sIx items.size 0 lo)).take (sIx items.size items.size hi-sIx items.size 0 lo)).toArray.size<=sizeLine;rw[K3,MI,NY,LI];omega
 have hj:sIx items.size items.size hi<=items.size:=Hq _ _ (KJ _) hi;obtain⟨os,hos,hcs,hds⟩:=id hs;have hTs:s.TypeIs (.ref sl) "slice":=⟨os,hos,hcs⟩;unfold getItem
 try with_reducible refine LU ?_
 first|refine KF (KG ?_)|skip
 refine KF (wpAny_sequenceKey ht.typeIs (by decide) ?_);refine KF (wpAny_callSpecial?_slot (name:=Str.ofString "__getitem__") ht.typeIs L3
  (wpAny_call_entry L3 ht.typeIs entry_tuple_getitem ?_ (args_tuple_getitem _ _)))
 show wpAny _ _ (Builtin.Tuple.tupleItemsOf (.ref t) >>= _) _ _ s;refine KF (tupleItemsOf_ ht ?_);refine KF (wpAny_typeOf hTs ?_);rw[K1 (by decide)];refine KF (sliceApplied_gen hs pl pu ?_);have hno:¬((((sIx items.size 0 lo:Nat):Int) == 0 && (1:Int) == 1 && (sIx items.size items.size hi-sIx items.size 0 lo) == items.size)=true):=by intro q;rw[KM,KM] at q;have q1:((sIx items.size 0 lo:Nat):Int)=0:=eq_of_beq q.1.1;have q2:sIx items.size items.size hi-sIx items.size 0 lo=items.size:=eq_of_beq q.2;exact hw ⟨by omega,by omega⟩
 show wpAny _ _ (if (((sIx items.size 0 lo:Nat):Int) == 0 && (1:Int) == 1 && (sIx items.size items.size hi-sIx items.size 0 lo) == items.size)=true then _ else _) _ _ s;rw[KW hno,zr]
 first
  | exact KF (m:=Builtin.Tuple.tupleExact _) (wpAny_newObj_type (KG ⟨_,rfl,KG h⟩) htake)
  | exact KF (m:=Builtin.Tuple.tupleExact _) (wpAny_newObj_type (KF (KG (KG ⟨_,rfl,KG h⟩))) htake)
  | exact KF (KF (m:=Builtin.Tuple.tupleExact _) (wpAny_newObj_type (KG (KG ⟨_,rfl,KG h⟩)) htake))
  | exact KF (KF (m:=Builtin.Tuple.tupleExact _) (wpAny_newObj_type (KG ⟨_,rfl,KG h⟩) htake))
end
end HT
namespace L2
noncomputable abbrev TO:=St->Hp->(Option Int->Hp->Prop)->Prop
def PO (X:Cx)(e:Option Expr)(t:TO):Prop :=
 ∀(pins:List (Addr × Obj)) (s:Shared) (σ:St) (H:Hp) (Q:Option Int->Hp->Prop),Inv X pins σ H s->t σ H Q ->
  wpAny (model X.prog X.w) X.A (evalPart e X.env) (fun u s'=>∃o H',Inv X pins σ H' s'/\IsPart u o/\Q o H') X.xe s
noncomputable def DO:TO:=fun _ H Q=>Q none H
noncomputable def Jg (t:TE):TO:=fun σ H Q=>t σ H fun x H1=>∃i,x=.int i/\Q (some i) H1
section
variable {X:Cx}{e:Expr}{te:TE}{lo hi:Option Expr}{tl th:TO}{pos p2:Pos}
theorem C2:PO X none DO:=by intro pins s σ H Q I h;rw[evalPart_none];exact KG ⟨none,H,I,.none,h⟩
theorem DZ (h:PE X e te):PO X (some e) (Jg te):=by intro pins s σ H Q I hw;rw[evalPart_some];refine thn (h pins s σ H _ I hw) fun u s1 ⟨x,H1,I1,r1,q1⟩=>?_;obtain⟨i,rfl,q⟩:=q1;obtain⟨t,rfl⟩:=r1;exact⟨some i,H1,I1,.int i t,q⟩
def SlR (X:Cx)(r:V->Option Int->Option Int->Hp->VK->Prop):Prop :=
 ∀(pins:List (Addr × Obj)) (s:Shared) (σ:St) (H:Hp) (x:V) (v vl vu:Value) (lo hi:Option Int) (sl:Addr) (Q:VK),Inv X pins σ H s->RelV x v->s.heap.IsSliceOf sl vl vu .none->IsPart vl lo->IsPart vu hi->r x lo hi H Q ->
  ∃T id,typeLookup (.type T) "__getitem__"=pure (some (.builtin id))/\s.TypeIs v T/\wpAny (model X.prog X.w) X.A (getItem v (.ref sl)) (EP X pins σ Q) X.xe s
noncomputable def tSl (r:V->Option Int->Option Int->Hp->VK->Prop)(te:TE)(tl th:TO):TE:=fun σ H Q=>te σ H fun x H1=>tl σ H1 fun l H2=>th σ H2 fun u H3=>r x l u H3 Q
theorem zV (hr:SlR X r)(he:PE X e te)(hl:PO X lo tl)(hu:PO X hi th):PE X (.Subscript e (.Slice lo hi none p2) pos) (tSl r te tl th):=by intro pins s σ H Q I h;refine Subscript_ (thn (he pins s σ H _ I h) fun v s1 ⟨x,H1,I1,r1,q1⟩=>?_);refine wpAny_Slice (thn (hl pins s1 σ H1 _ I1 q1) fun vl s2 ⟨l,H2,I2,pl,q2⟩=>thn (hu pins s2 σ H2 _ I2 q2) fun vu s3 ⟨u,H3,I3,pu,q3⟩=>?_);rw[evalPart_none];refine KG ?_;have I4:Inv X pins σ H3 { s3 with heap:=s3.heap.push { cls:=.type "slice",data:=.fields #[vl,vu,.none] } }:=I3.kept (t':=s3.toks) fun b ob q=>KH _ q;obtain ⟨T,id,hT,ht,hg⟩:=hr pins { s3 with heap:=s3.heap.push { cls:=.type "slice",data:=.fields #[vl,vu,.none] } } σ H3 x v vl vu l u s3.heap.objs.size Q I4 r1 (Heap.IsSliceOf.new ..) pl pu q3;show wpAny (model X.prog X.w) X.A (subscriptTail e (.Slice lo hi none p2) v (.ref s3.heap.objs.size)) (EP X pins σ Q) X.xe { s3 with heap:=s3.heap.push { cls:=.type "slice",data:=.fields #[vl,vu,.none] } };exact tail_any (ops:=[.ref s3.heap.objs.size,v]) ht hT hg (by with_unfolding_all rfl)
noncomputable def oG (xs:List V)(lo hi:Option Int):List V:=(xs.drop (HT.sIx xs.length 0 lo)).take (HT.sIx xs.length xs.length hi-HT.sIx xs.length 0 lo)
theorem kH (xs:List V)(lo hi:Option Int):(oG xs lo hi).length<=xs.length:=by unfold oG;rw[MI,NY];omega
noncomputable def Kc (K:W.Frag):V->Option Int->Option Int->Hp->VK->Prop:=fun x lo hi H Q=>∃a xs,x=.ref a/\SqT K H a xs /\
 ¬(HT.sIx xs.length 0 lo=0/\HT.sIx xs.length xs.length hi=xs.length)/\∀p,H p=none->Q (.ref p) (upd H p (.tup (oG xs lo hi)))
theorem FT:SlR X (Kc X.K):=by
 intro pins s σ H x v vl vu lo hi sl Q I rx hs pl pu h;obtain⟨a,xs,rfl,hx,hw,q⟩:=h;cases rx;obtain⟨its,r,ht,hz⟩:=I.tuple hx;have hlen:its.toArray.size=xs.length:=by rw[K3];exact r.length.symm
 refine ⟨"tuple",_,PyProof.Rows.slot_tuple_getitem.lookup,ht.typeIs,?_⟩;refine HT.getItem_tuple_cut ht hs pl pu (by rw[hlen];exact hw) ?_ (by rw[hlen];exact hz);rw[hlen];refine⟨.ref s.heap.objs.size,_,I.laid (t':=s.toks) (o:=.tup (oG xs lo hi)) (fun b ob q=>KH _ q) (KJ _) ?_,rfl,q _ (I.hok.fresh (KJ _))⟩;exact⟨K_ (kH xs lo hi) hz,_,(r.drop (HT.sIx xs.length 0 lo)).take (HT.sIx xs.length xs.length hi-HT.sIx xs.length 0 lo),IsTup.new _ _⟩
noncomputable def Iw (K:W.Frag):R2:=fun x y H Q=>∃a b xs ys,x=.ref a/\y=.ref b/\SqT K H a xs/\SqT K H b ys/\xs≠[]/\xs.length+ys.length<=sizeLine /\
 (ys=[]->Q (.ref a) H)/\(ys≠[]->∀p,H p=none->Q (.ref p) (upd H p (.tup (xs++ys))))
theorem Vals.nil_iff (r:Vals xs us):us=[]↔xs=[]:=by
 cases r with
 | nil=>simp
 | cons _ _=>simp
theorem DU:OpR X (binaryOp .Add) (Iw X.K):=by intro pins s σ H x y v u Q I rx ry h;obtain⟨a,b,xs,ys,rfl,rfl,ha,hb,hx,hz,q1,q2⟩:=h;cases rx;cases ry;obtain⟨its,r1,p1,_⟩:=I.tuple ha;obtain⟨its2,r2,p2,_⟩:=I.tuple hb;refine HT.cat_tup p1 p2 (fun z=>hx (r1.nil_iff.mp z)) (fun z=>⟨.ref a,H,I,rfl,q1 (r2.nil_iff.mp z)⟩) (fun z=>?_) (by rw[<-r1.length,<-r2.length];exact hz);refine⟨.ref s.heap.objs.size,_,I.laid (t':=s.toks) (o:=.tup (xs++ys)) (fun b ob q=>KH _ q) (KJ _) ?_,rfl,q2 (fun w=>z (r2.nil_iff.mpr w)) _ (I.hok.fresh (KJ _))⟩;exact⟨by rw[LJ];exact hz,_,r1.append r2,IsTup.new _ _⟩
end
end L2
namespace L2
noncomputable def ixN (n:Nat)(i:Int):Option Nat:=if 0<=i then (if i<n then some i.toNat else none) else if -(n:Int)<=i then some (i+n).toNat else none
noncomputable def atI {α:Type}(xs:List α)(i:Int):Option α:=(ixN xs.length i).bind fun j=>xs[j]?
theorem w_ (h:ixN n i=some j):seqIndex? i n=some j/\j<n/\-(n:Int)<=i/\i<n:=by
 unfold ixN at h;by_cases h0:0<=i
 ·rw[K1 h0] at h;by_cases h1:i<n
  ·rw[K1 h1] at h;have e:i.toNat=j:=L7 h;exact⟨by rw[seqIndex_of h0 h1,e],by omega,by omega,h1⟩
  ·rw[KW h1] at h;cases h
 ·rw[KW h0] at h;by_cases h1:-(n:Int)<=i
  ·rw[K1 h1] at h;have e:(i+n).toNat=j:=L7 h;exact⟨by rw[seqIndex_neg (by omega) h1,e],by omega,h1,by omega⟩
  ·rw[KW h1] at h;cases h
theorem iq {α:Type}{xs:List α}{v:α}(h:atI xs i=some v):∃j,seqIndex? i xs.length=some j/\xs[j]?=some v/\j<xs.length/\-(xs.length:Int)<=i/\i<xs.length:=by
 unfold atI at h;cases e:ixN xs.length i with
 | none=>rw[e] at h;cases h
 | some j =>rw[e] at h;obtain⟨h1,h2,h3,h4⟩:=w_ e;exact⟨j,h1,h,h2,h3,h4⟩
theorem f6 {α:Type}{xs:List α}{j:Nat}{v:α}(h:xs[j]?=some v):atI xs (j:Int)=some v:=by
 have hj:j<xs.length:=(KQ.mp h).1;have e:ixN xs.length (j:Int)=some j:=by unfold ixN;rw[K1 (by omega),K1 (by omega)];simp
 unfold atI;rw[e];exact h
def wB (b:Expr):Prop:=∀o i,subscripted b false o i=operate [o,i] (getItem o i)
def IxR (X:Cx)(r:R2):Prop :=
 ∀(value slice:Expr) (pins:List (Addr × Obj)) (s:Shared) (σ:St) (H:Hp) (x y:V) (v u:Value) (Q:VK),Inv X pins σ H s->RelV x v->RelV y u->r x y H Q ->
  subscripted slice false v u=operate [v,u] (getItem v u)->wpAny (model X.prog X.w) X.A (subscriptTail value slice v u) (EP X pins σ Q) X.xe s
def MtR (X:Cx)(id:String)(r:V->List V->Hp->VK->Prop):Prop :=
 ∀(pins:List (Addr × Obj)) (s:Shared) (σ:St) (H:Hp) (x:V) (xs:List V) (v:Value) (us:List Value) (Q:VK),Inv X pins σ H s->RelV x v->Vals xs us->r x xs H Q ->
  wpAny (model X.prog X.w) X.A (call (.builtin id) (v::us)) (EP X pins σ Q) X.xe s
section
variable {X:Cx}{a b:Expr}{ta tb:TE}{pos:Pos}
theorem HK (hr:IxR X r)(ha:PE X a ta)(hb:PE X b tb)(hs:wB b):PE X (.Subscript a b pos) (tOp r ta tb):=by intro pins s σ H Q I h;exact Subscript_ (Hm ha hb I h fun v u s2 x y H2 I2 rx ry q=>hr a b pins s2 σ H2 x y v u Q I2 rx ry q (hs _ _))
noncomputable def Kh (K:W.Frag):R2:=fun x y H Q=>∃p xs i v,x=.ref p/\y=.int i/\SqL K H p xs/\atI xs i=some v/\Q v H
noncomputable def Kv (K:W.Frag):R2:=fun x y H Q=>∃p xs i v,x=.ref p/\y=.int i/\SqT K H p xs/\atI xs i=some v/\Q v H
noncomputable def Kp:R2:=fun x y H Q=>∃z i c,x=.str z/\y=.int i/\z.length<=sizeLine/\atI z.cps.toList i=some c/\Q (.str ⟨#[c]⟩) H
theorem D0:IxR X (Kh X.K):=by
 intro value slice pins s σ H x y v u Q I rx ry h hs;obtain⟨p,xs,i,z,rfl,rfl,hq,he,q⟩:=h;cases rx;obtain⟨t,rfl⟩:=ry;obtain⟨its,r,pl,hz⟩:=I.list hq;obtain⟨j,h1,h2,h3,h4,h5⟩:=iq he;obtain⟨w,ew,rw'⟩:=r.get h2;have hl:=r.length;have hn:=iR;have fin:EP X pins σ Q w s:=⟨z,H,I,rw',q⟩;by_cases h0:0<=i
 ·have hj:i.toNat=j:=by rw[seqIndex_of h0 h5] at h1;exact L7 h1
  exact item_listR pl.isList h0 (by omega) (by rw[hj];simpa using ew) fin hs
 ·have hj:(i+(its.toArray.size:Int)).toNat=j:=by rw[seqIndex_neg (by omega) h4] at h1;rw[K3,<-hl];exact L7 h1
  exact subscriptTail_builtinR (x:=w) pl.isList.typeIs slot_list_getitem.lookup
   (wpAny_getItem_list_neg (Q:=fun r s'=>r=w/\EP X pins σ Q r s') pl.isList (by omega) (by rw[K3] <;> omega) (by omega) (by rw[hj];simpa using ew) ⟨rfl,fin⟩) hs
theorem Gy:IxR X (Kv X.K):=by
 intro value slice pins s σ H x y v u Q I rx ry h hs;obtain⟨p,xs,i,z,rfl,rfl,hq,he,q⟩:=h;cases rx;obtain⟨t,rfl⟩:=ry;obtain⟨its,r,pl,hz⟩:=I.tuple hq;obtain⟨j,h1,h2,h3,h4,h5⟩:=iq he;obtain⟨w,ew,rw'⟩:=r.get h2;have hl:=r.length;have hn:=iR;have fin:EP X pins σ Q w s:=⟨z,H,I,rw',q⟩;exact subscriptTail_builtinR (x:=w) pl.typeIs slot_tuple_getitem.lookup
  (getItem_tuple (j:=j) (Q:=fun r s'=>r=w/\EP X pins σ Q r s') pl (by omega) (by omega) (by rw[K3,<-hl];exact h1) (by simpa using ew) ⟨rfl,fin⟩) hs
theorem Hj:IxR X Kp:=by
 intro value slice pins s σ H x y v u Q I rx ry h hs;obtain⟨z,i,c,rfl,rfl,hz,he,q⟩:=h;obtain⟨t,rfl⟩:=rx;obtain⟨t',rfl⟩:=ry;obtain⟨j,h1,h2,h3,h4,h5⟩:=iq he;have hl:z.cps.toList.length=z.length:=by simp[Str.length]
 rw[hl] at h1 h4 h5;have hn:=iR;exact tail_any (typeIs_str s z t) slot_str_getitem.lookup (getItem_str (c:=c) (by have e1:decide (i < -(2 ^ 63:Int))=false:=LG (by omega);have e2:decide (i >= 2 ^ 63)=false:=LG (by omega);rw[e1,e2,Bool.or_false]) (by rw[h1];simpa using h2) ⟨.str ⟨#[c]⟩,H,I.tok _,⟨_,rfl⟩,q⟩) hs
theorem vJ (its:List Value)(n j:Nat)(u:Value):Obj.mapSeq (·.setIfInBounds j u) { cls:=.type "list",data:=.seq its.toArray n }={ cls:=.type "list",data:=.seq (its.set j u).toArray n }:=by simp[Obj.mapSeq]
theorem Inv.lst {σ:St}(I:Inv X pins σ H s)(h:H p=some (.lst xs)) :
  ∃(its:List Value) (n:Nat),Vals xs its/\s.heap.get? p=some { cls:=.type "list",data:=.seq its.toArray n }/\xs.length<=sizeLine:=by
 obtain⟨z,its,n,r,e⟩:=I.hok p _ h;exact⟨its,n,r,e,z⟩
theorem Inv.lstUpd {σ:St}{its its':List Value}{f:Obj->Obj}(I:Inv X pins σ H s)(h:H p=some (.lst xs))(ho:s.heap.get? p=some { cls:=.type "list",data:=.seq its.toArray n })(hf:f { cls:=.type "list",data:=.seq its.toArray n }={ cls:=.type "list",data:=.seq its'.toArray n' })(r:Vals ys its')(hz:ys.length<=sizeLine)(t:Nat) :
  Inv X pins σ (upd H p (.lst ys)) { s with heap:=s.heap.update p f,toks:=t }:=by
 have e:(s.heap.update p f).get? p=some { cls:=.type "list",data:=.seq its'.toArray n' }:=by rw[LO f ho (by rw[hf] <;> rfl),hf]
 refine I.write (x:=p) (e:=p) (by rw[h];trivial) (.inl rfl) (fun b u hb q=>(MJ _ _ (Ne.symm hb)).trans q) ⟨_,e⟩ ?_;exact⟨hz,its',n',r,e⟩
noncomputable def Iy:V->V->V->Hp->(Hp->Prop)->Prop:=fun o i v H Q=>∃p xs k j,o=.ref p/\i=.int k/\H p=some (.lst xs)/\ixN xs.length k=some j/\Q (upd H p (.lst (xs.set j v)))
theorem Cc:DJ X Iy:=by
 intro pins s σ H o i v ov iv u Q I ro ri rv h;obtain⟨p,xs,k,j,rfl,rfl,hp,hj,q⟩:=h;cases ro;obtain⟨t,rfl⟩:=ri;obtain⟨its,n,r,ho,hz⟩:=I.lst hp;obtain⟨h1,h2,h3,h4⟩:=w_ hj;have hl:=r.length;have hn:=iR;have I':Inv X pins σ (upd H p (.lst (xs.set j v))) { s with heap:=s.heap.update p (Obj.mapSeq (·.setIfInBounds j u)) } :=
  I.lstUpd hp ho (vJ its n j u) (r.set rv j) (by rw[MV];exact hz) s.toks
 by_cases h0:0<=k
 ·have hk:k.toNat=j:=by rw[seqIndex_of h0 h4] at h1;exact L7 h1
  exact W.ki_setAt ho h0 (by omega) (by rw[K3,<-hl];exact h4) (by rw[hk];exact⟨_,I',q⟩)
 ·have hk:(k+(its.toArray.size:Int)).toNat=j:=by rw[seqIndex_neg (by omega) h3] at h1;rw[K3,<-hl];exact L7 h1
  exact W.ki_setBack ho (by omega) (by rw[K3,<-hl];exact h3) (by omega) (by rw[hk];exact⟨_,I',q⟩)
theorem rS (lo hi:Option Int)(n:Nat):(sliceBounds lo hi none n).1=((HT.sIx n 0 lo:Nat):Int)/\(sliceBounds lo hi none n).2.1=((HT.sIx n n hi:Nat):Int)/\(sliceBounds lo hi none n).2.2=1:=by
 refine⟨?_,?_,rfl⟩
 ·cases lo with
  | none=>simp[sliceBounds,HT.sIx]
  | some i =>
   simp only[sliceBounds,HT.sIx,Option.getD_none,show (1:Int) > 0 by decide,if_true];by_cases h:i<0
   ·simp only[h,if_true] <;> omega
   ·simp only[h,if_false] <;> omega
 ·cases hi with
  | none=>simp[sliceBounds,HT.sIx]
  | some i =>
   simp only[sliceBounds,HT.sIx,Option.getD_none,show (1:Int) > 0 by decide,if_true];by_cases h:i<0
   ·simp only[h,if_true] <;> omega
   ·simp only[h,if_false] <;> omega
theorem oA (its:List Value)(lo hi:Option Int):slicePick its.toArray lo hi none=((its.drop (HT.sIx its.length 0 lo)).take (HT.sIx its.length its.length hi-HT.sIx its.length 0 lo)).toArray:=by obtain⟨h1,h2,h3⟩:=rS lo hi its.toArray.size;unfold slicePick;rw[h1,h2,h3];simp only[sliceRange_one,pick_run,List.size_toArray] <;> rfl
noncomputable def JT (K:W.Frag):V->Option Int->Option Int->Hp->VK->Prop:=fun x lo hi H Q=>∃a xs,x=.ref a/\SqL K H a xs/\∀p,H p=none->Q (.ref p) (upd H p (.lst (oG xs lo hi)))
theorem CT:SlR X (JT X.K):=by intro pins s σ H x v vl vu lo hi sl Q I rx hs pl pu h;obtain⟨a,xs,rfl,hx,q⟩:=h;cases rx;obtain⟨its,r,ht,hz⟩:=I.list hx;have hlen:=r.length;refine ⟨"list",_,slot_list_getitem.lookup,ht.isList.typeIs,?_⟩;refine wpAny_getItem_list_slice ht.isList hs pl pu .none (by simp) ?_ (by rw[K3] <;> omega);rw[oA,<-hlen];refine⟨.ref s.heap.objs.size,_,I.laid (t':=s.toks) (o:=.lst (oG xs lo hi)) (fun b ob q=>KH _ q) (KJ _) ?_,rfl,q _ (I.hok.fresh (KJ _))⟩;exact⟨K_ (kH xs lo hi) hz,_,0,(r.drop (HT.sIx xs.length 0 lo)).take (HT.sIx xs.length xs.length hi-HT.sIx xs.length 0 lo),KL _ rfl⟩
noncomputable def iH:V->Bool
 | .non=>true
 | .bl _=>true
 | .int _=>true
 | .str _=>true
 | _=>false
noncomputable def eqV:V->V->Bool
 | .non,.non=>true
 | .bl a,.bl b=>a == b
 | .bl a,.int b=>(if a then 1 else 0) == b
 | .int a,.bl b=>a == (if b then 1 else 0)
 | .int a,.int b=>a == b
 | .str a,.str b=>a == b
 | _,_=>false
theorem GQ (ry:RelV y u)(rx:RelV x v)(fy:iH y=true)(fx:iH x=true):SeqAt.EqAt A s u v (eqV y x):=by
 cases y with
 | non =>
  cases ry;cases x with
  | non=>cases rx;exact SeqAt.EqAt.same _
  | bl b=>cases rx;exact SeqAt.EqAt.none_bool b
  | int b=>obtain⟨t,rfl⟩:=rx;exact SeqAt.EqAt.none_int b t
  | str b=>obtain⟨t,rfl⟩:=rx;exact SeqAt.EqAt.none_str b t
  | _=>exact absurd (show false=true from fx) KI
 | bl a =>
  cases ry;cases x with
  | non=>cases rx;exact SeqAt.EqAt.bool_none a
  | bl b=>cases rx;exact SeqAt.EqAt.bool_bool a b
  | int b=>obtain⟨t,rfl⟩:=rx;exact SeqAt.EqAt.bool_int a b t
  | str b=>obtain⟨t,rfl⟩:=rx;exact SeqAt.EqAt.bool_str a b t
  | _=>exact absurd (show false=true from fx) KI
 | int a =>
  obtain⟨t',rfl⟩:=ry;cases x with
  | non=>cases rx;exact SeqAt.EqAt.int_none a t'
  | bl b=>cases rx;exact SeqAt.EqAt.int_bool a t' b
  | int b=>obtain⟨t,rfl⟩:=rx;exact SeqAt.EqAt.int_int a t' b t
  | str b=>obtain⟨t,rfl⟩:=rx;exact SeqAt.EqAt.int_str a t' b t
  | _=>exact absurd (show false=true from fx) KI
 | str a =>
  obtain⟨t',rfl⟩:=ry;cases x with
  | non=>cases rx;exact SeqAt.EqAt.str_none a t'
  | bl b=>cases rx;exact SeqAt.EqAt.str_bool a t' b
  | int b=>obtain⟨t,rfl⟩:=rx;exact SeqAt.EqAt.str_int a t' b t
  | str b=>obtain⟨t,rfl⟩:=rx;exact SeqAt.EqAt.str_str a t' b t
  | _=>exact absurd (show false=true from fx) KI
 | _=>exact absurd (show false=true from fy) KI
noncomputable def eqU (x:V)(u:Value):Bool:=match u with
 | .none=>eqV .non x
 | .bool b=>eqV (.bl b) x
 | .int i _=>eqV (.int i) x
 | .str z _=>eqV (.str z) x
 | _=>false
theorem BW (r:RelV y u)(f:iH y=true):eqU x u=eqV y x:=by
 cases y with
 | non=>cases r;rfl
 | bl b=>cases r;rfl
 | int i=>obtain⟨t,rfl⟩:=r;rfl
 | str z=>obtain⟨t,rfl⟩:=r;rfl
 | _=>exact absurd (show false=true from f) KI
theorem jd:∀ {xs:List V}{us:List Value},Vals xs us->xs.all iH=true->us.any (eqU x)=xs.any fun y=>eqV y x
 | _,_,.nil,_=>rfl
 | y::xs,u::us,.cons r t,f=>by rw[MD,KM] at f;rw[L9,L9,BW r f.1,jd t f.2]
theorem gT (rx:RelV x v)(fx:iH x=true):∀ {xs:List V}{us:List Value},Vals xs us->xs.all iH=true->∀u∈us,SeqAt.EqAt A s u v (eqU x u)
 | _,_,.nil,_=>fun u hu=>by cases hu
 | y::xs,u::us,.cons r t,f=>fun u' hu=>by
  rw[MD,KM] at f;rcases K8.mp hu with rfl|hu
  ·rw[BW r f.1];exact GQ r rx f.1 fx
  ·exact gT rx fx t f.2 u' hu
noncomputable def inV (x:V)(xs:List V):Bool:=xs.any fun y=>eqV y x
noncomputable def rIn (K:W.Frag)(neg:Bool):R2:=fun x y H Q=>∃p xs,y=.ref p/\(SqL K H p xs\/SqT K H p xs)/\iH x=true/\xs.all iH=true/\Q (.bl (if neg then !inV x xs else inV x xs)) H
theorem yt:OpR X (compareOp .In) (rIn X.K false):=by
 intro pins s σ H x y v u Q I rx ry h;obtain⟨p,xs,rfl,hq,fx,fs,q⟩:=h;cases ry;rcases hq with hq|hq
 ·obtain⟨its,r,pl,hz⟩:=I.list hq;refine SeqAt.in_listAt (eqU x) pl.isList (fun w hw=>gT rx fx r fs w (by simpa using hw)) ⟨.bl _,H,I,rfl,?_⟩;rw[show its.toArray.any (eqU x)=its.any (eqU x) by simp,jd r fs];exact q
 ·obtain⟨its,r,pl,hz⟩:=I.tuple hq;refine SeqAt.in_tupleAt (eqU x) pl (fun w hw=>gT rx fx r fs w (by simpa using hw)) ⟨.bl _,H,I,rfl,?_⟩;rw[show its.toArray.any (eqU x)=its.any (eqU x) by simp,jd r fs];exact q
theorem jQ:OpR X (compareOp .NotIn) (rIn X.K true):=by
 intro pins s σ H x y v u Q I rx ry h;obtain⟨p,xs,rfl,hq,fx,fs,q⟩:=h;cases ry;rcases hq with hq|hq
 ·obtain⟨its,r,pl,hz⟩:=I.list hq;refine SeqAt.notIn_listAt (eqU x) pl.isList (fun w hw=>gT rx fx r fs w (by simpa using hw)) ⟨.bl _,H,I,rfl,?_⟩;rw[show its.toArray.any (eqU x)=its.any (eqU x) by simp,jd r fs];exact q
 ·obtain⟨its,r,pl,hz⟩:=I.tuple hq;refine SeqAt.notIn_tupleAt (eqU x) pl (fun w hw=>gT rx fx r fs w (by simpa using hw)) ⟨.bl _,H,I,rfl,?_⟩;rw[show its.toArray.any (eqU x)=its.any (eqU x) by simp,jd r fs];exact q
theorem rG:OpR X (compareOp .NotIn) (fun x y H Q=>∃i j,x=.str i/\y=.str j/\Q (.bl (!(!(Builtin.Str.occurrences j i 0 j.length 1).isEmpty))) H):=by intro pins s σ H x y v u Q I rx ry h;obtain⟨i,j,rfl,rfl,q⟩:=h;obtain⟨t,rfl⟩:=rx;obtain⟨t',rfl⟩:=ry;exact notIn_str ⟨.bl _,H,I,rfl,q⟩
theorem rm:dj X (.builtin "len") (fun xs H Q=>∃p ys,xs=[.ref p]/\(SqL X.K H p ys\/SqT X.K H p ys)/\Q (.int ys.length) H):=by
 intro pins s σ H xs us Q I r h;obtain⟨p,ys,rfl,hq,q⟩:=h;obtain⟨u,rfl,rx⟩:=cR r;cases rx;have hn:=iR;rcases hq with hq|hq
 ·obtain⟨its,r',pl,hz⟩:=I.list hq;have hlen:=r'.length;exact Calls.call_len_list pl.isList (by simp only[List.size_toArray] <;> omega) ⟨.int ys.length,H,I.tok _,⟨s.toks+1,by rw[K3,hlen]⟩,q⟩
 ·obtain⟨its,r',pl,hz⟩:=I.tuple hq;have hlen:=r'.length;exact len_tuple pl (by simp only[List.size_toArray] <;> omega) ⟨.int ys.length,H,I.tok _,⟨s.toks+1,by rw[K3,hlen]⟩,q⟩
theorem rq:dj X (.builtin "len") (fun xs H Q=>∃z,xs=[.str z]/\z.length<=sizeLine/\Q (.int z.length) H):=by intro pins s σ H xs us Q I r h;obtain⟨z,rfl,hz,q⟩:=h;obtain⟨u,rfl,t,rfl⟩:=cR r;have hn:=iR;exact len_str (by omega) ⟨.int z.length,H,I.tok _,⟨_,rfl⟩,q⟩
theorem rn:dj X (.type "list") (fun xs H Q=>∃p ys,xs=[.ref p]/\(SqL X.K H p ys\/SqT X.K H p ys)/\∀l,H l=none->Q (.ref l) (upd H l (.lst ys))):=by
 intro pins s σ H xs us Q I r h;obtain⟨p,ys,rfl,hq,q⟩:=h;obtain⟨u,rfl,rx⟩:=cR r;cases rx;have fin:∀(its:List Value),Vals ys its->ys.length<=sizeLine->∀(h':Heap) (c':Nat),(∀b o',s.heap.get? b=some o'->h'.get? b=some o') ->
   h'.get? s.heap.objs.size=some { cls:=.type "list",dict:=none,data:=.seq its.toArray c',slots:=#[] }->EP X pins σ Q (.ref s.heap.objs.size) { s with heap:=h' }:=fun its r' hz h' c' kp e =>
  ⟨.ref s.heap.objs.size,_,I.laid (t':=s.toks) kp (KJ _) (show ObjOk X.prog X.w _ h' _ (.lst ys) from ⟨hz,its,c',r',e⟩),rfl,q _ (I.hok.fresh (KJ _))⟩
 rcases hq with hq|hq
 ·obtain⟨its,r',pl,hz⟩:=I.list hq;have hlen:=r'.length;obtain⟨o,ho,hc,n,hd⟩:=pl.isList;exact call_list_seq p (.inl rfl) ho hc hd (fun h' c' kp e=>fin its r' hz h' c' kp e) (by simp only[List.size_toArray] <;> omega)
 ·obtain⟨its,r',pl,hz⟩:=I.tuple hq;have hlen:=r'.length;obtain⟨o,ho,hc,n,hd⟩:=pl;exact call_list_seq p (.inr rfl) ho hc hd (fun h' c' kp e=>fin its r' hz h' c' kp e) (by simp only[List.size_toArray] <;> omega)
theorem nU:dj X (.type "tuple") (fun xs H Q=>∃p ys,xs=[.ref p]/\((SqL X.K H p ys/\∀l,H l=none->Q (.ref l) (upd H l (.tup ys)))\/(SqT X.K H p ys/\Q (.ref p) H))):=by
 intro pins s σ H xs us Q I r h;obtain⟨p,ys,rfl,h⟩:=h;obtain⟨u,rfl,rx⟩:=cR r;cases rx;rcases h with⟨hq,q⟩|⟨hq,q⟩
 ·obtain⟨its,r',pl,hz⟩:=I.list hq;have hlen:=r'.length;refine call_tuple_list pl.isList (fun h' kp=>?_) (by simp only[List.size_toArray] <;> omega);have I1:Inv X pins σ H { s with heap:=h' }:=I.kept (t':=s.toks) kp;have I2:Inv X pins σ (upd H h'.objs.size (.tup ys)) { s with heap:=h'.push { cls:=.type "tuple",data:=.seq its.toArray } } :=
   I1.laid (t':=s.toks) (fun b o e=>KH _ e) (KJ _) (show ObjOk X.prog X.w _ _ _ (.tup ys) from ⟨hz,its,r',IsTup.new _ _⟩)
  exact⟨.ref h'.objs.size,_,I2,rfl,q _ (I1.hok.fresh (KJ _))⟩
 ·obtain⟨its,r',pl,hz⟩:=I.tuple hq;exact call_tuple_same pl ⟨.ref p,H,I,rfl,q⟩
def tyV (K:W.Frag)(T:String)(x:V)(H:Hp):Prop:=match x with
 | .str _=>T="str"
 | .int _=>T="int"
 | .ref p=>(T="list"/\∃xs,SqL K H p xs)\/(T="tuple"/\∃o,K.lookup p=some o/\o.cls=.type "tuple"/\o.dict=none) \/
   (T="dict"/\((∃kvs,H p=some (.dK kvs))\/∃kvs,H p=some (.dT kvs)))\/(T="set"/\∃S n,H p=some (.set S n))
 | _=>False
theorem BB {σ:St}(I:Inv X pins σ H s)(r:RelV x v)(ty:tyV X.K T x H) :
  s.TypeIs v T/\∀a,v=.ref a->∃ob,s.heap.get? a=some ob/\ob.dict=none:=by
 cases x with
 | str z =>obtain⟨t,rfl⟩:=r;cases (show T="str" from ty);exact⟨typeIs_str s z t,fun _ e=>nomatch e⟩
 | int i =>obtain⟨t,rfl⟩:=r;cases (show T="int" from ty);exact⟨typeIs_int s i t,fun _ e=>nomatch e⟩
 | ref p =>
  cases r;rcases ty with⟨rfl,xs,hq⟩|⟨rfl,o,hk,hc,hd⟩|⟨rfl,hk⟩|⟨rfl,S,n,hk⟩
  ·obtain⟨its,_,pl,_⟩:=I.list hq;refine⟨pl.isList.typeIs,fun a e=>?_⟩;cases e;obtain⟨o,n,e,c,hd,_⟩:=pl;exact⟨o,e,hd⟩
  ·refine⟨⟨o,I.kIn p o hk,hc⟩,fun a e=>?_⟩;cases e;exact⟨o,I.kIn _ o hk,hd⟩
  ·have z:∃o,s.heap.get? p=some o/\o.ExactDict:=by
    rcases hk with⟨kvs,hk⟩|⟨kvs,hk⟩
    ·obtain⟨_,_,_,_,o,_,_,e,ex,_⟩:=I.hok p _ hk;exact⟨o,e,ex⟩
    ·obtain⟨_,_,_,_,o,_,_,e,ex,_⟩:=I.hok p _ hk;exact⟨o,e,ex⟩
   obtain⟨o,e,ex⟩:=z;refine⟨⟨o,e,ex.1⟩,fun a e2=>?_⟩;cases e2;exact⟨o,e,ex.2.1⟩
  ·obtain⟨o,_,_,_,e,ex,_⟩:=I.hok p _ hk;refine⟨⟨o,e,ex.1⟩,fun a e2=>?_⟩;cases e2;exact⟨o,e,ex.2.1⟩
 | _=>exact False.elim ty
noncomputable def J3 (K:W.Frag)(T:String)(r:V->List V->Hp->VK->Prop)(to:TE):TE:=fun σ H Q=>to σ H fun x H1=>tyV K T x H1/\r x [] H1 Q
noncomputable def tBM (K:W.Frag)(T:String)(r:V->List V->Hp->VK->Prop)(to:TE)(t:TA):TE:=fun σ H Q=>to σ H fun x H1=>tyV K T x H1/\t σ H1 fun xs H2=>r x xs H2 Q
variable {o e:Expr}{es:List Expr}{to:TE}{t:TA}{name:Str}{apos cpos:Pos}{T id:String}{r:V->List V->Hp->VK->Prop}
theorem vR (pa:PlainAttrs T)(slot:Slot T name id)(hty:typeOf (.builtin id)=pure (.type "method_descriptor"))(hm:MtR X id r)(ho:PE X o to)
  (hbase:attributeBase o name X.env (eval o X.env)=eval o X.env:=by rfl) (hline:(apos.endLine == cpos.line)=true:=by rfl):PE X (.Call (.Attribute o name apos) [] [] cpos) (J3 X.K T r to):=by
 intro pins s σ H Q I h;refine wpAny_Call_method0_late hbase hline (thn (ho pins s σ H _ I h) fun v s1 ⟨x,H1,I1,r1,ty,q1⟩=>?_);obtain⟨h1,h2⟩:=BB I1 r1 ty;exact⟨T,id,pa,slot,hty,h1,h2,Calls.callWith_builtin rfl (PySem.evalArgs_none (hm pins s1 σ H1 x [] v [] Q I1 r1 .nil q1))⟩
theorem Cq (pa:PlainAttrs T)(slot:Slot T name id)(hty:typeOf (.builtin id)=pure (.type "method_descriptor"))(hm:MtR X id r)(ho:PE X o to)(ha:PA X (e::es) t)
  (hbase:attributeBase o name X.env (eval o X.env)=eval o X.env:=by rfl)
  (hfew:((backTo cpos (starEach (e::es) X.env)).all (fun x=>!x.1) && (backToKw cpos (keywordEach [] X.env)).all (fun x=>x.1.isSome)
   && decide ((e::es).length+([]:List Keyword).length+(if ([]:List Keyword).isEmpty then 0 else 1)<30))=true:=by rfl)
  (hline:(apos.endLine == cpos.line)=true:=by rfl) (hs:starEach (e::es) X.env=(false,eval e X.env)::starEach es X.env:=by rfl) (hplain:(backTo cpos (starEach es X.env)).any (·.1)=false:=by rfl) :
  PE X (.Call (.Attribute o name apos) (e::es) [] cpos) (tBM X.K T r to t):=by
 intro pins s σ H Q I h;refine wpAny_Call_method_late hbase hfew hline rfl (thn (ho pins s σ H _ I h) fun v s1 ⟨x,H1,I1,r1,ty,q1⟩=>?_);obtain⟨h1,h2⟩:=BB I1 r1 ty;refine⟨T,id,pa,slot,hty,h1,h2,?_⟩;have hA:=ha cpos pins s1 σ H1 _ I1 q1;rw[hs] at hA |-
 refine Calls.callWith_builtin (by show (false || (backTo cpos (starEach es X.env)).any (·.1))=false;rw[hplain] <;> rfl) (Calls.evalArgs_plain ?_);exact thn hA fun us s2 ⟨vs,H2,I2,r2,q2⟩=>hm pins s2 σ H2 x vs v us Q I2 r1 r2 q2
end
end L2
namespace L2
def MtM (X:Cx)(id:String)(r:V->List V->Hp->VK->Prop):Prop :=
 ∀(pins:List (Addr × Obj)) (s:Shared) (σ:St) (H:Hp) (x:V) (xs:List V) (v:Value) (us:List Value) (Q:VK),Inv X pins σ H s->RelV x v->Vals xs us->r x xs H Q ->
  wpAny (model X.prog X.w) X.A (call (.builtin id) (v::us)) (EP X pins σ Q) X.xe s
theorem Vals.one:∀ {x:V}{us:List Value},Vals [x] us->∃u,us=[u]/\RelV x u
 | _,_,.cons r .nil=>⟨_,rfl,r⟩
section
variable {X:Cx}{pins:List (Addr × Obj)}{σ:St}{H:Hp}{s:Shared}{l b:Addr}{xs ys zs:List V}
theorem Inv.lset {its its':List Value}{f:Array Value->Array Value}{t':Nat}(I:Inv X pins σ H s)(hH:H l=some (.lst xs))(e:s.heap.get? l=some { cls:=.type "list",data:=.seq its.toArray n })(hf:f its.toArray=its'.toArray)(hv:Vals ys its')(hz:ys.length<=sizeLine) :
  Inv X pins σ (upd H l (.lst ys)) { s with heap:=s.heap.update l (Obj.mapSeq f),toks:=t' }:=by
 have q:=PySem.IsL.update e f;rw[hf] at q;refine I.write (x:=l) (e:=l) (by rw[hH];exact trivial) (.inl rfl) (fun b' u hb hu=>(MJ s.heap (Obj.mapSeq f) (Ne.symm hb)).trans hu) ⟨_,q⟩ ?_;exact⟨hz,its',_,hv,q⟩
theorem Inv.lnew {t':Nat}(I:Inv X pins σ H s)(hv:Vals ys its)(hz:ys.length<=sizeLine) :
  Inv X pins σ (upd H s.heap.objs.size (.lst ys)) { s with heap:=s.heap.push { cls:=.type "list",data:=.seq its.toArray },toks:=t' } :=
 I.laid (fun _ _ q=>KH _ q) (KJ _) ⟨hz,its,0,hv,KL _ rfl⟩
theorem Inv.fresh (I:Inv X pins σ H s):H s.heap.objs.size=none:=I.hok.fresh (KJ _)
theorem Inv.lstM (I:Inv X pins σ H s)(hH:H l=some (.lst xs)):xs.length<=sizeLine/\∃(its:List Value) (n:Nat),Vals xs its/\xs.length=its.length/\s.heap.get? l=some { cls:=.type "list",data:=.seq its.toArray n }:=by obtain⟨z,its,n,r,e⟩:=I.hok l _ hH;exact⟨z,its,n,r,r.length,e⟩
theorem AI {n:Nat}(h:n<=sizeLine):Builtin.List.listTooLong n=false:=by unfold Builtin.List.listTooLong;exact LG (by omega)
end
section
variable {X:Cx}
noncomputable def Dd:V->List V->Hp->VK->Prop:=fun x vs H Q=>∃l xs y,x=.ref l/\vs=[y]/\H l=some (.lst xs)/\xs.length<sizeLine/\Q .non (upd H l (.lst (xs++[y])))
theorem pD:MtM X "list.append" Dd:=by intro pins s σ H x vs v us Q I rx rv h;obtain⟨l,xs,y,rfl,rfl,hH,hz,q⟩:=h;cases rx;obtain⟨u,rfl,ru⟩:=rv.one;obtain⟨z,its,n,r,hl,e⟩:=I.lstM hH;refine call_meets F.slot_list_append ⟨_,e,rfl⟩ F.entry_list_append (F.args_list_append_2 _ _) (PySem.list_append l its.toArray n u (by rw[K3];omega)) ⟨e,?_⟩;refine⟨.non,_,I.lset (its':=its++[u]) hH e (by simp) (r.append (.cons ru .nil)) ?_,rfl,q⟩;rw[LJ,NA];omega
noncomputable def Kl:R2:=fun x y H Q=>∃l b xs zs,x=.ref l/\y=.ref b/\H l=some (.lst xs)/\H b=some (.lst zs)/\xs.length+zs.length<=sizeLine/\∀p,H p=none->Q (.ref p) (upd H p (.lst (xs++zs)))
theorem Gp:OpR X (binaryOp .Add) Kl:=by
 intro pins s σ H x y v u Q I rx ry h;obtain⟨l,b,xs,zs,rfl,rfl,hH,hB,hz,q⟩:=h;cases rx;cases ry;obtain⟨z,its,n,r,hl,e⟩:=I.lstM hH;obtain⟨z2,its2,n2,r2,hl2,e2⟩:=I.lstM hB;refine PySem.P.add_list e e2 ?_ (by rw[K3,K3];omega);have ea:its.toArray++its2.toArray=(its++its2).toArray:=by simp
 rw[ea];exact⟨.ref _,_,I.lnew (t':=s.toks) (r.append r2) (by rw[LJ];omega),rfl,q _ I.fresh⟩
end
section
variable {prog:Program}{w:World}{A:Around}{E:Value->Shared->Prop}{s:Shared}
set_option maxRecDepth 100000 in
end
section
variable {X:Cx}
end
end L2
namespace Att
open PySem PySem.W PySem.Calls
open PyProof.Rows hiding K st lo ad
theorem lM:∀(ns:List Int) (vs:List Value),WellAll P h vs (ns.map WData.int)->IntsAre vs ns:=by
 intro ns
 induction ns with
 | nil =>intro vs w;rw[L6] at w;cases w;exact .nil
 | cons n ns ih =>
  intro vs w;rw[KO] at w;cases w with
  | cons a b =>cases a;exact .cons _ _ (ih _ b)
theorem x_ {l:OpenLaw}(hn:l.most=some n)(hpre:l.row.toRowW.claim.pre args=true)(hwl:WellAll P h vals args) :
  ∃a vs ns,vals=[Value.ref a]/\args=[WData.list (ns.map WData.int)]/\h.get? a=some { cls:=.type "list",data:=.seq vs.toArray }/\IntsAre vs ns/\ns.length<=n:=by
 have hsh:WShape.hasAll [] args [.list .int]=true:=(pre_splitW hpre).1;have hc:l.pre.holds [] { args:=args }=true:=(pre_splitW hpre).2;obtain⟨d,r,rfl,h1,h2⟩:=hasAllW_cons hsh;obtain rfl:=hasAllW_nil h2;obtain⟨xs,rfl,h3⟩:=hasW_list h1;obtain⟨ns,rfl⟩:=items_int h3;have hlen:ns.length<=n:=by
  unfold OpenLaw.pre at hc;have h4:(WTm.not (.lt (.lit (.int (n:Int))) (.len (.arg 0)))).holds [] { args:=[.list (ns.map .int)] }=true:=by have h4:=(holds_andW hc).1;rw[hn] at h4;exact h4
  have h5:=condW_of h4 (w_not (w_lt w_lit (w_len_list (w_arg rfl))));rw[LA] at h5;refine NF fun q=>?_;have q':(n:Int)<((ns.length:Nat):Int):=by omega
  first
   | (rw[LF q'] at h5;exact absurd h5 (by decide))
   | (simp at h5;omega)
 cases hwl with
 | cons w1 w2 =>
  cases w2;cases w1 with
  | list ho hall=>exact⟨_,_,ns,rfl,rfl,ho,lM ns _ hall,hlen⟩
theorem yH (l:OpenLaw)(args:List WData):l.row.toRowW.claim.post args (.bool true) args=true :=
 postW_of (r:=l.row.toRowW) (X:=(true == true))
  (show WShape.has [] (.bool true) .bool=true by first|rfl|decide|simp[WShape.has,WShape.arms,WShape.armsAll])
  (show (WTm.eq .res (.lit (.bool true))).value [] { args:=args,res:=some (.bool true),after:=args }=some (.bool (true == true)) from w_eq_bool (w_res rfl) w_lit) rfl
theorem attach_call {l:OpenLaw}{YP:World->Heap->Prop}{d:DefRec}(hn:l.most=some n)(hdf:d.params.defaults=[])(call:∀(w:World) (s₀ s₁:Shared) (mg mb:Str->Option Value) (fa:Addr) (o:Obj) (pm cd doc:Value) (a:Addr) (vs:List Value) (ns:List Int),
   Ground q loose [] XP w s₀ mg mb s₁.heap->YP w s₁.heap ->
   s₁.heap.get? fa=some o->o.data=.func (docDef d.name d.params d.body d.scope pm cd doc)->s₁.heap.CodeRec cd d.name->mg d.name=some (.ref fa) ->
   s₁.heap.get? a=some { cls:=.type "list",data:=.seq vs.toArray }->IntsAre vs ns->ns.length<=n->s₁.gens=#[] ->
   codeAny (model l.prog w) callerA (.call (.ref fa) ⟨[.ref a],[]⟩) (fun r s'=>r=.ok (.ret (.bool true))/\OldK s₁.heap s'.heap/\s'.os=s₁.os/\AllBare s'.gens) s₁) :
  WalkO q loose XP YP l.row.toRowW d [] (fun f vs=>PySem.call f vs):=by
 intro w s₀ s₁ mg mb G Y fa o pm cd doc dV kV ho hd hcd hD hmg hg args vals as hpre hlay hrd hwl hlo;obtain rfl:dV=.none:=Dflts.none hD hdf;obtain rfl:kV=.none:=Dflts.noKw hD;obtain⟨a,vs,ns,rfl,rfl,hobj,hints,hlen⟩:=x_ hn hpre hwl;refine enter_call (codeAny_mono (call w s₀ s₁ mg mb fa o pm cd doc a vs ns G Y ho (fd_plain hd) hcd hmg hobj hints hlen hg) fun r s' hq=>?_);obtain⟨rfl,h2,h3,h4⟩:=hq;exact⟨.inl ⟨.bool true,.bool true,[],rfl,fun _=>rfl,.bool true,yH l _,fun _=>⟨List.Pairwise.nil,fun _ hm=>(nomatch hm)⟩⟩,h2,h3,h4⟩
section
variable {prog:Program}{w:World}{A:Around}{E:Value->Shared->Prop}{s:Shared}{K:Frag}
end
end Att
namespace L2
theorem pJ:∀ {vs:List Value}{ns:List Int},IntsAre vs ns->Vals (ns.map V.int) vs
 | _,_,.nil=>.nil
 | _,_,.cons n t h=>.cons ⟨t,rfl⟩ (pJ h)
end L2
namespace L2
end L2
namespace L2
noncomputable def c_ (s:Stmt):Arguments:=match s with
 | .FunctionDef _ a _ _ _ _ _ _ _ _=>a
 | _=>{ posonlyargs:=[],args:=[],vararg:=none,kwonlyargs:=[],kw_defaults:=[],kwarg:=none,defaults:=[] }
noncomputable def ah (s:Stmt):List Stmt:=match s with
 | .FunctionDef _ _ b _ _ _ _ _ _ _=>b
 | _=>[]
noncomputable def af (s:Stmt):Scope:=match s with
 | .FunctionDef _ _ _ _ _ _ sc _ _ _=>sc
 | _=>{ kind:=.function,names:=[],isGenerator:=false,isCoroutine:=false }
noncomputable abbrev CX0:CXT:=fun _ _ _ _ _ _=>False
noncomputable abbrev E0:XK:=fun _ _ _=>False
theorem EB:rC CX0 X E0:=fun _ _ _ _ _ _ _ h=>h.elim
structure Fun (K:W.Frag)(x qual:Str)(st:Stmt)(f:Addr)(fd:FuncData):Prop where
 ex:∃(oc:Value) (od:Option Addr) (kV doc pm:Value) (an:Option Addr) (cdv ct:Value) (osl:Array (Option Value)),
  fd=W.fnOf x qual (c_ st) (ah st) (af st) .none kV doc pm an cdv ct/\K.lookup f=some ⟨oc,od,.func fd,osl⟩/\W.codeIn K cdv qual=true
 kp:W.keepIn K (.ref f)=true
section
variable {P:Program}{w:World}{K:W.Frag}{mg:Str->Option Value}{base:Heap}
theorem Fun.ok (F:Fun K x qual st f fd)(S:aq N ps (af st))(len:∀vs H Q E,sp vs H Q E->vs.length=ps.length)(hbody:∀(cdv:Value) (A:Around) (outer:List Env) (s:Shared) (H:Hp) (vs:List V) (Q:VK) (E:XK),Room k (A.deeper (envOfC qual (af st) s.heap.objs.size f cdv))->sp vs H Q E ->
   ∃t,PSs (jZ CX0 P w K mg base N qual (af st) f cdv A outer s H E).nox (ah st) t/\t { nx:=fun _ H'=>Q .non H',rt:=Q } (start N vs) H):oo P w K mg base CX0 (k+1) f fd ps sp:=by
 obtain⟨oc,od,kV,doc,pm,an,cdv,ct,osl,rfl,lk,hcd⟩:=F.ex;refine Jq lk hcd S len fun A outer s H vs Q E hr hsp=>?_;obtain⟨t,h,q⟩:=hbody cdv A outer s H vs Q E hr hsp;exact⟨t,h.nox,q⟩
theorem Fun.binds {ps:List Str}(F:Fun K x qual st f fd)(h:∀(kV doc pm:Value) (an:Option Addr) (cdv ct:Value) (us:List Value),us.length=ps.length->bindArgs (W.fnOf x qual (c_ st) (ah st) (af st) .none kV doc pm an cdv ct) ⟨us,[]⟩=pure (ps.zip us)):Binds K fd ps []:=by
 obtain⟨oc,od,kV,doc,pm,an,cdv,ct,osl,rfl,lk,hcd⟩:=F.ex;exact .all (h kV doc pm an cdv ct)
theorem Br {x qual:Str}{st:Stmt}{an:Option Addr}{kV doc pm cdv ct:Value}(l:K.lookup f=some ⟨oc,od,.func (W.fnOf x qual (c_ st) (ah st) (af st) .none kV doc pm an cdv ct),osl⟩)(c:W.codeIn K cdv qual=true)(k:W.keepIn K (.ref f)=true):Fun K x qual st f (W.fnOf x qual (c_ st) (ah st) (af st) .none kV doc pm an cdv ct):=⟨⟨oc,od,kV,doc,pm,an,cdv,ct,osl,rfl,l,c⟩,k⟩
end
theorem xK {n:Nat}(h:n<=1000):n<sizeLine:=MS h (by decide)
section
variable {X:Cx}
end
theorem JZ {A B:Prop}(h:A):if true=true then A else B:=by rw[K1 rfl];exact h
def Same (H H':Hp):Prop:=∀b o,H b=some o->H' b=some o
theorem Same.seq (e:Same H H')(h:SqL K H a xs):SqL K H' a xs:=by
 rcases h with (h|⟨o,h⟩)|h
 ·exact .inl (.inl (e _ _ h))
 ·exact .inl (.inr ⟨o,e _ _ h⟩)
 ·exact .inr h
end L2
namespace HX
open L2
section
variable {X:Cx}{a b c:Expr}{ta tb tc:TE}{pos:Pos}
def CBig (j:Int):Prop:=0<j/\j.natAbs.log2<9000
def CMB (i j:Int):Prop:=i.natAbs<2 ^ 20000/\j.natAbs<2 ^ 20000\/(-(2 ^ 64)<i/\i<2 ^ 64)\/(-(2 ^ 64)<j/\j<2 ^ 64)
theorem wb {i:Int}(h:i.natAbs<2 ^ n):Builtin.Int.intBits i<=n:=by
 unfold Builtin.Int.intBits;split
 ·exact LS _
 ·rename_i hz;have h0:i.natAbs≠0:=by
   intro z;apply hz;have:i=0:=by omega
   simp[this]
  have:i.natAbs.log2<n:=(OL h0).mpr h;omega
theorem CMB.ok (h:CMB i j):IntMulOk i j:=by
 rcases h with⟨h1,h2⟩|⟨h1,h2⟩|⟨h1,h2⟩
 ·exact IntMulOk.of_le (wb h1) (wb h2) (by decide)
 ·exact .of_left (intBits_le_64 h1 h2)
 ·exact .of_right (intBits_le_64 h1 h2)
theorem CBig.of {j:Int}(h:0<j)(h2:j<2 ^ 8999):CBig j:=by
 refine⟨h,?_⟩;have h0:j.natAbs≠0:=by omega
 have:j.natAbs<2 ^ 8999:=by
  have e:((2:Int) ^ 8999)=((2 ^ 8999:Nat):Int):=by rw[OD];rfl
  rw[e] at h2;generalize (2:Nat) ^ 8999=z at h2 |-
  omega
 have:=(OL h0).mpr this;omega
theorem Dv:OpR X (binaryOp .Mult) (rI CMB fun i j=>.int (i*j)):=opI fun _ _ _ _ _ _ _ hc q=>mul_int q hc.ok
theorem A0:OpR X (binaryOp .FloorDiv) (rI (fun _ j=>CBig j) fun i j=>.int (i/j)):=opI fun i j _ _ _ _ _ hc q=>by refine floordiv_int (by have:=hc.1;omega) ?_ (.inl (PyProof.noPylong_of_log2 hc.2));rw[Int.fdiv_eq_ediv_of_nonneg _ (OR hc.1)];exact q
theorem qh:dj X (.builtin "divmod") (fun xs H Q=>∃i j,xs=[.int i,.int j]/\CBig j/\∀p,H p=none->Q (.ref p) (upd H p (.tup [.int (i/j),.int (i % j)]))):=by intro pins s σ H xs us Q I r h;obtain⟨i,j,rfl,hc,q⟩:=h;obtain⟨u,v,rfl,⟨t,rfl⟩,⟨t',rfl⟩⟩:=ug r;refine divmod_int (by have:=hc.1;omega) ?_ (.inl (PyProof.noPylong_of_log2 hc.2));rw[Int.fdiv_eq_ediv_of_nonneg _ (OR hc.1),Int.fmod_eq_emod_of_nonneg _ (OR hc.1)];have hf:H s.heap.objs.size=none:=I.hok.fresh (KJ _);refine⟨.ref s.heap.objs.size,upd H s.heap.objs.size (.tup [.int (i/j),.int (i % j)]),I.laid (t':=s.toks+1+1) (fun b u e=>KH _ e) (KJ _) ?_,rfl,q _ hf⟩;exact⟨by show 2<=sizeLine;decide,[_,_],.cons ⟨_,rfl⟩ (.cons ⟨_,rfl⟩ .nil),⟨_,KL _ rfl,rfl,_,rfl⟩⟩
noncomputable def aH (c n:String):Bool:=c == n || (n == "bool" && c == "int")
noncomputable def IP (n c:String):Option Bool:=if (Value.type n == Value.type c)=true then some true else if W.kitMeta c=true then (fastBuiltinMro n).map (·.contains (.type c)) else none
theorem Dp (K:W.Frag)(n c:String):W.kitOne K (.type n) (.type c)=IP n c:=rfl
theorem zP:∀c∈["int","bool","str","tuple","list","dict"],∀n∈["NoneType","bool","int","str","list","tuple","dict"],IP n c=some (aH c n):=by decide +kernel
theorem B6 (K:W.Frag):∀c∈["int","bool","str","tuple","list","dict"],∀n∈["NoneType","bool","int","str","list","tuple","dict"],W.kitOne K (.type n) (.type c)=some (aH c n):=by intro c hc n hn;rw[Dp];exact zP c hc n hn
end
end HX
namespace HX
open L2
theorem Dg {σ:L2.St}(I:Inv X pins σ H s):sysModules<s.heap.objs.size :=
 MX (by decide) (show mainGlobals<s.heap.objs.size from (I.mod.glob.keeps I.bk).lt)
noncomputable def GD:TE:=fun _ H Q=>∀p,H p=none->Q (.ref p) (upd H p (.dK []))
theorem Ae:PE X (.Dict [] [] pos) GD:=fun pins s σ H Q I h=>by refine wpAny_Dict_empty ⟨.ref s.heap.objs.size,_,I.laid (a:=s.heap.objs.size) (o:=.dK []) (t':=s.toks) (fun _ _ q=>KH _ q) (KJ _) ?_,rfl,h _ (I.hok.fresh (KJ _))⟩;exact⟨LS _,beq_eq_false_iff_ne.mpr (Ne.symm (K0 (Dg I))),[],.nil,Heap.DictOf.new _⟩
end HX
namespace HX
open L2
noncomputable abbrev D:=PyData
mutual
noncomputable def Den (K:W.Frag)(H:Hp):D->V->Prop
 | .none,v=>v=.non
 | .bool b,v=>v=.bl b
 | .int i,v=>v=.int i
 | .str x,v=>v=.str x
 | .tuple ds,v=>∃a xs,v=.ref a/\SqT K H a xs/\Dens K H ds xs
 | .list ds,v=>∃a xs,v=.ref a/\SqL K H a xs/\Dens K H ds xs
 | .dict _,_=>False
noncomputable def Dens (K:W.Frag)(H:Hp):List D->List V->Prop
 | [],xs=>xs=[]
 | d::ds,xs=>∃x r,xs=x::r/\Den K H d x/\Dens K H ds r
end
section
variable {K:W.Frag}{H H':Hp}{v:V}{xs:List V}
theorem den_int:Den K H (.int i) v↔v=.int i:=by unfold Den;exact OW
theorem den_bl:Den K H (.bool i) v↔v=.bl i:=by unfold Den;exact OW
theorem den_str:Den K H (.str i) v↔v=.str i:=by unfold Den;exact OW
theorem den_non:Den K H .none v↔v=.non:=by unfold Den;exact OW
theorem den_tup {ds:List D}:Den K H (.tuple ds) v↔∃a xs,v=.ref a/\SqT K H a xs/\Dens K H ds xs:=by rw[Den]
theorem den_lst {ds:List D}:Den K H (.list ds) v↔∃a xs,v=.ref a/\SqL K H a xs/\Dens K H ds xs:=by rw[Den]
theorem sR {ds:List (D × D)}:Den K H (.dict ds) v↔False:=by rw[Den]
theorem dens_nil:Dens K H [] xs↔xs=[]:=by unfold Dens;exact OW
theorem kj {d:D}{ds:List D}:Dens K H (d::ds) xs↔∃x r,xs=x::r/\Den K H d x/\Dens K H ds r:=by rw[Dens]
theorem dens_cons' {d:D}{ds:List D}{x:V}:Dens K H (d::ds) (x::xs)↔Den K H d x/\Dens K H ds xs:=by
 rw[kj];constructor
 ·rintro⟨_,_,e,h1,h2⟩;cases e;exact⟨h1,h2⟩
 ·rintro⟨h1,h2⟩;exact⟨_,_,rfl,h1,h2⟩
theorem Bk (e:Same H H')(h:SqT K H a xs):SqT K H' a xs:=by
 rcases h with (h|⟨o,h⟩)|h
 ·exact .inl (.inl (e _ _ h))
 ·exact .inl (.inr ⟨o,e _ _ h⟩)
 ·exact .inr h
end
mutual
theorem Den.mono (e:Same H H'):∀ {d:D}{v:V},Den K H d v->Den K H' d v
 | .none,v,h=>by rw[den_non] at h |-;exact h
 | .bool b,v,h=>by rw[den_bl] at h |-;exact h
 | .int b,v,h=>by rw[den_int] at h |-;exact h
 | .str b,v,h=>by rw[den_str] at h |-;exact h
 | .dict b,v,h=>by rw[sR] at h;exact h.elim
 | .tuple ds,v,h=>by
  rw[den_tup] at h |-
  obtain⟨a,xs,h1,h2,h3⟩:=h;exact⟨a,xs,h1,Bk e h2,Dens.mono e h3⟩
 | .list ds,v,h=>by
  rw[den_lst] at h |-
  obtain⟨a,xs,h1,h2,h3⟩:=h;exact⟨a,xs,h1,Same.seq e h2,Dens.mono e h3⟩
theorem Dens.mono (e:Same H H'):∀ {ds:List D}{xs:List V},Dens K H ds xs->Dens K H' ds xs
 | [],xs,h=>by rw[dens_nil] at h |-;exact h
 | d::ds,xs,h=>by
  rw[kj] at h |-
  obtain⟨x,r,h1,h2,h3⟩:=h;exact⟨x,r,h1,Den.mono e h2,Dens.mono e h3⟩
end
section
variable {X:Cx}{pins:List (Addr × Obj)}{σ:L2.St}{H:Hp}{s:Shared}
mutual
theorem Den.reads (I:Inv X pins σ H s):∀(d:D) (v:V) (u:Value),Den X.K H d v->RelV v u->∃as,Reads s.heap u d as
 | .none,v,u,h,r=>by rw[den_non] at h;subst h;cases r;exact⟨_,.none⟩
 | .bool b,v,u,h,r=>by rw[den_bl] at h;subst h;cases r;exact⟨_,.bool b⟩
 | .int b,v,u,h,r=>by rw[den_int] at h;subst h;obtain⟨t,rfl⟩:=r;exact⟨_,.int b t⟩
 | .str b,v,u,h,r=>by rw[den_str] at h;subst h;obtain⟨t,rfl⟩:=r;exact⟨_,.str b t⟩
 | .dict b,v,u,h,r=>by rw[sR] at h;exact h.elim
 | .tuple ds,v,u,h,r=>by rw[den_tup] at h;obtain⟨a,xs,rfl,h2,h3⟩:=h;cases r;obtain⟨its,rv,⟨o,ho,hc,n,hd⟩,_⟩:=I.tuple h2;obtain⟨as,hr⟩:=Dens.reads I ds xs its h3 rv;exact⟨as,.tuple ho hc hd (by simpa using hr)⟩
 | .list ds,v,u,h,r=>by rw[den_lst] at h;obtain⟨a,xs,rfl,h2,h3⟩:=h;cases r;obtain⟨its,rv,p,_⟩:=I.list h2;obtain⟨o,ho,hc,n,hd⟩:=p.isList;obtain⟨as,hr⟩:=Dens.reads I ds xs its h3 rv;exact⟨_,.list ho hc hd (by simpa using hr)⟩
theorem Dens.reads (I:Inv X pins σ H s):∀(ds:List D) (xs:List V) (us:List Value),Dens X.K H ds xs->Vals xs us->∃as,ReadsAll s.heap us ds as
 | [],xs,us,h,r=>by rw[dens_nil] at h;subst h;cases r;exact⟨_,.nil⟩
 | d::ds,xs,us,h,r=>by
  rw[kj] at h;obtain⟨x,q,rfl,h2,h3⟩:=h;cases r with
  | cons r1 r2 =>obtain⟨as,h4⟩:=Den.reads I d x _ h2 r1;obtain⟨bs,h5⟩:=Dens.reads I ds q _ h3 r2;exact⟨_,.cons h4 h5⟩
end
end
section
variable {X:Cx}
noncomputable def Ky (K:W.Frag):R2:=fun x y H Q=>∃d e,Den K H d x/\Den K H e y/\SeqAt.shaped d=true/\SeqAt.shaped e=true/\Q (.bl (PyData.eqv d e)) H
noncomputable def J6 (K:W.Frag):R2:=fun x y H Q=>∃d e,Den K H d x/\Den K H e y/\SeqAt.shaped d=true/\SeqAt.shaped e=true/\Q (.bl (!PyData.eqv d e)) H
theorem Ga (hu:X.A.units+64<cLine):OpR X (compareOp .Eq) (Ky X.K):=by intro pins s σ H x y v u Q I rx ry h;obtain⟨d,e,h1,h2,h3,h4,q⟩:=h;obtain⟨as,ra⟩:=Den.reads I d x v h1 rx;obtain⟨bs,rb⟩:=Den.reads I e y u h2 ry;exact eq_dataH ra rb h3 h4 hu ⟨.bl _,H,I,rfl,q⟩
theorem F9 (hu:X.A.units+64<cLine):OpR X (compareOp .NotEq) (J6 X.K):=by intro pins s σ H x y v u Q I rx ry h;obtain⟨d,e,h1,h2,h3,h4,q⟩:=h;obtain⟨as,ra⟩:=Den.reads I d x v h1 rx;obtain⟨bs,rb⟩:=Den.reads I e y u h2 ry;exact ne_dataH ra rb h3 h4 hu ⟨.bl _,H,I,rfl,q⟩
structure Has (P:Program)(w:World)(K:W.Frag)(mg:Str->Option Value)(base:Heap)(k:Nat)(x:Str)(ps:List Str)(sp:Sp):Prop where
 ex:∃(f:Addr) (fd:FuncData),oo P w K mg base CX0 k f fd ps sp/\mg x=some (.ref f)/\W.keepIn K (.ref f)=true/\Binds K fd ps []
structure At (K:W.Frag)(mg:Str->Option Value)(x:Str)(st:Stmt)(ps:List Str):Prop where
 ex:∃(f:Addr) (fd:FuncData),Fun K x x st f fd/\mg x=some (.ref f)/\Binds K fd ps []
theorem At.mk' {K:W.Frag}{ps:List Str}{an:Option Addr}{kV doc pm cdv ct:Value}(X:K.In h)(G:h.Ns mainGlobals mg)(hb:∀(kV doc pm:Value) (an:Option Addr) (cdv ct:Value) (us:List Value),us.length=ps.length->bindArgs (W.fnOf x x (c_ st) (ah st) (af st) .none kV doc pm an cdv ct) ⟨us,[]⟩=pure (ps.zip us))(a:W.nsIn K mainGlobals x=some (some (.ref f)))(l:K.lookup f=some ⟨oc,od,.func (W.fnOf x x (c_ st) (ah st) (af st) .none kV doc pm an cdv ct),osl⟩)(c:W.codeIn K cdv x=true)(k:W.keepIn K (.ref f)=true):At K mg x st ps:=by
 have F:=Br (st:=st) l c k;exact⟨f,_,F,W.mg_of X G a,F.binds hb⟩
theorem At.ok (F:At K mg x st ps)(S:aq N ps (af st))(len:∀vs H Q E,sp vs H Q E->vs.length=ps.length)(hbody:∀(f:Addr) (cdv:Value) (A:Around) (outer:List Env) (s:Shared) (H:Hp) (vs:List V) (Q:VK) (E:XK),Room k (A.deeper (envOfC x (af st) s.heap.objs.size f cdv))->sp vs H Q E ->
   ∃t,PSs (jZ CX0 P w K mg base N x (af st) f cdv A outer s H E).nox (ah st) t/\t { nx:=fun _ H'=>Q .non H',rt:=Q } (start N vs) H):Has P w K mg base (k+1) x ps sp:=by
 obtain⟨f,fd,Ff,m,b⟩:=F.ex;exact⟨f,fd,Ff.ok S len (fun cdv A outer s H vs Q E hr h=>hbody f cdv A outer s H vs Q E hr h),m,Ff.kp,b⟩
theorem FX {k:Nat}{x:Str}{ps:List Str}{sp:Sp}{p pos:Pos}{e:Expr}{es:List Expr}{t:TA}(F:Has X.prog X.w X.K X.mg X.base k x ps sp)(hr:Room k X.A)(ha:PA X (e::es) t)
  (hg:Gl X x:=by rfl) (hdb:(x == ("__debug__":Str))=false:=by decide) (he:starEach (e::es) X.env=(false,eval e X.env)::starEach es X.env:=by rfl) (hpl:(backTo pos (starEach es X.env)).any (·.1)=false:=by rfl) :
  PE X (.Call (.Name x p) (e::es) [] pos) (pP sp [] E0 t):=by
 obtain⟨f,fd,F,m,kp,b⟩:=F.ex;exact CO F hr hg m kp b .nil EB ha hdb he hpl
theorem DB {k:Nat}{x:Str}{ps:List Str}{sp:Sp}{p pos:Pos}(F:Has X.prog X.w X.K X.mg X.base k x ps sp)(hr:Room k X.A)
  (hg:Gl X x:=by rfl) (hdb:(x == ("__debug__":Str))=false:=by decide) :
  PE X (.Call (.Name x p) [] [] pos) (pP sp [] E0 tU):=by
 obtain⟨f,fd,F,m,kp,b⟩:=F.ex;exact CC F hr hg m kp b .nil EB hdb
end
end HX
namespace HX
open L2
noncomputable def aj:Expr->Bool
 | .Starred ..=>false
 | _=>true
theorem bO {es:List Expr}(h:aj e=true):starEach (e::es) env=(false,eval e env)::starEach es env:=by cases e <;> first|rfl|cases h
theorem sd:∀ {es:List Expr},es.all aj=true->(starEach es env).any (·.1)=false
 | [],_=>rfl
 | e::es,h=>by rw[MD,KM] at h;rw[bO h.1,L9,sd h.2];rfl
noncomputable def g9:Expr->Bool
 | .Slice ..=>false
 | _=>true
theorem Jy (h:g9 b=true):wB b:=fun o i=>by cases b <;> first|rfl|cases h
section
variable {X:Cx}
theorem pac (ha:PE X e te)(hr:PA X es t)(h:aj e=true:=by rfl):PA X (e::es) (lg te t):=Dj ha hr (bO h)
theorem z_ (hr:IxR X r)(ha:PE X a ta)(hb:PE X b tb)(hs:g9 b=true:=by rfl):PE X (.Subscript a b pos) (tOp r ta tb):=HK hr ha hb (Jy hs)
theorem mB {es:List Expr}(h:es.all aj=true):(backTo pos (starEach es env)).any (·.1)=false:=by have:=sd (env:=env) h;unfold backTo;rw[List.any_map];exact this
theorem CM {k:Nat}{x:Str}{ps:List Str}{sp:Sp}{p pos:Pos}{e:Expr}{es:List Expr}{t:TA}(F:Has X.prog X.w X.K X.mg X.base k x ps sp)(hr:Room k X.A)(ha:PA X (e::es) t)
  (hg:Gl X x:=by rfl) (hdb:(x == ("__debug__":Str))=false:=by decide) (he:aj e=true:=by rfl) (hpl:es.all aj=true:=by rfl) :
  PE X (.Call (.Name x p) (e::es) [] pos) (pP sp [] E0 t):=FX F hr ha hg hdb (bO he) (mB hpl)
theorem j8 {id:String}{r:List V->Hp->VK->Prop}{x:Str}{p pos:Pos}{e:Expr}{es:List Expr}{t:TA}(hc:dj X (.builtin id) r)(hg:Gl X x)(hm:X.mg x=none)(hv:bootBuiltins x=some (.builtin id))(ha:PA X (e::es) t)(hn:x≠"__name__":=by decide)(hdb:(x == ("__debug__":Str))=false:=by decide)
  (he:aj e=true:=by rfl) (hpl:es.all aj=true:=by rfl):PE X (.Call (.Name x p) (e::es) [] pos) (tCB r t):=zT hc hg hm hv ha hn hdb (bO he) (mB hpl)
theorem i5 {T:String}{r:List V->Hp->VK->Prop}{x:Str}{p pos:Pos}{e:Expr}{es:List Expr}{t:TA}(hc:dj X (.type T) r)(hg:Gl X x)(hm:X.mg x=none)(hv:bootBuiltins x=some (.type T))(ha:PA X (e::es) t)(hn:x≠"__name__":=by decide)(hdb:(x == ("__debug__":Str))=false:=by decide)
  (he:aj e=true:=by rfl) (hpl:es.all aj=true:=by rfl):PE X (.Call (.Name x p) (e::es) [] pos) (tCB r t):=ym hc hg hm hv ha hn hdb (bO he) (mB hpl)
end
end HX
namespace L2
section
variable {κ:Type} [DecidableEq κ]
noncomputable def iS (kvs:List (κ × V))(k:κ):Option V:=(kvs.find? fun kv=>decide (kv.1=k)).map (·.2)
noncomputable def ja (kvs:List (κ × V))(k:κ)(v:V):List (κ × V) :=
 if (kvs.any fun kv=>decide (kv.1=k))=true then kvs.map (fun kv=>if kv.1=k then (kv.1,v) else kv) else kvs++[(k,v)]
theorem jT {p:κ × V}{r:List (κ × V)}{k:κ}(e:p.1=k):iS (p::r) k=some p.2:=by simp[iS,List.find?_cons,e]
theorem jH {p:κ × V}{r:List (κ × V)}{k:κ}(e:¬p.1=k):iS (p::r) k=iS r k:=by simp[iS,List.find?_cons,e]
theorem t7 (k:κ):∀kvs:List (κ × V),(kvs.any fun kv=>decide (kv.1=k))=(iS kvs k).isSome
 | []=>rfl
 | p::r=>by
  rw[L9];by_cases e:p.1=k
  ·simp only[jT e,decide_eq_true e,Bool.true_or,Option.isSome_some]
  ·rw[jH e,LG e,Bool.false_or];exact t7 k r
theorem kU (kvs:List (κ × V))(k:κ)(v:V):(ja kvs k v).length<=kvs.length+1:=by
 unfold ja;split
 ·rw[LA];omega
 ·rw[LJ,LZ,List.length_nil];omega
theorem RelO.isSome_eq (r:RelO o u):o.isSome=u.isSome:=by
 cases o with
 | none=>cases u with
  | none=>rfl
  | some _=>exact(show False from r).elim
 | some _=>cases u with
  | none=>exact(show False from r).elim
  | some _=>rfl
theorem KV.val (r:KV kvs vs)(k:κ):RelO (iS kvs k) (valueAt vs k):=by
 unfold KV at r
 induction r with
 | nil=>exact True.intro
 | @cons p q ps qs h t ih =>
  obtain⟨h1,h2⟩:=h;by_cases e:p.1=k
  ·have e':q.1=k:=h1.symm.trans e;have b:valueAt (q::qs) k=some q.2:=by simp[valueAt,List.find?_cons,e']
   rw[jT e,b];exact h2
  ·have e':¬q.1=k:=fun z=>e (h1.trans z);have b:valueAt (q::qs) k=valueAt qs k:=by simp[valueAt,List.find?_cons,e']
   rw[jH e,b];exact ih
theorem KV.any (r:KV kvs vs)(k:κ):(kvs.any fun kv=>decide (kv.1=k))=vs.any fun kv=>decide (kv.1=k):=by
 unfold KV at r
 induction r with
 | nil=>rfl
 | cons h t ih=>rw[L9,L9,ih,h.1]
theorem KV.repl (r:KV kvs vs)(k:κ)(ry:RelV y u) :
  KV (kvs.map fun kv=>if kv.1=k then (kv.1,y) else kv) (vs.map fun kv=>if kv.1=k then (kv.1,u) else kv):=by
 unfold KV at r |-
 induction r with
 | nil=>exact .nil
 | @cons p q ps qs h t ih =>
  rw[KO,KO];refine .cons ?_ ih;obtain⟨h1,h2⟩:=h;by_cases e:p.1=k
  ·rw[K1 e,K1 (h1.symm.trans e)];exact⟨h1,ry⟩
  ·rw[KW e,KW (fun z=>e (h1.trans z))];exact⟨h1,h2⟩
theorem KV.put (r:KV kvs vs)(k:κ)(ry:RelV y u):KV (ja kvs k y) (stored vs k u):=by
 unfold ja stored;rw[r.any k];by_cases e:(vs.any fun kv=>decide (kv.1=k))=true
 ·rw[K1 e,K1 e];exact r.repl k ry
 ·rw[KW e,KW e];exact Paired.snoc r ⟨rfl,ry⟩
theorem KV.keys {kvs:List (κ × V)}{vs:List (κ × Value)}(r:KV kvs vs):kvs.map (·.1)=vs.map (·.1):=by
 unfold KV at r
 induction r with
 | nil=>rfl
 | cons h t ih=>rw[KO,KO,ih,h.1]
theorem KV.length {kvs:List (κ × V)}{vs:List (κ × Value)}(r:KV kvs vs):kvs.length=vs.length:=Paired.length r
end
theorem Cu (r:RelV (kV k) u):(aF P w).is k u=true:=by
 cases k with
 | inl i=>obtain⟨t,e⟩:=(show ∃t,u=Value.int i t from r);subst e;exact sT P w i t
 | inr x=>obtain⟨t,e⟩:=(show ∃t,u=Value.str x t from r);subst e;exact kQ P w x t
theorem ph:∀ {ks:List Key}{us:List Value},Vals (ks.map kV) us->ItemsAre (aF P w) ks us
 | [],_,r=>by rw[L6] at r;cases r;exact .nil
 | k::ks,_,r=>by
  rw[KO] at r;cases r with
  | cons h t=>exact .cons (Cu h) (ph t)
noncomputable abbrev KT (H:Hp):List (List Key × V)->List (List Key × Addr × Value)->Prop:=Paired fun p q=>p.1=q.1/\H q.2.1=some (.tup (p.1.map kV))/\RelV p.2 q.2.2
theorem KT.val (r:KT H kvs xs)(k:List Key):RelO (iS kvs k) ((atKey xs k).map (·.2)):=by
 induction r with
 | nil=>exact True.intro
 | @cons p q ps qs h t ih =>
  obtain⟨h1,_,h2⟩:=h;by_cases e:p.1=k
  ·have e':q.1=k:=h1.symm.trans e;have b:atKey (q::qs) k=some q.2:=by simp[atKey,List.find?_cons,e']
   rw[jT e,b];exact h2
  ·have e':¬q.1=k:=fun z=>e (h1.trans z);have b:atKey (q::qs) k=atKey qs k:=by simp[atKey,List.find?_cons,e']
   rw[jH e,b];exact ih
theorem KT.repl (r:KT H kvs xs)(k:List Key)(ry:RelV y u) :
  KT H (kvs.map fun kv=>if kv.1=k then (kv.1,y) else kv) (xs.map (putAt k u)):=by
 induction r with
 | nil=>exact .nil
 | @cons p q ps qs h t ih =>
  rw[KO,KO];refine .cons ?_ ih;obtain⟨h1,h2,h3⟩:=h;unfold putAt;by_cases e:p.1=k
  ·rw[K1 e,K1 (h1.symm.trans e)];exact⟨h1,h2,ry⟩
  ·rw[KW e,KW (fun z=>e (h1.trans z))];exact⟨h1,h2,h3⟩
theorem KT.put (r:KT H kvs xs)(k:List Key)(hb:H b=some (.tup (k.map kV)))(ry:RelV y u) :
  KT H (ja kvs k y) (storedH xs k b u):=by
 have e:(kvs.any fun kv=>decide (kv.1=k))=(atKey xs k).isSome:=by rw[t7,(r.val k).isSome_eq,Option.isSome_map]
 unfold ja storedH;rw[e];by_cases q:(atKey xs k).isSome=true
 ·rw[K1 q,K1 q];exact r.repl k ry
 ·rw[KW q,KW q];exact Paired.snoc r ⟨rfl,hb,ry⟩
theorem KT.keeps {H':Hp}(r:KT H kvs xs)(ht:∀b ys,H b=some (.tup ys)->H' b=some (.tup ys)):KT H' kvs xs :=
 Paired.mapP r fun _ _ z=>⟨z.1,ht _ _ z.2.1,z.2.2⟩
section
variable {P:Program}{w:World}{H:Hp}{h:Heap}{a:Addr}
theorem EC (ok:HOk P w H h)(e:Rd H a u):ObjOk P w H h a u:=e.ok ok
theorem se (ok:HOk P w H h)(e:Rd H a (.dK kvs)):kvs.length<=sizeLine/\(a == sysModules)=false/\∃vs,KV kvs vs/\h.DictOf (aF P w) a vs :=
 show ObjOk P w H h a (.dK kvs) from EC ok e
theorem gu (ok:HOk P w H h)(e:H a=some (.dK kvs)):kvs.length<=sizeLine/\(a == sysModules)=false/\∃vs,KV kvs vs/\h.DictOf (aF P w) a vs:=se ok (.inl e)
theorem vD {ks:List Key}(ok:HOk P w H h)(e:H a=some (.tup (ks.map kV))):(tupleKind (aF P w)).is h ks a:=by obtain⟨_,its,r,o,h1,h2,n,h3⟩:=(show ObjOk P w H h a (.tup (ks.map kV)) from ok a _ e);exact⟨o,its.toArray,n,h1,h2,h3,by simpa using ph r⟩
theorem Et (ok:HOk P w H h)(e:Rd H a (.dT kvs)):kvs.length<=sizeLine/\(a == sysModules)=false /\
  ∃xs,KT H kvs xs/\h.DictOfH (tupleKind (aF P w)) a xs:=by
 obtain⟨z,y,xs,r,o,es,ep,h1,h2,h3,h4,h5⟩:=(show ObjOk P w H h a (.dT kvs) from EC ok e);refine⟨z,y,xs,r,o,es,ep,h1,h2,h3,h4,fun x hx=>?_,h5⟩;have all:∀ {l:List (List Key × V)}{m:List (List Key × Addr × Value)},KT H l m->∀x∈m,(tupleKind (aF P w)).is h x.1 x.2.1:=by
  intro l m q
  induction q with
  | nil=>intro x hx;exact nomatch hx
  | @cons p q ps qs hq t ih =>
   intro x hx;rcases K8.mp hx with e|hx
   ·subst e;exact vD ok (by rw[<-hq.1];exact hq.2.1)
   ·exact ih x hx
 exact all r x hx
theorem Iv (ok:HOk P w H h)(e:H a=some (.dT kvs)):kvs.length<=sizeLine/\(a == sysModules)=false /\
  ∃xs,KT H kvs xs/\h.DictOfH (tupleKind (aF P w)) a xs:=Et ok (.inl e)
end
def HL (H:Hp)(a:Addr)(y:V)(r:Option V):Prop :=
 (∃kvs k,Rd H a (.dK kvs)/\y=kV k/\r=iS kvs k)\/∃kvs k b,Rd H a (.dT kvs)/\y=.ref b/\H b=some (.tup (k.map kV))/\r=iS kvs k
def DPut (H:Hp)(a:Addr)(y v:V)(H':Hp):Prop :=
 (∃kvs k,H a=some (.dK kvs)/\y=kV k/\kvs.length<sizeLine/\H'=upd H a (.dK (ja kvs k v))) \/
 ∃kvs k b,H a=some (.dT kvs)/\y=.ref b/\H b=some (.tup (k.map kV))/\kvs.length<sizeLine/\H'=upd H a (.dT (ja kvs k v))
theorem DPut.k {H:Hp}{a:Addr}{kvs:List (Key × V)}{k:Key}{v:V}(e:H a=some (.dK kvs))(hl:kvs.length<sizeLine):DPut H a (kV k) v (upd H a (.dK (ja kvs k v))):=.inl ⟨kvs,k,e,rfl,hl,rfl⟩
section
variable {X:Cx}{pins:List (Addr × Obj)}{σ:St}{H:Hp}{s:Shared}{a:Addr}{y v:V}{u r:Value}{o:Option V}{A:Around}{E:Value->Shared->Prop}
theorem Inv.big (I:Inv X pins σ H s):sysModules<s.heap.objs.size:=by have h:mainGlobals<s.heap.objs.size:=(I.mod.glob.keeps I.bk).lt;exact MX (by decide) h
theorem y9 {Q:Value->Shared->Prop}(hu:A.units+1<cLine)(I:Inv X pins σ H s)(g:HL H a y (some v))(ry:RelV y u)(h:∀w' s',Inv X pins σ H s'->RelV v w'->Q w' s') :
  wpAny (model X.prog X.w) A (getItem (.ref a) u) Q E s:=by
 rcases g with⟨kvs,k,e,ey,l⟩|⟨kvs,k,b,e,ey,eb,l⟩
 ·subst ey;obtain⟨z,hd,vs,rel,dd⟩:=se I.hok e;obtain⟨w',hw,rw'⟩:=RelO.some_of (v:=v) (o:=valueAt vs k) (by rw[l];exact rel.val k);exact wpAny_getItem_of (Cu ry) dd.mapOf hw (h w' _ (I.tok _) rw')
 ·subst ey;cases (show u=Value.ref b from ry);obtain⟨z,hd,xs,rel,dd⟩:=Et I.hok e;obtain⟨w',hw,rw'⟩:=RelO.some_of (v:=v) (o:=(atKey xs k).map (·.2)) (by rw[l];exact rel.val k);obtain⟨p,hp,hp2⟩:=LR.mp hw;refine wpAny_getItem_heap (tupleKind_room_in1 hu) (vD I.hok eb) dd hp ?_;rw[hp2];exact h w' _ (I.tok _) rw'
theorem qN {t':Nat}(I:Inv X pins σ H s)(mu:Mut (H a))(hs:Heap.SameBut a s.heap h')(he:∃q,h'.get? a=some q)(new:ObjOk X.prog X.w (upd H a ob) h' a ob) :
  Inv X pins σ (upd H a ob) { s with heap:=h',toks:=t' } :=
 I.write (x:=a) (e:=a) mu (.inl rfl) (fun b q hb z=>(hs.2 b hb).trans z) he new
theorem Ab {h':Heap}{kvs:List (Key × V)}(z:kvs.length<=sizeLine)(hd:(a == sysModules)=false)(rel:KV kvs vs)(dd:h'.DictOf (aF P w) a vs) :
  ObjOk P w H' h' a (.dK kvs):=⟨z,hd,vs,rel,dd⟩
theorem yO {Q:Unit->Shared->Prop}(hu:A.units+1<cLine)(I:Inv X pins σ H s)(g:DPut H a y v H')(ry:RelV y u)(rv:RelV v r)(h:∀s',Inv X pins σ H' s'->Q () s') :
  wpAny (model X.prog X.w) A (setItem (.ref a) u r) Q E s:=by
 rcases g with⟨kvs,k,e,ey,l,eH⟩|⟨kvs,k,b,e,ey,eb,l,eH⟩
 ·subst ey eH;obtain⟨z,hd,vs,rel,dd⟩:=gu I.hok e;have hz:vs.length<=sizeLine:=by rw[<-rel.length];exact z
  have hl:(ja kvs k v).length<=sizeLine:=by have:=kU kvs k v;omega
  refine wpAny_setItem_pairs (hsz:=hz) (Cu ry) dd fun h' dd' hs=>h _ ?_;have he:∃q,h'.get? a=some q:=let ⟨q,_,_,hq,_⟩:=dd';⟨q,hq⟩;exact qN I (by rw[e];exact True.intro) hs he (Ab hl hd (rel.put k rv) dd')
 ·subst ey eH;cases (show u=Value.ref b from ry);obtain⟨z,hd,xs,rel,dd⟩:=Iv I.hok e;have hz:xs.length<=sizeLine:=by rw[<-Paired.length rel];exact z
  have hl:(ja kvs k v).length<=sizeLine:=by have:=kU kvs k v;omega
  refine wpAny_setItem_heap (hsz:=hz) (tupleKind_room_in1 hu) (vD I.hok eb) dd fun h' dd' hs=>h _ ?_;obtain⟨q,es,ep,hq,h2,h3,h4,_,h5⟩:=dd';refine qN I (by rw[e];exact True.intro) hs ⟨q,hq⟩ ⟨hl,hd,_,(rel.put k eb rv).keeps fun c ys ec=>?_,q,es,ep,hq,h2,h3,h4,h5⟩;rw[ag (Ib ec e (fun z=>nomatch z))];exact ec
end
section
variable {X:Cx}{pins:List (Addr × Obj)}{σ:St}{H:Hp}{s:Shared}{a:Addr}{kvs:List (Key × V)}{k:Key}{u:Value}{A:Around}{E:Value->Shared->Prop}
end
section
variable {X:Cx}{pins:List (Addr × Obj)}{σ:St}{H:Hp}{s:Shared}{a:Addr}{kvs:List (Key × V)}{A:Around}{E:Value->Shared->Prop}
theorem zE {Q:Value->Shared->Prop}(I:Inv X pins σ H s)(e:Rd H a (.dK kvs))(h:∀p s',H p=none->Inv X pins σ (upd H p (.dK kvs)) s'->Q (.ref p) s'):wpAny (model X.prog X.w) A (call (.type "dict") [.ref a]) Q E s:=by obtain⟨z,hd,vs,rel,dd⟩:=se I.hok e;refine kt_call_dict hd dd (by rw[<-rel.length];exact z) fun h' dd' hs=>?_;refine h _ _ (I.hok.fresh (KJ _)) (I.laid (a:=s.heap.objs.size) (o:=.dK kvs) (t':=s.toks) (fun b q hq=>?_) (KJ _) (Ab z (beq_eq_false_iff_ne.mpr (Ne.symm (K0 I.big))) rel dd'));exact(hs.2 b (K0 (KS hq))).trans (KH _ hq)
end
section
variable {X:Cx}{pins:List (Addr × Obj)}{σ:St}{H:Hp}{s:Shared}{a:Addr}{y d:V}{u r:Value}{o:Option V}{A:Around}{E:Value->Shared->Prop}
end
end L2
namespace FW
open L2
def qE (xs:Array Nat):Prop:=∀i j,i<j->j<xs.size->xs.getD i 0<xs.getD j 0
theorem Co {j:Nat}(h:qE xs):∀(fuel lo hi:Nat),hi-lo<=fuel->lo<=hi->hi<=xs.size->(∀i,i<lo->xs.getD i 0<j)->(∀i,hi<=i->i<xs.size->j<=xs.getD i 0) ->
  SetTable.below.go xs j fuel lo hi<=xs.size/\(∀i,i<SetTable.below.go xs j fuel lo hi->xs.getD i 0<j)/\∀i,SetTable.below.go xs j fuel lo hi<=i->i<xs.size->j<=xs.getD i 0:=by
 intro fuel
 induction fuel with
 | zero =>
  intro lo hi h1 h2 h3 h4 h5;have:lo=hi:=by omega
  subst this;rw[SetTable.below.go];exact⟨h3,h4,h5⟩
 | succ n ih =>
  intro lo hi h1 h2 h3 h4 h5;rw[SetTable.below.go];by_cases c:lo<hi
  ·rw[K1 c];have ml:(lo+hi)/2<xs.size:=by omega
   have e:xs.getD ((lo+hi)/2) j=xs.getD ((lo+hi)/2) 0:=by simp[Array.getD,ml]
   dsimp only;rw[e];have up:∀a b,a<=b->b<xs.size->xs.getD a 0<=xs.getD b 0:=fun a b h1 h2=>by
    by_cases q:a=b
    ·rw[q];exact KJ _
    ·exact L0 (h a b (by omega) h2)
   by_cases d:xs.getD ((lo+hi)/2) 0<j
   ·rw[K1 d];exact ih _ _ (by omega) (by omega) h3 (fun i hi'=>by have:=up i ((lo+hi)/2) (by omega) ml;omega) h5
   ·rw[KW d];exact ih _ _ (by omega) (by omega) (by omega) h4 fun i h6 h7=>by have:=up ((lo+hi)/2) i h6 h7;omega
  ·rw[KW c];have:lo=hi:=by omega
   subst this;exact⟨h3,h4,h5⟩
theorem fY (h:qE xs):SetTable.below xs j<=xs.size/\(∀i,i<SetTable.below xs j->xs.getD i 0<j)/\∀i,SetTable.below xs j<=i->i<xs.size->j<=xs.getD i 0 :=
 Co h xs.size 0 xs.size (by omega) (LS _) (KJ _) (fun i hi=>absurd hi (MW _)) fun i h1 h2=>by omega
theorem Av (h:qE xs){i:Nat}(hi:i<xs.size):SetTable.below xs (xs.getD i 0)=i/\SetTable.below xs (xs.getD i 0+1)=i+1:=by
 obtain⟨a1,a2,a3⟩:=fY (j:=xs.getD i 0) h;obtain⟨b1,b2,b3⟩:=fY (j:=xs.getD i 0+1) h;constructor
 ·refine Nat.le_antisymm (NF fun z=>?_) (NF fun z=>?_)
  ·have:=a2 i z;omega
  ·have:=a3 _ (KJ _) (by omega);have:=h _ _ z hi;omega
 ·refine Nat.le_antisymm (NF fun z=>?_) (NF fun z=>?_)
  ·have p:=b2 (i+1) z;have:=h i (i+1) (by omega) (by omega);omega
  ·have:=b3 i (by omega) hi;omega
theorem iF {xs:Array Nat}{p:Nat}(hp:p<=xs.size)(i:Nat):(SetTable.insertAt xs p x).getD i 0=if i<p then xs.getD i 0 else if i=p then x else xs.getD (i-1) 0:=by
 have e:=SetTable.toList_insertAt xs p x;have g:∀(ys:Array Nat),ys.getD i 0=ys.toList.getD i 0:=fun ys=>by simp[Array.getD,List.getD_eq_getElem?_getD];split <;> simp_all
 have g2:∀k,xs.getD k 0=xs.toList.getD k 0:=fun k=>by simp[Array.getD,List.getD_eq_getElem?_getD];split <;> simp_all
 rw[g,e,g2,g2];have lp:(xs.toList.take p).length=p:=by rw[MI,LI];omega
 by_cases c:i<p
 ·rw[K1 c];simp only[List.getD_eq_getElem?_getD];rw[K9 (by omega),MZ c]
 ·rw[KW c];simp only[List.getD_eq_getElem?_getD];rw[LH (by omega),lp];by_cases d:i=p
  ·rw[K1 d,d,OS];rfl
  ·rw[KW d];obtain⟨k,hk⟩:∃k,i-p=k+1:=⟨i-p-1,by omega⟩;rw[hk,List.getElem?_cons_succ,List.getElem?_drop];congr 2;omega
theorem oh {xs:Array Nat}{p:Nat}(hp:p<=xs.size):(SetTable.insertAt xs p x).size=xs.size+1:=by have e:=LP List.length (SetTable.toList_insertAt xs p x);rw[LI] at e;rw[e];simp;omega
def DQ (t:SetTable)(j:Nat):Prop:=t.place[SetTable.below t.place j]?≠some j
theorem Dt {t:SetTable}(h:qE t.place)(f:DQ t j):qE (t.put j).1.place:=by
 obtain⟨a1,a2,a3⟩:=fY (j:=j) h;show qE (SetTable.insertAt t.place (SetTable.below t.place j) j);have ne:∀i,SetTable.below t.place j<=i->i<t.place.size->j<t.place.getD i 0:=fun i h1 h2=>by
  have g1:=a3 i h1 h2;refine Nat.lt_of_le_of_ne g1 fun e=>?_;have g2:=a3 _ (KJ _) (by omega);have e2:t.place.getD (SetTable.below t.place j) 0=j:=by
   by_cases q:SetTable.below t.place j=i
   ·rw[q];exact e.symm
   ·have:=h _ _ (show SetTable.below t.place j<i by omega) h2;omega
  have lt:SetTable.below t.place j<t.place.size:=by omega
  have e3:t.place[SetTable.below t.place j]?=some (t.place.getD (SetTable.below t.place j) 0):=by simp[Array.getD,lt]
  exact f (by rw[e3,e2])
 intro i k ik ks;rw[oh a1] at ks;rw[iF a1,iF a1];by_cases c1:i<SetTable.below t.place j
 ·rw[K1 c1];by_cases c2:k<SetTable.below t.place j
  ·rw[K1 c2];exact h i k ik (by omega)
  ·rw[KW c2];by_cases c3:k=SetTable.below t.place j
   ·rw[K1 c3];exact a2 i c1
   ·rw[KW c3];exact h i (k-1) (by omega) (by omega)
 ·rw[KW c1,KW (show ¬k<SetTable.below t.place j by omega),KW (show ¬k=SetTable.below t.place j by omega)];by_cases c3:i=SetTable.below t.place j
  ·rw[K1 c3];exact ne (k-1) (by omega) (by omega)
  ·rw[KW c3];exact h (i-1) (k-1) (by omega) (by omega)
theorem pN {t:SetTable}(h:t.slot j=.empty\/t.slot j=.dummy):DQ t j:=fun e=>by
 have:t.slot j=.live (SetTable.below t.place j):=by unfold SetTable.slot;dsimp only;rw[e];simp
 rw[this] at h;rcases h with h|h <;> cases h
theorem u3 {hashAt:Nat->Int}:∀(fuel:Nat) (p:SetTable.Probe) {j:Nat}{dm:Option Nat},(∀d,p.dummy=some d->DQ t d)->SetTable.probe.go t hashAt h fuel p=some (.empty j dm)->DQ t (dm.getD j):=by
 intro fuel
 induction fuel with
 | zero=>intro p j dm hd e;rw[SetTable.probe.go] at e;cases e
 | succ n ih =>
  intro p j dm hd e;rw[SetTable.probe.go] at e;cases c:t.slot p.j with
  | empty =>
   rw[c] at e;cases e;cases q:p.dummy with
   | none=>exact pN (.inl c)
   | some d=>exact hd d q
  | dummy =>
   rw[c] at e;refine ih _ (fun d q=>?_) e;have:(t.advance { p with dummy:=some p.j }).dummy=some p.j:=by unfold SetTable.advance;dsimp only;split <;> rfl
   rw[this] at q;cases q;exact pN (.inr c)
  | live i =>
   rw[c] at e;dsimp only at e;split at e
   ·cases e
   ·refine ih _ (fun d q=>?_) e;have:(t.advance p).dummy=p.dummy:=by unfold SetTable.advance;split <;> rfl
    rw[this] at q;exact hd d q
theorem yQ (n:Nat):qE (Array.range n):=fun i j ij jn=>by
 rw[Array.size_range] at jn;have h1:i<n:=by omega
 simp[Array.getD,h1,jn,ij]
structure gz (b:Bool)(t:SetTable):Prop where
 ris:qE t.place
 led:t.led=b
theorem f_ (h:gz b t)(n:Nat):gz b (t.standIn n):=⟨yQ n,h.led⟩
theorem qZ (h:gz b t)(n:Nat):gz b (t.orStandIn n):=by
 unfold SetTable.orStandIn;split
 ·exact h
 ·exact f_ h n
theorem yc (h:gz b t)(es:Array (Int × Value))(x:Int)(v:Value):gz b (layNew t es x v).2.1:=by
 unfold layNew;cases e:t.freeSlot x with
 | none=>exact f_ h _
 | some p =>
  obtain⟨slot,wd⟩:=p;dsimp only;refine qZ ⟨Dt h.ris ?_,h.led⟩ _;unfold SetTable.freeSlot at e;cases q:t.probe (fun _=>x+1) x (t.probeStart x) with
  | none=>rw[q] at e;cases e
  | some m =>
   rw[q] at e;cases m with
   | empty j dm =>cases e;exact u3 _ _ (fun d hd=>by cases hd) q
   | candidate _ _ _=>cases e
theorem CN {mask finger moves:Nat}{led plain:Bool}{hs:Array Int}{t:SetTable}{ord:Array Nat}(h:SetTable.laid mask finger moves led plain hs=some (t,ord)):gz led t:=by
 unfold SetTable.laid at h;cases q:SetTable.layClean mask hs with
 | none=>rw[q] at h;cases h
 | some owner =>
  rw[q] at h;have h:some _=some (t,ord):=h;cases h;refine⟨fun i j ij jn=>?_,rfl⟩;dsimp only at jn |-
  have pw:(((List.range (mask+1)).filterMap fun j=>(owner.getD j none).map (j,·)).map (·.1)).Pairwise (·< ·):=by rw[List.pairwise_map];have:=List.pairwise_lt_range (n:=mask+1);refine List.Pairwise.filterMap _ (fun a a' lt b hb b' hb'=>?_) this;obtain⟨_,_,rfl⟩:=LR.mp hb;obtain⟨_,_,rfl⟩:=LR.mp hb';exact lt
  rw[K3] at jn;have:=List.pairwise_iff_getElem.mp pw i j (by omega) jn ij;have il:i<(((List.range (mask+1)).filterMap fun j=>(owner.getD j none).map (j,·)).map (·.1)).length:=by omega
  simp only[Array.getD,List.size_toArray,il,jn,dite_true];exact this
theorem kW (h:gz b t)(es:Array (Int × Value))(n:Nat):gz b (relayAll t es n).2.1:=by
 unfold relayAll;cases q:t.relaid (es.map (·.1)) n with
 | none=>exact f_ h _
 | some p =>
  obtain⟨t',ord⟩:=p;dsimp only;split
  ·have:=CN q;rw[<-h.led];exact this
  ·exact f_ h _
structure xV (b:Bool)(es:Array (Int × Value))(t:SetTable):Prop where
 fit:t.fits es.size=true
 ok:gz b t
structure SK (prog:Program)(w:World)(κ:Type)[DecidableEq κ] where
 knd:KeyKind prog w κ
 kf:Value->κ
 eq:∀ {k:κ}{v:Value},knd.is k v=true->kf v=k
 sc:∀ {k:κ}{v:Value},knd.is k v=true->v.scannable=true
section
variable {prog:Program}{w:World}{κ:Type} [DecidableEq κ] {A:Around}{E:Value->Shared->Prop}{s:Shared}{S:SK prog w κ}
def EI (S:SK prog w κ)(e:Int × Value):Prop:=∃k:κ,S.knd.is k e.2=true/\e.1=S.knd.hash k
structure SetD (S:SK prog w κ)(b:Bool)(es:Array (Int × Value))(t:SetTable)(zs:List κ):Prop where
 el:∀e∈es.toList,EI S e
 nd:(es.toList.map fun e=>S.kf e.2).Nodup
 mem:∀i,i∈(es.toList.map fun e=>S.kf e.2)↔i∈zs
 ln:es.size<=zs.length
 tb:xV b es t
noncomputable abbrev cN (es:Array (Int × Value))(ep:Nat)(t:SetTable):Obj:={ cls:=.type "set",dict:=none,data:=.set es ep t }
def SetZ (S:SK prog w κ)(b:Bool)(h:Heap)(a:Addr)(zs:List κ):Prop:=∃es ep t,h.get? a=some (cN es ep t)/\SetD S b es t zs
theorem EI.of {es:List (Int × Value)}(h:∀e∈es,EI S e):ElemsOf S.knd es:=fun e he=>by obtain⟨k,h1,h2⟩:=h e he;exact⟨⟨k,h1,h2⟩,S.sc h1⟩
theorem SetD.perm {es':Array (Int × Value)}{t':SetTable}(h:SetD S b es t zs)(p:List.Perm es'.toList es.toList)(f:t'.fits es'.size=true)(ok:gz b t'):SetD S b es' t' zs :=
 ⟨fun e he=>h.el e (p.mem_iff.mp he),(p.map _).nodup_iff.mpr h.nd,fun i=>((p.map _).mem_iff).trans (h.mem i),by have:=p.length_eq;rw[LI,LI] at this;rw[this];exact h.ln,f,ok⟩
theorem SetD.more {es':Array (Int × Value)}{t':SetTable}(h:SetD S b es t zs)(hv:S.knd.is k v=true)(new:k ∉ (es.toList.map fun e=>S.kf e.2))(p:List.Perm es'.toList (es.push (S.knd.hash k,v)).toList)(f:t'.fits es'.size=true)(ok:gz b t'):SetD S b es' t' (zs++[k]):=by
 rw[Array.toList_push] at p;have ek:=S.eq hv;refine⟨fun e he=>?_,?_,fun i=>?_,?_,f,ok⟩
 ·rcases LC.mp (p.mem_iff.mp he) with he|he
  ·exact h.el e he
  ·rw[K4] at he;subst he;exact⟨k,hv,rfl⟩
 ·rw[(p.map _).nodup_iff,L8,MY];refine⟨h.nd,by simp,fun x hx y hy=>?_⟩;have:y=k:=by simpa[ek] using hy
  subst this;exact fun z=>new (z ▸ hx)
 ·rw[(p.map _).mem_iff,L8,LC,LC,h.mem];simp[ek]
 ·have:=p.length_eq;rw[LI,LJ,LI] at this;have:=h.ln;simp at *;omega
theorem uU {es':Array (Int × Value)}{Q:Unit->Shared->Prop}(ho:s.heap.get? a=some (cN es ep t))(hz:es'.size<4000)(h:∀h',Heap.SameBut a s.heap h'->h'.get? a=some (cN es' (ep+1) t')->Q () { s with heap:=h' }):wpAny (model prog w) A (storeSet a es' t') Q E s:=by
 refine wpAny_storeSet_of ho rfl (h _ (LY s.heap a (Obj.putSet es' t')) ?_) (by rw[sizeLine_eq];omega);have:=LO (Obj.putSet es' t') ho (by rw[putSet_of es' t' (o:=cN es ep t) rfl];rfl);rw[putSet_of es' t' (o:=cN es ep t) rfl] at this;exact this
theorem Ks {Q:Bool->Shared->Prop}(hkey:S.knd.is k v=true)(hZ:SetZ S b s.heap a zs)(room:zs.length<1000)(h:∀r h',Heap.SameBut a s.heap h'->SetZ S b h' a (zs++[k])->Q r { s with heap:=h' }):wpAny (model prog w) A (setAddHashed a v (S.knd.hash k)) Q E s:=by
 obtain⟨es,ep,t,ho,D⟩:=hZ;have hsz:=D.ln;have hsc:=S.sc hkey;have hel:=EI.of D.el;have hb:es.size<scanBound:=by unfold scanBound;omega
 unfold setAddHashed setAddHashedIn;refine LU (KF (wpAny_setState_of ho rfl D.tb.fit ?_));dsimp only;rw[byScan_of (knd:=S.knd) (x:=v) hsc hb hel,K1 rfl];unfold setAddByScan;refine KF (KF (wpAny_rule (KF (wpAny_setScan_of hkey ho rfl D.tb.fit hel ?_))));cases hr:List.findIdx? (fun e=>S.knd.is k e.2) es.toList with
 | some j =>
  obtain⟨hj,hpj,_⟩:=List.findIdx?_eq_some_iff_getElem.mp hr;refine KG (KG ?_);have inn:k∈zs:=(D.mem k).mp (K7.mpr ⟨es.toList[j],M3 hj,S.eq hpj⟩);refine h false s.heap (Heap.SameBut.refl a s.heap) ⟨es,ep,t,ho,D.el,D.nd,fun i=>?_,by simp;omega,D.tb⟩;rw[D.mem,LC,K4];constructor
  ·exact .inl
  ·rintro (z|rfl)
   ·exact z
   ·exact inn
 | none =>
  have new:k ∉ (es.toList.map fun e=>S.kf e.2):=fun z=>by obtain⟨e,he,ek⟩:=K7.mp z;have n:=List.findIdx?_eq_none_iff.mp hr e he;obtain⟨k',h1,_⟩:=D.el e he;have:k'=k:=(S.eq h1).symm.trans ek;subst this;rw[h1] at n;cases n
  have hp:=layNew_perm t es (S.knd.hash k) v;have hf:=layNew_fits t es (S.knd.hash k) v;have hk:=yc D.tb.ok es (S.knd.hash k) v;dsimp only;generalize layNew t es (S.knd.hash k) v=L at hp hf hk |-
  obtain⟨es1,t1,wd,gave⟩:=L;dsimp only at hp hf hk |-
  have D1:SetD S b es1 t1 (zs++[k]):=D.more hkey new hp hf hk;have l1:=D1.ln;rw[LJ,NA] at l1;have D9:SetD S b es1 { t1 with plain:=false } (zs++[k]):=⟨D1.el,D1.nd,D1.mem,D1.ln,D1.tb.fit,D1.tb.ok.1,D1.tb.ok.2⟩;refine KF ?_;cases gave <;> (first|refine KG ?_|refine wpAny_rule ?_)
  all_goals
   split
  all_goals
   first|(refine KF ?_;rw[hashByValue_scannable 8 (x:=v) hsc];refine KG ?_)|refine KF (KG ?_)
  all_goals
   first
    | rw[K1 (by rfl)]
    | (by_cases pk:plainKind v=true <;> first|rw[K1 pk] | rw[KW pk])
  all_goals
   refine KF (uU ho (by omega) fun h1 sb1 g1=>?_);split
  all_goals
   first
    | exact KG (KG (h true h1 sb1 ⟨es1,ep+1,_,g1,D1⟩))
    | exact KG (KG (h true h1 sb1 ⟨es1,ep+1,_,g1,D9⟩))
    | (have hp2:=relayAll_perm t1 es1 (SetTable.grown es1.size)
       have hf2:=relayAll_fits t1 es1 (SetTable.grown es1.size);have hk2:=kW D1.tb.ok es1 (SetTable.grown es1.size);generalize relayAll t1 es1 (SetTable.grown es1.size)=L2 at hp2 hf2 hk2 |-
       obtain⟨es2,t2,gave2⟩:=L2;dsimp only at hp2 hf2 hk2 |-
       have l2:=(D1.perm hp2 hf2 hk2).ln;rw[LJ,NA] at l2;refine KF ?_;cases gave2 <;> (first|refine KG ?_|refine wpAny_rule ?_)
       all_goals
         exact KF (uU g1 (by omega) fun h2 sb2 g2=>KG (KG (h true h2 (sb1.trans sb2) ⟨es2,ep+1+1,t2,g2,D1.perm hp2 hf2 hk2⟩))))
    | (have hp2:=relayAll_perm { t1 with plain:=false } es1 (SetTable.grown es1.size)
       have hf2:=relayAll_fits { t1 with plain:=false } es1 (SetTable.grown es1.size);have hk2:=kW D9.tb.ok es1 (SetTable.grown es1.size);generalize relayAll { t1 with plain:=false } es1 (SetTable.grown es1.size)=L2 at hp2 hf2 hk2 |-
       obtain⟨es2,t2,gave2⟩:=L2;dsimp only at hp2 hf2 hk2 |-
       have l2:=(D9.perm hp2 hf2 hk2).ln;rw[LJ,NA] at l2;refine KF ?_;cases gave2 <;> (first|refine KG ?_|refine wpAny_rule ?_)
       all_goals
         exact KF (uU g1 (by omega) fun h2 sb2 g2=>KG (KG (h true h2 (sb1.trans sb2) ⟨es2,ep+1+1,t2,g2,D9.perm hp2 hf2 hk2⟩))))
end
end FW
namespace FW
theorem slot_si_next:Slot "set_iterator" "__next__" "set_iterator.__next__" :=
 .of (owner:="set_iterator") (n:="__next__") (by rw [typeLookup_type,builtinLookup_eq_fast];kernel_rfl) (by decide +kernel) (by decide +kernel) (by decide +kernel)
  (by first|exact .inl (by decide +kernel)|exact .inr (by decide +kernel)) (by rw[isSubtype_type];kernel_rfl)
theorem dP:Slot "set_iterator" "__iter__" "set_iterator.__iter__" :=
 .of (owner:="set_iterator") (n:="__iter__") (by rw [typeLookup_type,builtinLookup_eq_fast];kernel_rfl) (by decide +kernel) (by decide +kernel) (by decide +kernel)
  (by first|exact .inl (by decide +kernel)|exact .inr (by decide +kernel)) (by rw[isSubtype_type];kernel_rfl)
theorem c7:entryFor table "set_iterator.__next__"=some Builtin.«set_iterator.__next__»:=entryFor_of_tree (by kernel_rfl)
theorem iK:entryFor table "set_iterator.__iter__"=some Builtin.«dict_keyiterator.__iter__» :=
 entryFor_alias (id':="dict_keyiterator.__iter__") (by kernel_rfl) rfl (by decide +kernel) (by kernel_rfl)
theorem nq:entryFor table "set.__iter__"=some Builtin.«frozenset.__iter__» :=
 entryFor_alias (id':="frozenset.__iter__") (by kernel_rfl) rfl (by decide +kernel) (by kernel_rfl)
theorem ub:Manifest.owners.lookup (String.ofList ['r','o','t','a','r','e','t','i','_','t','e','s'].reverse)=some Manifest.sig_set_iterator:=by kernel_rfl
theorem dU (a:Value):argsOk "set_iterator.__next__" ⟨[a],[]⟩:=by unfold argsOk;rw [signature?_of (id:="set_iterator.__next__") (n:=['_','_','t','x','e','n','_','_']) (o:=['r','o','t','a','r','e','t','i','_','t','e','s']) (by kernel_rfl) ub];kernel_rfl
theorem jc (a:Value):argsOk "set_iterator.__iter__" ⟨[a],[]⟩:=by unfold argsOk;rw [signature?_of (id:="set_iterator.__iter__") (n:=['_','_','r','e','t','i','_','_']) (o:=['r','o','t','a','r','e','t','i','_','t','e','s']) (by kernel_rfl) ub];kernel_rfl
theorem iX {α:Type}:∀ {l:List α}{i:Nat} (h:i<l.length),(l[i]::l.eraseIdx i).Perm l
 | [],i,h=>absurd h (MW _)
 | x::l,0,h=>N7 _
 | x::l,i+1,h=>by
  have lt:i<l.length:=by simpa using h
  show (l[i]::x::l.eraseIdx i).Perm (x::l);exact(List.Perm.swap _ _ _).trans (List.Perm.cons _ (iX lt))
theorem wQ {α:Type}(next:Nat->Nat):∀(n k:Nat) (l:List α) (out:Array α),l.length=n->(pickOrder.go next n k l out).toList.Perm (out.toList++l)
 | 0,k,l,out,e=>by have:l=[]:=List.eq_nil_of_length_eq_zero e;subst this;rw[M8];exact N7 _
 | n+1,k,l,out,e=>by
  have lt:next k % l.length<l.length:=OP _ (by omega)
  unfold pickOrder.go;rw[K6 lt];refine(wQ next n (k+1) _ _ (by rw[List.length_eraseIdx,K1 lt];omega)).trans ?_;rw[Array.toList_push,List.append_assoc];exact List.Perm.append_left _ (iX lt)
theorem yF {α:Type}(next:Nat->Nat)(xs:Array α):(pickOrder next xs).toList.Perm xs.toList:=by
 have:=wQ next xs.size 0 xs.toList #[] LI
 rw[show (#[]:Array α).toList++xs.toList=xs.toList from rfl] at this;exact this
noncomputable abbrev byT (w:World):Bool:=w.params.followText "set-order"
noncomputable def iZ (w:World)(a:Addr)(ep:Nat)(es:Array (Int × Value)):Array (Int × Value):=if byT w then pickOrder (w.params.setOrder a ep) es else es
theorem pq (w:World)(a:Addr)(ep:Nat)(es:Array (Int × Value)):(iZ w a ep es).toList.Perm es.toList:=by
 unfold iZ;split
 ·exact yF _ _
 ·exact N7 _
theorem gZ (w:World)(a:Addr)(ep:Nat)(es:Array (Int × Value)):(iZ w a ep es).size=es.size:=by have:=(pq w a ep es).length_eq;simpa using this
def vq (w:World)(t:SetTable)(slot i:Nat):Prop:=byT w=true\/SetTable.below t.place slot=i
def oT (w:World)(es:Array (Int × Value))(t:SetTable):Prop:=byT w=true\/(!t.plain && decide (es.size > 1))=false
theorem vC (h:qE xs):SetTable.below xs 0=0:=by obtain⟨a1,a2,a3⟩:=fY (j:=0) h;refine Nat.eq_zero_of_not_pos fun z=>?_;exact absurd (a2 0 z) (MW _)
section
variable {prog:Program}{w:World}{A:Around}{E:Value->Shared->Prop}{s:Shared}
theorem eZ {Q:Bool->Shared->Prop}(h:Q (byT w) s):wpAny (model prog w) A setsByText Q E s:=by unfold setsByText;exact KF (wpAny_askSetting (KG h))
theorem nE {Q:Option (Value × Nat)->Shared->Prop}(ho:s.heap.get? a=some (cN es ep t))(D:xV (!(byT w)) es t)(hs:vq w t slot i)(hd:oT w es t)(h1:∀e slot',(iZ w a ep es)[i]?=some e->vq w t slot' (i+1)->Q (some (e.2,slot')) s)(h2:(iZ w a ep es)[i]?=none->Q none s):wpAny (model prog w) A (setNext a slot i ep) Q E s:=by
 unfold setNext;refine KF (wpAny_setState_of ho rfl D.fit ?_);dsimp only;refine KF (eZ ?_);cases hb:byT w with
 | true =>
  rw[K1 rfl,KW (by simp)];refine KF ?_;unfold setWalk;refine KF (wpAny_setState_of ho rfl D.fit ?_);dsimp only;refine KF (eZ ?_);rw[hb,K1 rfl];refine KF (wpAny_askSetting (KG (KG ?_)));have eo:iZ w a ep es=pickOrder (w.params.setOrder a ep) es:=by unfold iZ;rw[hb,K1 rfl]
  rw[eo] at h1 h2;show Q (((pickOrder (w.params.setOrder a ep) es)[i]?).map fun e=>(e.2,slot)) s;cases q:(pickOrder (w.params.setOrder a ep) es)[i]? with
  | some e=>exact h1 e slot q (.inl hb)
  | none=>exact h2 q
 | false =>
  have eo:iZ w a ep es=es:=by unfold iZ;rw[hb];exact KW KI
  rw[eo] at h1 h2;have hbl:SetTable.below t.place slot=i:=by
   rcases hs with z|z
   ·rw[hb] at z;cases z
   ·exact z
  rw[KW KI];split
  ·rename_i z;have z:(!t.plain && decide (es.size > 1))=true:=z;rcases hd with q|q
   ·rw[hb] at q;cases q
   ·rw[q] at z;cases z
  ·refine KF ?_;show wpAny _ _ (if (!t.led && !es.isEmpty)=true then _ else _) _ _ _;rw[D.ok.led,hb,KW (by simp)];refine KG (KG ?_);rw[hbl];have hf:=D.fit;simp only[SetTable.fits,Bool.and_eq_true,beq_iff_eq,decide_eq_true_eq] at hf;by_cases lt:i<es.size
   ·have lp:i<t.place.size:=by omega
    rw[LM lt,LM lp];refine h1 es[i] _ (LM lt) (.inr ?_);have:=(Av D.ok.ris lp).2;rw[show t.place.getD i 0=t.place[i] from by simp[Array.getD,lp]] at this;exact this
   ·rw[M6 (by omega:es.size<=i)];exact h2 (M6 (by omega))
theorem yb {n:Nat}{Q:Nat->Shared->Prop}(hn:n≠0)(h:∀i d,i<n->Q i { s with drawn:=d }):wpAny (model prog w) A (choose src n) Q E s :=
 fun Γ p hΓ=>⟨hn,h _ _ (OP _ (Nat.pos_of_ne_zero hn))⟩
theorem jg {α:Type}:∀(n:Nat) (xs:List α) (s:Shared) {Q:List α->Shared->Prop},xs.length=n->(∀ys d,ys.Perm xs->Q ys { s with drawn:=d })->wpAny (model prog w) A (drawOrder n xs) Q E s
 | 0,xs,s,Q,e,h=>by have:xs=[]:=List.eq_nil_of_length_eq_zero e;subst this;exact KG (h [] s.drawn (N7 _))
 | n+1,[],s,Q,e,h=>by cases e
 | n+1,x::xs,s,Q,e,h=>by unfold drawOrder;refine KF (yb (Nat.succ_ne_zero _) fun i d lt=>?_);rw[K6 lt];refine KF (jg n _ _ (by rw[List.length_eraseIdx,K1 lt];omega) fun ys d' p=>KG ?_);exact h _ d' ((List.Perm.cons _ p).trans (iX lt))
def IsSI (h:Heap)(it:Addr)(first:Value)(i:Nat)(a:Addr)(n ep:Nat):Prop :=
 ∃o,h.get? it=some o/\o.cls=.type "set_iterator"/\o.data=.fields #[first,.int i 0,.ref a,.int n 0,.int ep 0]
theorem IsSI.typeIs (x:IsSI s.heap it first i a n ep):s.TypeIs (.ref it) "set_iterator":=let ⟨o,ho,hc,_⟩:=x;⟨o,ho,hc⟩
theorem y8 {it a:Addr}{i slot:Nat}{es:Array (Int × Value)}{ep:Nat}{t:SetTable}{e:Int × Value}{Q:Option Value->Shared->Prop}
  (hit:IsSI s.heap it (.int slot 0) i a es.size ep) (ho:s.heap.get? a=some (cN es ep t)) (D:xV (!(byT w)) es t) (hs:vq w t slot i) (hd:oT w es t) (he:(iZ w a ep es)[i]?=some e)
  (hQ:∀slot' h',vq w t slot' (i+1)->IsSI h' it (.int slot' 0) (i+1) a es.size ep->Heap.SameBut it s.heap h'->Q (some e.2) { s with heap:=h' }):wpAny (model prog w) A (pyNext (.ref it)) Q E s:=by
 obtain⟨o,hoi,hc,hdt⟩:=id hit;unfold pyNext;refine KF (wpAny_attempt (wpAny_callSpecial?_slot (name:=Str.ofString "__next__") hit.typeIs slot_si_next
  (wpAny_call_entry slot_si_next hit.typeIs c7 ?_ (dU _))))
 unfold Builtin.«set_iterator.__next__»;refine KF (KG ?_);refine KF (wpAny_fieldsOf hoi hdt ?_);dsimp only;refine KF (wpAny_setEntries_of ho rfl D.fit ?_);rw[KW (by simp)];rw[LV,LV,LV];refine KF (nE ho D hs hd (fun e' slot' g1 g2=>?_) fun z=>by rw[he] at z;cases z);rw[he] at g1;cases g1;dsimp only;have hd1:=Obj.data_mapFields hdt (·.setIfInBounds 0 (rawInt (slot':Int)));have ho1:=LO (Obj.mapFields (·.setIfInBounds 0 (rawInt (slot':Int)))) hoi (Obj.isFreed_of_fields hd1);refine KF (wpAny_setField hoi hdt (by simp) ?_);refine KF (wpAny_setField ho1 hd1 (by simp) ?_);have hd2:=Obj.data_mapFields hd1 (·.setIfInBounds 1 (rawInt ((i:Int)+1)));have ho2:=LO (Obj.mapFields (·.setIfInBounds 1 (rawInt ((i:Int)+1)))) ho1 (Obj.isFreed_of_fields hd2);refine KG ⟨_,rfl,KG (hQ slot' _ g2 ⟨_,ho2,?_,?_⟩ ((LY ..).trans (LY ..)))⟩
 ·rw[Obj.cls_mapFields,Obj.cls_mapFields];exact hc
 ·rw[hd2];simp[rawInt]
theorem qL {R:Fin->Shared->Prop}{Q:Option Value->Shared->Prop}(hh:A.handled=none)(hQ:∀h',Heap.ExtBut it s.heap h'->Q none { s with heap:=h' }) :
  wpAny (model prog w) A.in1 (do let e <-newExc (.type "StopIteration") [];raiseNew (α:=Fin) e) R (fun e s'=>wpAny (model prog w) A (do
   let b <-isInstance e (Value.type "StopIteration")
   if b=true then pure none else throw e) Q E s') s:=by
 refine KF ?_;simp only[newExc,newTuple];refine KF (wpAny_newObj_type ?_ (by size_fits));refine KF (m:=firstArgMember _ _) (wpAny_of_eq (a:=Value.none) (by first|rfl|(simp only[firstArgMember];rfl)) ?_);refine wpAny_newObj_type ?_ (by size_fits);simp only[raiseNew];refine KF (wpAny_handled ?_);rw[show A.in1.handled=none from hh];refine KF (KG (wpAny_throw ?_));refine KF (wpAny_isInstance (T:="StopIteration") (b:=true) ⟨_,KL _ rfl,rfl⟩ isSubtype_stop ?_);exact KG (hQ _ ((Heap.SameBut.refl it s.heap).extBut.push _ |>.push _))
theorem oI {it a:Addr}{i slot:Nat}{es:Array (Int × Value)}{ep:Nat}{t:SetTable}{Q:Option Value->Shared->Prop}(hh:A.handled=none)
  (hit:IsSI s.heap it (.int slot 0) i a es.size ep) (ho:s.heap.get? a=some (cN es ep t)) (D:xV (!(byT w)) es t) (hs:vq w t slot i) (hd:oT w es t) (he:es.size<=i)
  (hQ:∀h',Heap.ExtBut it s.heap h'->Q none { s with heap:=h' }):wpAny (model prog w) A (pyNext (.ref it)) Q E s:=by
 obtain⟨o,hoi,hc,hdt⟩:=id hit;unfold pyNext;refine KF (wpAny_attempt (wpAny_callSpecial?_slot (name:=Str.ofString "__next__") hit.typeIs slot_si_next
  (wpAny_call_entry slot_si_next hit.typeIs c7 ?_ (dU _))))
 unfold Builtin.«set_iterator.__next__»;refine KF (KG ?_);refine KF (wpAny_fieldsOf hoi hdt ?_);dsimp only;refine KF (wpAny_setEntries_of ho rfl D.fit ?_);rw[KW (by simp)];rw[LV,LV,LV];refine KF (nE ho D hs hd (fun e' slot' g1 g2=>?_) fun z=>?_)
 ·rw[M6 (by rw[gZ];exact he)] at g1;cases g1
 dsimp only;refine KF (wpAny_setField hoi hdt (by simp) ?_);exact qL (it:=it) hh fun h' x=>hQ h' ((LY s.heap it _).extBut.trans x)
theorem yN (hh:A.handled=none)(I a:Addr)(hne:a≠I){es:Array (Int × Value)}{ep:Nat}{t:SetTable}(D:xV (!(byT w)) es t)(hd:oT w es t) :
  Walks prog w A I [I,a] [I] es.size (fun i v=>∃e,(iZ w a ep es)[i]?=some e/\e.2=v) (fun i h=>∃slot,IsSI h I (.int (slot:Nat) 0) i a es.size ep/\vq w t slot i/\h.get? a=some (cN es ep t)) where
 sub:=fun b hb=>by simp at hb;simp[hb]
 frame:=fun _ _ _ st hk=>by obtain⟨slot,⟨o,ho,r⟩,p,g⟩:=st;exact⟨slot,⟨o,hk I (by simp) o ho,r⟩,p,hk a (by simp) _ g⟩
 item:=fun i s Q E hi st hQ=>by
  obtain⟨slot,hit,p,g⟩:=st;have lt:i<(iZ w a ep es).size:=by rw[gZ];exact hi
  refine y8 hit g D p hd (LM lt) fun slot' h' p' hit' sb=>?_;exact hQ _ h' s.toks ⟨_,LM lt,rfl⟩ ⟨slot',hit',p',sb.extBut a _ hne g⟩ fun b o hb e=>sb.extBut b o (fun h=>hb (by simp[h])) e
 done:=fun s Q E st hQ=>by obtain⟨slot,hit,p,g⟩:=st;exact oI hh hit g D p hd (KJ _) fun h' he'=>hQ h' s.toks fun b o hb e=>he' b o (fun h=>hb (by simp[h])) e
 self:=fun i s Q E st hQ=>by obtain⟨slot,hit,p,g⟩:=st;refine wpAny_pyIter_slot hit.typeIs dP (wpAny_call_entry dP hit.typeIs iK ?_ (jc _));show wpAny _ _ (ret (.ref I)) _ _ s;exact KG ⟨_,rfl,"set_iterator",_,hit.typeIs,slot_si_next.lookup,hQ⟩
noncomputable abbrev plT (ps:List Nat):Obj:={ cls:=.type "tuple",data:=.seq (ps.map fun i:Nat=>rawInt (i:Int)).toArray }
theorem DE {es:Array (Int × Value)}{Q:Option Value->Shared->Prop}(hit:IsSI s.heap it (.ref tp) i a es.size ep)(ht:s.heap.get? tp=some (plT ps))(ho:s.heap.get? a=some (cN es ep t))(fit:t.fits es.size=true)(hp:ps[i]?=some p)(he:es[p]?=some e)(hQ:∀h',IsSI h' it (.ref tp) (i+1) a es.size ep->Heap.SameBut it s.heap h'->Q (some e.2) { s with heap:=h' }):wpAny (model prog w) A (pyNext (.ref it)) Q E s:=by
 obtain⟨o,hoi,hc,hdt⟩:=id hit;unfold pyNext;refine KF (wpAny_attempt (wpAny_callSpecial?_slot (name:=Str.ofString "__next__") hit.typeIs slot_si_next
  (wpAny_call_entry slot_si_next hit.typeIs c7 ?_ (dU _))))
 unfold Builtin.«set_iterator.__next__»;refine KF (KG ?_);refine KF (wpAny_fieldsOf hoi hdt ?_);dsimp only;refine KF (wpAny_setEntries_of ho rfl fit ?_);rw[KW (by simp)];refine KF (wpAny_seqItems ht rfl ?_);dsimp only;rw[LV,List.getElem?_toArray,K2,hp];dsimp only [Option.map_some,rawInt];rw[LV,LV];unfold setNextDrawn;refine KF (KF (wpAny_setState_of ho rfl fit ?_));dsimp only;rw[KW (by simp),he];refine KG ?_;have hd2:=Obj.data_mapFields hdt (·.setIfInBounds 1 (.int ((i:Int)+1) 0));have ho2:=LO (Obj.mapFields (·.setIfInBounds 1 (.int ((i:Int)+1) 0))) hoi (Obj.isFreed_of_fields hd2);refine KF (wpAny_setField hoi hdt (by simp) ?_);refine KG ⟨_,rfl,KG (hQ _ ⟨_,ho2,?_,?_⟩ (LY ..))⟩
 ·rw[Obj.cls_mapFields];exact hc
 ·rw[hd2];simp
theorem ue {es:Array (Int × Value)}{Q:Option Value->Shared->Prop}(hh:A.handled=none)(hit:IsSI s.heap it (.ref tp) i a es.size ep)(ht:s.heap.get? tp=some (plT ps))(ho:s.heap.get? a=some (cN es ep t))(fit:t.fits es.size=true)(hp:ps.length<=i)(hQ:∀h',Heap.ExtBut it s.heap h'->Q none { s with heap:=h' }):wpAny (model prog w) A (pyNext (.ref it)) Q E s:=by
 obtain⟨o,hoi,hc,hdt⟩:=id hit;unfold pyNext;refine KF (wpAny_attempt (wpAny_callSpecial?_slot (name:=Str.ofString "__next__") hit.typeIs slot_si_next
  (wpAny_call_entry slot_si_next hit.typeIs c7 ?_ (dU _))))
 unfold Builtin.«set_iterator.__next__»;refine KF (KG ?_);refine KF (wpAny_fieldsOf hoi hdt ?_);dsimp only;refine KF (wpAny_setEntries_of ho rfl fit ?_);rw[KW (by simp)];refine KF (wpAny_seqItems ht rfl ?_);dsimp only;rw[LV,List.getElem?_toArray,K2,L4 hp];dsimp only [Option.map_none];have hd1:=Obj.data_mapFields hdt (·.setIfInBounds 0 (rawInt 0));have ho1:=LO (Obj.mapFields (·.setIfInBounds 0 (rawInt 0))) hoi (Obj.isFreed_of_fields hd1);refine KF (wpAny_setField hoi hdt (by simp) ?_);refine KF (wpAny_setField ho1 hd1 (by simp) ?_);exact qL (it:=it) hh fun h' x=>hQ h' (((LY s.heap it _).extBut.trans (LY _ it _).extBut).trans x)
theorem DS (hh:A.handled=none)(I a tp:Addr)(hne:a≠I)(hnt:tp≠I){ps:List Nat}{es:Array (Int × Value)}{ep:Nat}{t:SetTable}(fit:t.fits es.size=true)(hps:ps.Perm (List.range es.size)) :
  Walks prog w A I [I,a,tp] [I] es.size (fun i v=>∃p e,ps[i]?=some p/\es[p]?=some e/\e.2=v) (fun i h=>IsSI h I (.ref tp) i a es.size ep/\h.get? tp=some (plT ps)/\h.get? a=some (cN es ep t)) where
 sub:=fun b hb=>by simp at hb;simp[hb]
 frame:=fun _ _ _ st hk=>by obtain⟨⟨o,ho,r⟩,p,g⟩:=st;exact⟨⟨o,hk I (by simp) o ho,r⟩,hk tp (by simp) _ p,hk a (by simp) _ g⟩
 item:=fun i s Q E hi st hQ=>by
  obtain⟨hit,p,g⟩:=st;have ln:ps.length=es.size:=by rw[hps.length_eq,NT]
  have lt:i<ps.length:=by omega
  have lp:ps[i]<es.size:=OH.mp (hps.mem_iff.mp (M3 lt));refine DE hit p g fit (K6 lt) (LM lp) fun h' hit' sb=>?_;exact hQ _ h' s.toks ⟨_,_,K6 lt,LM lp,rfl⟩ ⟨hit',sb.extBut tp _ hnt p,sb.extBut a _ hne g⟩ fun b o hb e=>sb.extBut b o (fun h=>hb (by simp[h])) e
 done:=fun s Q E st hQ=>by
  obtain⟨hit,p,g⟩:=st;have ln:ps.length=es.size:=by rw[hps.length_eq,NT]
  exact ue hh hit p g fit (by omega) fun h' he'=>hQ h' s.toks fun b o hb e=>he' b o (fun h=>hb (by simp[h])) e
 self:=fun i s Q E st hQ=>by obtain⟨hit,p,g⟩:=st;refine wpAny_pyIter_slot hit.typeIs dP (wpAny_call_entry dP hit.typeIs iK ?_ (jc _));show wpAny _ _ (ret (.ref I)) _ _ s;exact KG ⟨_,rfl,"set_iterator",_,hit.typeIs,slot_si_next.lookup,hQ⟩
theorem y6 {es:Array (Int × Value)}(h:ItemsOf (fun i v=>∃e,(iZ w a ep es)[i]?=some e/\e.2=v) acc es.size):acc.toList.Perm (es.toList.map (·.2)):=by
 have:acc.toList=(iZ w a ep es).toList.map (·.2):=by
  refine NG (by rw[LI,LA,LI,gZ];exact h.1) fun i h1 h2=>?_;rw[LI] at h1;obtain⟨e,g1,g2⟩:=h.2 i acc[i] (LM h1);have lt:i<(iZ w a ep es).size:=by rw[gZ,<-h.1];exact h1
  rw[LM lt] at g1;cases g1;simpa using g2.symm
 rw[this];exact(pq w a ep es).map _
theorem DX {ps:List Nat}{es:Array (Int × Value)}(hps:ps.Perm (List.range es.size))(h:ItemsOf (fun i v=>∃p e,ps[i]?=some p/\es[p]?=some e/\e.2=v) acc es.size):acc.toList.Perm (es.toList.map (·.2)):=by
 have ln:ps.length=es.size:=by rw[hps.length_eq,NT]
 have:acc.toList=ps.map fun p=>(es.getD p (0,.none)).2:=by
  refine NG (by rw[LI,LA,ln];exact h.1) fun i h1 h2=>?_;rw[LI] at h1;obtain⟨p,e,g0,g1,g2⟩:=h.2 i acc[i] (LM h1);have lt:i<ps.length:=by rw[ln,<-h.1];exact h1
  rw[K6 lt] at g0;cases g0;rw[List.getElem_map,Array.getElem_toList,<-g2];simp[Array.getD_eq_getD_getElem?,g1]
 rw[this];refine(hps.map _).trans ?_;have:(List.range es.size).map (fun p=>(es.getD p (0,.none)).2)=es.toList.map (·.2):=by
  refine NG (by simp) fun i h1 h2=>?_;have lt:i<es.size:=by simpa using h2
  simp[Array.getD,lt]
 rw[this]
noncomputable abbrev siO (first:Value)(a:Addr)(n ep:Nat):Obj:={ cls:=.type "set_iterator",data:=.fields #[first,rawInt 0,.ref a,rawInt n,rawInt ep] }
theorem Bp {Q:Value->Shared->Prop}(ho:s.heap.get? a=some (cN es ep t))(fit:t.fits es.size=true)(hz:es.size<4000)(h1:oT w es t->Q (.ref s.heap.objs.size) { s with heap:=s.heap.push (siO (rawInt 0) a es.size ep) })(h2:∀ps d,ps.Perm (List.range es.size)->Q (.ref (s.heap.objs.size+1)) { s with heap:=(s.heap.push (plT ps)).push (siO (.ref s.heap.objs.size) a es.size ep),drawn:=d }) :
  wpAny (model prog w) A (pyIter (.ref a)) Q E s:=by
 have hT:s.TypeIs (.ref a) "set":=⟨_,ho,rfl⟩;refine wpAny_pyIter_slot hT F.slot_set_iter (wpAny_call_entry F.slot_set_iter hT nq ?_ (F.args_set_iter_1 _));unfold Builtin.«frozenset.__iter__» Builtin.Frozenset.slot0 slotArgs;simp only[List.isEmpty_nil,Bool.not_true,Bool.false_eq_true,↓reduceIte,bind_assoc,List.length_nil,bne_self_eq_false];unfold Builtin.Frozenset.addrOf Builtin.Frozenset.sizeOf;refine KF (KG ?_);refine KF (KG ?_);refine KF (KF (wpAny_setEntries_of ho rfl fit (KG ?_)));unfold setDrawn;refine KF (KF (wpAny_setState_of ho rfl fit ?_));dsimp only;refine KF (eZ (KG ?_));have ln:(List.range es.size).length=es.size:=NT;split
 ·refine KF (jg es.size _ _ ln fun ps d pp=>?_);have lp:ps.length=es.size:=by rw[pp.length_eq,ln]
  refine KF (wpAny_newTuple ?_ (by rw[LA,lp,sizeLine_eq];omega));refine KF ?_;unfold setEpoch;refine KF (wpAny_setState_of (s:={ s with heap:=s.heap.push (plT ps),drawn:=d }) (KH _ ho) rfl fit (KG ?_));refine KF (wpAny_newObj_type (KG ?_));refine ⟨_,rfl,"set_iterator",_,⟨_,KL _ rfl,rfl⟩,slot_si_next.lookup,?_⟩;have:=h2 ps d pp;rw[<-MK s.heap (plT ps)] at this;exact this
 ·rename_i z;refine KF (KG ?_);refine KF ?_;unfold setEpoch;refine KF (wpAny_setState_of ho rfl fit (KG ?_));refine KF (wpAny_newObj_type (KG ?_));refine ⟨_,rfl,"set_iterator",_,⟨_,KL _ rfl,rfl⟩,slot_si_next.lookup,h1 ?_⟩;have z:¬(!byT w && (!t.plain && decide (es.size > 1)))=true:=z;unfold oT;cases hb:byT w with
  | true=>exact .inl rfl
  | false =>rw[hb] at z;exact .inr (by cases q:(!t.plain && decide (es.size > 1)) with|false=>rfl|true=>rw[q] at z;exact absurd rfl z)
theorem oB:isSubtype (.type "set") (.type "set")=pure true:=by rw[isSubtype_type];kernel_rfl
theorem pj {P:Nat->Value->Prop}{St:Nat->Heap->Prop}{S:Addr}{R:Result->Shared->Prop}(W:Walks prog w A.in1 I fp wr n P St)(hn:n<=sizeLine)(hSf:S ∉ fp)(hst:St 0 s.heap)(hS:s.heap.get? S=some { cls:=.type "list",dict:=none,data:=.seq #[] c,slots:=#[] })(hR:∀h' tk acc c',(∀b o,b ∉ S::wr->s.heap.get? b=some o->h'.get? b=some o)->h'.get? S=some { cls:=.type "list",dict:=none,data:=.seq acc c',slots:=#[] }->ItemsOf P acc n->R (.ok (.ret (.ref S))) { s with heap:=h',toks:=tk }) :
  codeAny (model prog w) A (.builtin "list.extend.loop" ⟨[.ref S,.ref I,.ref S],[]⟩) R s:=by
 refine codeAny_extend_loopS W.toS hn S hSf (.ref S) n 0 s #[] c rfl (LS _) hst hS (ItemsOf.nil P) fun s' acc c' hm hS' hacc=>?_;obtain⟨h',g',d',tk',os'⟩:=s';have eg:g'=s.gens:=hm.gens;have ed:d'=s.drawn:=hm.drawn;have eo:os'=s.os:=hm.os;subst eg;subst ed;subst eo;exact hR h' tk' acc c' (fun b o hb e=>hm.heap b o hb e) hS' hacc
theorem um {Q:Bool->Shared->Prop}(hT:s.TypeIs (.ref a) "set")(h:Q false s):wpAny (model prog w) A (Builtin.List.listLengthHint (.ref a)) Q E s:=by
 have hsp:splitId "set.__len__"=some ("set","__len__"):=by kernel_rfl
 unfold Builtin.List.listLengthHint;refine KF (wpAny_specialOf hT F.slot_set_len.lookup ?_);dsimp (config:={ zeta:=false,zetaHave:=false }) only;rw[hsp];dsimp (config:={ zeta:=false,zetaHave:=false }) only;refine KF (wpAny_isInstance hT oB ?_);rw[KW (by simp)];split
 ·refine KF (wpAny_typeOf hT ?_);exact KG h
 ·rename_i z;exact(z (by decide +kernel)).elim
theorem uf {Q:List Value->Shared->Prop}(hh:A.handled=none)(ho:s.heap.get? a=some (cN es ep t))(D:xV (!(byT w)) es t)(hz:es.size<4000)(hQ:∀h' tk d acc,(∀b o,b<s.heap.objs.size->s.heap.get? b=some o->h'.get? b=some o)->s.heap.objs.size<=h'.objs.size->acc.Perm (es.toList.map (·.2))->Q acc { s with heap:=h',toks:=tk,drawn:=d }) :
  wpAny (model prog w) A (collect (.ref a)) Q E s:=by
 have fit:=D.fit;have ha:a<s.heap.objs.size:=KS ho;unfold collect;refine KF (wpAny_runValue (codeAny_builtin F.entry_proto_collect ?_));rw[Around.under_plainId F.plain_proto_collect _];show wpAny _ A.in1 (newList [] >>= fun l=>again (.builtin "list.__iadd__" ⟨[l,.ref a],[]⟩)) _ _ s;refine KF (wpAny_newObj_type ?_);refine KG ⟨plainId_quiet F.plain_list_iadd _,codeAny_builtin F.entry_list_iadd ?_⟩;rw[Around.under_plainId F.plain_list_iadd _];show wpAny _ A.in1 (Builtin.List.listExtendWith (.ref s.heap.objs.size) (.ref a) (.ref s.heap.objs.size)) _ _ _;unfold Builtin.List.listExtendWith;have g1:(s.heap.push { cls:=.type "list",data:=.seq ([]:List Value).toArray }).get? a=some (cN es ep t):=KH _ ho;have hS₁:(s.heap.push { cls:=.type "list",data:=.seq ([]:List Value).toArray }).get? s.heap.objs.size=some { cls:=.type "list",data:=.seq ([]:List Value).toArray }:=KL _ rfl;generalize hh1:s.heap.push { cls:=.type "list",data:=.seq ([]:List Value).toArray }=H1 at g1 hS₁ |-
 refine KF (wpAny_typeOf (T:="set") ⟨_,g1,rfl⟩ ?_);have h1:Builtin.List.listSameRef (.ref s.heap.objs.size) (.ref a)=false:=by simp[Builtin.List.listSameRef,Nat.ne_of_gt ha]
 have h2:(Value.type "set" == Value.type "list")=false:=by decide
 have h3:(Value.type "set" == Value.type "tuple")=false:=by decide
 simp only[h1,h2,h3,Bool.or_false,Bool.false_eq_true,if_false];have hsp:splitId "set.__len__"=some ("set","__len__"):=by kernel_rfl
 have hsz:s.heap.objs.size<H1.objs.size:=KS hS₁;refine KF (Bp (s:={ s with heap:=H1 }) g1 fit hz (fun nd=>?_) fun ps d pp=>?_)
 ·have nin:s.heap.objs.size ∉ [H1.objs.size,a]:=fun z=>by
   rcases K8.mp z with z|z
   ·exact K0 hsz z
   ·exact ME ha (K4.mp z)
  have W1:=fun I (ne:a≠I)=>yN (prog:=prog) (A:=A.in1) (ep:=ep) hh I a ne D nd;have W0:∀h I,h.get? I=some (siO (rawInt 0) a es.size ep)->h.get? a=some (cN es ep t)->∃slot,IsSI h I (.int ((slot:Nat):Int) 0) 0 a es.size ep/\vq w t slot 0/\h.get? a=some (cN es ep t):=fun h I e1 e2 =>
   ⟨0,⟨_,e1,rfl,rfl⟩,.inr (vC D.ok.ris),e2⟩
  have g2:(H1.push (siO (rawInt 0) a es.size ep)).get? a=some (cN es ep t):=KH _ g1;have hS2:(H1.push (siO (rawInt 0) a es.size ep)).get? s.heap.objs.size=some { cls:=.type "list",data:=.seq ([]:List Value).toArray }:=KH _ hS₁;have hI:(H1.push (siO (rawInt 0) a es.size ep)).get? H1.objs.size=some (siO (rawInt 0) a es.size ep):=KL _ rfl;have old:∀b o,b<s.heap.objs.size->s.heap.get? b=some o->(H1.push (siO (rawInt 0) a es.size ep)).get? b=some o:=fun b o hb e=>by rw[<-hh1];exact KH _ (KH _ e)
  generalize H1.push (siO (rawInt 0) a es.size ep)=H2 at g2 hS2 hI old |-
  refine KF (LU ?_);refine um ⟨_,g2,rfl⟩ ?_;split
  ·refine KF (wpAny_rule ?_);refine KF ?_;show wpAny _ A.in1 (updateSeq s.heap.objs.size (·.push .none) >>= fun _=>updateSeq s.heap.objs.size (·.pop)) _ _ _;refine KF (wpAny_updateSeq hS2 rfl ?_);have hS3:=LO (Obj.mapSeq (·.push Value.none)) hS2 rfl;refine wpAny_updateSeq hS3 rfl ?_;have hS4:=LO (Obj.mapSeq (·.pop)) hS3 rfl;have oth:∀b o,b≠s.heap.objs.size->H2.get? b=some o->((H2.update s.heap.objs.size (Obj.mapSeq (·.push Value.none))).update s.heap.objs.size (Obj.mapSeq (·.pop))).get? b=some o :=
    fun b o hb e=>(MJ _ _ (Ne.symm hb)).trans ((MJ _ _ (Ne.symm hb)).trans e)
   refine KG ⟨plainId_quiet F.plain_extend_loop _,pj (S:=s.heap.objs.size) (W1 H1.objs.size (K0 (MX ha hsz))) (by rw[sizeLine_eq];omega) nin ?_ hS4 fun h' tk acc c' k' hS' hacc=>?_⟩
   ·exact W0 _ _ (oth _ _ (ME hsz) hI) (oth _ _ (K0 ha) g2)
   ·refine KF (wpAny_load hS' ?_);refine KG (hQ h' tk _ acc.toList (fun b o hb e=>k' b o (fun z=>by
     rcases K8.mp z with z|z
     ·exact K0 hb z
     ·exact K0 (MX hb hsz) (K4.mp z)) (oth b o (K0 hb) (old b o hb e))) (L0 (KS hS')) (y6 hacc))
  ·rename_i z;exact(z (by decide +kernel)).elim
 ·have nin:s.heap.objs.size ∉ [H1.objs.size+1,a,H1.objs.size]:=fun z=>by
   rcases K8.mp z with z|z
   ·exact K0 (L_ hsz) z
   rcases K8.mp z with z|z
   ·exact ME ha z
   ·exact K0 hsz (K4.mp z)
  have W1:=DS (A:=A.in1) (prog:=prog) (w:=w) (ep:=ep) hh (H1.objs.size+1) a H1.objs.size (K0 (L_ (MX ha hsz))) (K0 (M4 _)) fit pp;have g2:((H1.push (plT ps)).push (siO (.ref H1.objs.size) a es.size ep)).get? a=some (cN es ep t):=KH _ (KH _ g1);have hS2:((H1.push (plT ps)).push (siO (.ref H1.objs.size) a es.size ep)).get? s.heap.objs.size=some { cls:=.type "list",data:=.seq ([]:List Value).toArray }:=KH _ (KH _ hS₁);have hI:((H1.push (plT ps)).push (siO (.ref H1.objs.size) a es.size ep)).get? (H1.objs.size+1)=some (siO (.ref H1.objs.size) a es.size ep):=by have:=KL (o:=siO (.ref H1.objs.size) a es.size ep) (H1.push (plT ps)) rfl;rw[MK] at this;exact this
  have hT2:((H1.push (plT ps)).push (siO (.ref H1.objs.size) a es.size ep)).get? H1.objs.size=some (plT ps):=KH _ (KL _ rfl);have old:∀b o,b<s.heap.objs.size->s.heap.get? b=some o->((H1.push (plT ps)).push (siO (.ref H1.objs.size) a es.size ep)).get? b=some o:=fun b o hb e=>by rw[<-hh1];exact KH _ (KH _ (KH _ e))
  generalize (H1.push (plT ps)).push (siO (.ref H1.objs.size) a es.size ep)=H2 at g2 hS2 hI hT2 old |-
  refine KF (LU ?_);refine um ⟨_,g2,rfl⟩ ?_;split
  ·refine KF (wpAny_rule ?_);refine KF ?_;show wpAny _ A.in1 (updateSeq s.heap.objs.size (·.push .none) >>= fun _=>updateSeq s.heap.objs.size (·.pop)) _ _ _;refine KF (wpAny_updateSeq hS2 rfl ?_);have hS3:=LO (Obj.mapSeq (·.push Value.none)) hS2 rfl;refine wpAny_updateSeq hS3 rfl ?_;have hS4:=LO (Obj.mapSeq (·.pop)) hS3 rfl;have oth:∀b o,b≠s.heap.objs.size->H2.get? b=some o->((H2.update s.heap.objs.size (Obj.mapSeq (·.push Value.none))).update s.heap.objs.size (Obj.mapSeq (·.pop))).get? b=some o :=
    fun b o hb e=>(MJ _ _ (Ne.symm hb)).trans ((MJ _ _ (Ne.symm hb)).trans e)
   refine KG ⟨plainId_quiet F.plain_extend_loop _,pj (S:=s.heap.objs.size) W1 (by rw[sizeLine_eq];omega) nin ?_ hS4 fun h' tk acc c' k' hS' hacc=>?_⟩
   ·exact⟨⟨_,oth _ _ (ME (L_ hsz)) hI,rfl,rfl⟩,oth _ _ (ME hsz) hT2,oth _ _ (K0 ha) g2⟩
   ·refine KF (wpAny_load hS' ?_);refine KG (hQ h' tk _ acc.toList (fun b o hb e=>k' b o (fun z=>by
     rcases K8.mp z with z|z
     ·exact K0 hb z
     ·exact K0 (L_ (MX hb hsz)) (K4.mp z)) (oth b o (K0 hb) (old b o hb e))) (L0 (KS hS')) (DX pp hacc))
  ·rename_i z;exact(z (by decide +kernel)).elim
end
end FW
namespace FW
open L2
section
variable {prog:Program}{w:World}{A:Around}{E:Value->Shared->Prop}{s:Shared}
theorem xJ {Q:Int->Shared->Prop}(h:∀n tk,Q n { s with toks:=tk }):wpAny (model prog w) A (pyHash .none) Q E s:=by
 have hT:s.TypeIs .none "NoneType":=rfl;show wpAny _ _ (pyHashByItsType .none) _ _ _;unfold pyHashByItsType;have hv:[Value.none].any Value.onHeap=false:=rfl;refine KF ?_;rw[cRoomFor,KW (by rw[hv];exact KI)];refine KG (KF (wpAny_specialOf hT F.slot_NoneType_hash.lookup ?_));rw[KW (by rw[beq_builtin_none];exact KI)];refine KF (wpAny_specialOf hT F.slot_NoneType_hash.lookup ?_);show wpAny _ _ (callSpecialIfBoundUnlessNone? .none "__hash__" _ >>= _) Q E s;refine KF (wpAny_callSpecialIfBoundUnlessNone?_slot hT F.slot_NoneType_hash (wpAny_call_entry F.slot_NoneType_hash hT F.entry_NoneType_hash
  (show wpAny _ _ (do ret (<-mkInt 0xFCA86420)) _ _ s from wpAny_ret_mkInt ?_) (F.args_NoneType_hash_1 _)))
 exact KG (h _ _)
theorem yM {Q:Int->Shared->Prop}(h:∀n tk,Q n { s with toks:=tk }):wpAny (model prog w) A (pyHash (.bool b)) Q E s:=by
 have hT:s.TypeIs (.bool b) "bool":=rfl;show wpAny _ _ (pyHashByItsType (.bool b)) _ _ _;unfold pyHashByItsType;have hv:[Value.bool b].any Value.onHeap=false:=rfl;refine KF ?_;rw[cRoomFor,KW (by rw[hv];exact KI)];refine KG (KF (wpAny_specialOf hT F.slot_bool_hash.lookup ?_));rw[KW (by rw[beq_builtin_none];exact KI)];refine KF (wpAny_specialOf hT F.slot_bool_hash.lookup ?_);show wpAny _ _ (callSpecialIfBoundUnlessNone? (.bool b) "__hash__" _ >>= _) Q E s;refine KF (wpAny_callSpecialIfBoundUnlessNone?_slot hT F.slot_bool_hash (wpAny_call_entry F.slot_bool_hash hT entry_int_hash ?_ (args_int_hash _)));cases b with
 | true =>refine(show wpAny _ _ (do ret (<-mkInt 1)) _ _ s from wpAny_ret_mkInt ?_);exact KG (h _ _)
 | false =>refine(show wpAny _ _ (do ret (<-mkInt 0)) _ _ s from wpAny_ret_mkInt ?_);exact KG (h _ _)
theorem BO {Q:Int->Shared->Prop}(h:∀n tk,Q n { s with toks:=tk }):wpAny (model prog w) A (pyHash (.int i t)) Q E s:=wpAny_pyHash_int (h _ _)
theorem AU {Q:Int->Shared->Prop}(hu:A.units<cLine)(hk:(tupleKind (aF prog w)).is s.heap ks a)(h:∀n tk,Q n { s with toks:=tk }):wpAny (model prog w) A (pyHash (.ref a)) Q E s:=wpAny_pyHash_tuple hu hk (h _ _)
theorem Bx {Q:Option Nat->Shared->Prop}(ho:s.heap.get? d=some o)(hd:o.data=.dict es ep)(hk:∀e∈es,carriedByValue e.key=true)(nk:isExactStrKey key=false)(nr:∀a,key=.ref a->∀e∈es,(e.key == key)=false)(qt:∀a,key=.ref a->∀Q:Bool->Shared->Prop,Q true s->wpAny (model prog w) A (eqIsQuiet 8 key) Q E s)(ne:∀e∈es,∀Q:Bool->Shared->Prop,Q false s->wpAny (model prog w) A (eqBool e.key key) Q E s)(q:Q none s):wpAny (model prog w) A (dictFind d key n) Q E s:=by
 have mem:∀ {x:Nat}{e:DictEntry},es[x]?=some e->e∈es:=fun h=>Array.mem_of_getElem? h;unfold dictFind
 try with_reducible refine LU ?_
 refine KF (wpAny_dictEntries ho hd ?_);have bv:∀xs:List Nat,((xs.filterMap fun i=>es[i]?.map (·.key)).all carriedByValue)=true:=fun xs=>by
  rw[ML];intro v hv;obtain⟨i,_,hi⟩:=NN.mp hv;cases he:es[i]? with
  | none=>rw[he] at hi;cases hi
  | some e=>rw[he] at hi;cases hi;exact hk e (mem he)
 have old:∀xs:List Nat,wpAny (model prog w) A (dictWalkPlain d key n es xs) Q E s:=fun xs=>by
  unfold dictWalkPlain;refine KF (wpAny_forIn_list _ (fun _ b s'=>s'=s/\b=(none,())) _ ?_ ?_ _ _ ⟨rfl,rfl⟩)
  ·rintro x rest b s' ⟨rfl,rfl⟩;cases he:es[x]? with
   | none=>exact KG ⟨rfl,rfl⟩
   | some e =>
    dsimp only;by_cases hh:(e.hash == n)=true
    ·rw[K1 hh];refine KF (wpAny_dictEpoch ho hd (KF (ne e (mem he) _ (KF (wpAny_dictEpoch ho hd ?_)))));rw[KW (by simp)];exact KF (wpAny_rule (KG ⟨rfl,rfl⟩))
    ·rw[KW hh];exact KG ⟨rfl,rfl⟩
  ·rintro b s' ⟨rfl,rfl⟩;exact KG q
 cases key with
 | str x t=>cases nk
 | ref a =>
  dsimp only;rw[KW (by simp[carriedByValue])];rw[KW (by rw[Bool.not_eq_true,Array.any_eq_false];intro i hi;rw[nr a rfl es[i] (Array.getElem_mem hi)];simp)]
  generalize hst:((placesWithHash es.size (fun i=>es[i]?.map (·.hash)) n).filterMap fun i=>es[i]?.map (·.key))=st;have bq:∀v∈st,carriedByValue v=true:=fun v hv=>ML.mp (hst ▸ bv _) v hv;have tell:∀Q:Bool->Shared->Prop,Q false s->wpAny (model prog w) A (tableMayTell (.ref a) st) Q E s:=fun Q q=>by
   unfold tableMayTell;by_cases em:st.isEmpty=true
   ·rw[K1 em];exact KG q
   ·rw[KW em];refine KF (qt a rfl _ ?_);rw[KW (by simp)];refine KF (wpAny_forIn_list _ (fun rest b s'=>s'=s/\b=(none,())/\∀v∈rest,carriedByValue v=true) _ ?_ ?_ _ _ ⟨rfl,rfl,bq⟩)
    ·rintro x rest b s' ⟨rfl,rfl,hb⟩;rw[eqIsQuiet_byValue _ (hb x KP)];refine KF (KG ?_);rw[KW (by simp)];exact KG ⟨rfl,rfl,fun v hv=>hb v (KN _ hv)⟩
    ·rintro b s' ⟨rfl,rfl,_⟩;exact KG q
  rw[KW (by intro e;have e2:st=[Value.ref a]:=eq_of_beq e;have:=bq (.ref a) (by rw[e2];exact KP);cases this)]
  refine KF (tell _ ?_);rw[KW (by simp)];refine KF (wpAny_forIn_list _ (fun _ b s'=>s'=s/\b=(none,none)) _ ?_ ?_ _ _ ⟨rfl,rfl⟩)
  ·rintro x rest b s' ⟨rfl,rfl⟩;cases he:es[x]? with
   | none=>exact KG ⟨rfl,rfl⟩
   | some e =>
    dsimp only;by_cases hh:(e.hash == n)=true
    ·rw[K1 hh];refine KF (wpAny_dictEpoch ho hd (KF (ne e (mem he) _ (KF (wpAny_dictEpoch ho hd ?_)))));rw[KW (by simp)];simp only[Bool.false_eq_true,if_false];refine KF (wpAny_rule ?_);rw[KW (by simp)];exact KG ⟨rfl,rfl⟩
    ·rw[KW hh];exact KG ⟨rfl,rfl⟩
  ·rintro b s' ⟨rfl,rfl⟩;exact KG q
 | _ =>dsimp only;rw[K1 (by rw[MD,bv];rfl)];exact old _
theorem D7 {Q:Unit->Shared->Prop}(ho:s.heap.get? d=some o)(hx:o.ExactDict)(hd:o.data=.dict es ep)(hz:es.size<=sizeLine)(hk:∀e∈es,carriedByValue e.key=true)(nk:isExactStrKey key=false)(nr:∀a,key=.ref a->∀e∈es,(e.key == key)=false)(qt:∀tk a,key=.ref a->∀Q:Bool->Shared->Prop,Q true { s with toks:=tk }->wpAny (model prog w) A.in1 (eqIsQuiet 8 key) Q E { s with toks:=tk })(hs:∀Q:Int->Shared->Prop,(∀n tk,Q n { s with toks:=tk })->wpAny (model prog w) A.in1 (pyHash key) Q E s)(ne:∀tk,∀e∈es,∀Q:Bool->Shared->Prop,Q false { s with toks:=tk }->wpAny (model prog w) A.in1 (eqBool e.key key) Q E { s with toks:=tk })(q:∀h' tk n,h'.get? d=some (o.mapDictKeys (·.push ⟨n,key,v⟩))->Heap.SameBut d s.heap h'->Q () { s with heap:=h',toks:=tk }):wpAny (model prog w) A (setItem (.ref d) key v) Q E s:=by
 have hT:s.TypeIs (.ref d) "dict":=⟨o,ho,hx.1⟩;unfold setItem
 try with_reducible refine LU ?_
 refine KF (wpAny_sequenceKey hT (by decide) ?_);refine KF (wpAny_callSpecial?_slot (name:=Str.ofString "__setitem__") hT slot_dict_setitem
  (wpAny_call_entry slot_dict_setitem hT entry_dict_setitem ?_ (args_dict_setitem _ _ _)))
 show wpAny _ _ (Builtin.Dict.notOrdered "__setitem__" ⟨[.ref d,key,v],[]⟩ >>= _) _ _ s;refine KF (wpAny_notOrdered_dict hT ?_);show wpAny _ _ (dictSet d key v >>= _) _ _ s;refine KF ?_;unfold dictSet
 try with_reducible refine LU ?_
 refine KF (hs _ fun n tk=>?_);unfold dictSetHashed
 try with_reducible refine LU ?_
 refine KF (Bx (s:={ s with toks:=tk }) ho hd hk nk nr (qt tk) (ne tk) ?_);refine KF (wpAny_rule (wpAny_updateDictKeys (hz:=hz) (s:={ s with toks:=tk }) ho hd ?_));refine KG ⟨.none,rfl,KG (q _ tk n ?_ (LY ..))⟩;exact LO _ ho (Obj.isFreed_of_dict (Obj.data_mapDictKeys hd _))
structure Ent (h:Heap)(d:Addr)(es:Array DictEntry)(ep:Nat):Prop where
 ob:∃o,h.get? d=some o/\o.data=.dict es ep
theorem Dy {d:Addr}{es:Array DictEntry}{ep:Nat}(hd:(d == sysModules)=false)(ho:s.heap.get? d=some o)(hx:o.ExactDict){R:Result->Shared->Prop}(h:R (.ok (.ret (.ref s.heap.objs.size))) { s with heap:=s.heap.push { cls:=.type "dict_items",data:=.fields #[.ref d] } }) :
  wpAny (model prog w) A (Builtin.«dict.items» ⟨[.ref d],[]⟩) (fun fin s'=>∃r,fin=.done r/\R (.ok r) s') E s:=by
 have hT:s.TypeIs (.ref d) "dict":=⟨o,ho,hx.1⟩;unfold Builtin.«dict.items» Builtin.Dict.noArgs Builtin.Dict.showsAll;refine KF (KF (wpAny_notOrdered_dict hT (KG ?_)));show wpAny _ _ ((if (d == sysModules)=true then _ else _) >>= _) _ _ s;rw[KW (by rw[hd];exact KI)];exact KF (KG (KF (wpAny_newObj_type (KG ⟨_,rfl,h⟩))))
theorem AW {Q:Value->Shared->Prop}(hv:s.heap.IsItemsView v d)(hm:Ent s.heap d es ep)(hQ:∀it h',it=s.heap.objs.size->IsItemIter h' it d 0 es.size ep .none .none->(∀b o,s.heap.get? b=some o->h'.get? b=some o)->Q (.ref it) { s with heap:=h' }) :
  wpAny (model prog w) A (pyIter (.ref v)) Q E s:=by
 obtain⟨ov,hov,hcv,hdv⟩:=id hv;obtain⟨o,ho,hd⟩:=hm.ob;refine wpAny_pyIter_slot hv.typeIs F.slot_dict_items_iter (wpAny_call_entry F.slot_dict_items_iter hv.typeIs F.entry_dict_items_iter ?_ (F.args_dict_items_iter_1 _));unfold Builtin.«dict_items.__iter__» Builtin.Dict_items.dictOf Builtin.Dict_items.newIterator;refine KF (KG (KF (KF (wpAny_field hov hdv (x:=.ref d) rfl (KG (KF (KF (wpAny_dictEntries ho hd (KF (wpAny_dictEpoch ho hd ?_))))))))));have hown:Builtin.Dict_items.ownsTuple "dict_itemiterator"=true:=by decide
 simp only[hown,if_true];refine wpAny_newObj_type (KG ⟨_,rfl,"dict_itemiterator",_,⟨_,KL _ rfl,rfl⟩,F.slot_dict_itemiterator_next.lookup,?_⟩)
  (by simp only[sizeOk,Builtin.Dict_items.ownedTupleFields,List.size_toArray,List.length_append,List.length_cons,List.length_nil,sizeLine_eq];omega)
 exact hQ _ _ rfl (KL _ rfl) fun b o e=>KH _ e
theorem AF {Q:Value->Shared->Prop}(hit:IsItemIter s.heap it d i n ep ok ov)(hQ:∀h',IsItemIterOut h' it d i n ep key v s.heap.objs.size->h'.get? s.heap.objs.size=some { cls:=.type "tuple",data:=.seq #[key,v] }->h'.objs.size=s.heap.objs.size+1 ->
   (∀b o,b≠it->s.heap.get? b=some o->h'.get? b=some o)->Q (.ref s.heap.objs.size) { s with heap:=h' }) :
  wpAny (model prog w) A (Builtin.Dict_items.pairFromOwner (.ref it) 6 key v) Q E s:=by
 have hil:it<s.heap.objs.size:=KS hit;unfold Builtin.Dict_items.pairFromOwner Builtin.Dict_items.ownedTupleIsFree;refine KF (wpAny_newTuple ?_);have h0:IsItemIter (s.heap.push { cls:=.type "tuple",data:=.seq #[key,v] }) it d i n ep ok ov:=KH _ hit;have t0:(s.heap.push { cls:=.type "tuple",data:=.seq #[key,v] }).get? s.heap.objs.size=some { cls:=.type "tuple",data:=.seq #[key,v] }:=KL _ rfl;have z0:(s.heap.push { cls:=.type "tuple",data:=.seq #[key,v] }).objs.size=s.heap.objs.size+1:=MK ..;have k0:∀b o,s.heap.get? b=some o->(s.heap.push { cls:=.type "tuple",data:=.seq #[key,v] }).get? b=some o:=fun b o e=>KH _ e;refine KF (KF (wpAny_field h0 rfl (x:=.none) rfl (KG ?_)));rw[K1 rfl];refine KF (wpAny_field h0 rfl (x:=ok) rfl (KF (wpAny_field h0 rfl (x:=ov) rfl ?_)));refine KF (wpAny_setField_rec h0 (by simp) fun h1 e1 s1=>KF (wpAny_setField_rec e1 (by simp) fun h2 e2 s2=>KF (wpAny_setField_rec e2 (by simp) fun h3 e3 s3=>KF (wpAny_setField_rec e3 (by simp) fun h4 e4 s4=>?_))));have up:∀b o,b≠it->(s.heap.push { cls:=.type "tuple",data:=.seq #[key,v] }).get? b=some o->h4.get? b=some o:=fun b o hb e=>s4.extBut b o hb (s3.extBut b o hb (s2.extBut b o hb (s1.extBut b o hb e)));refine KF (wpAny_letGo (KG (hQ h4 e4 (up _ _ (ME hil) t0) ?_ fun b o hb e=>up b o hb (k0 b o e))));exact s4.1.trans (s3.1.trans (s2.1.trans (s1.1.trans z0)))
theorem Bo {es:Array DictEntry}{Q:Option Value->Shared->Prop}(hit:IsItemIter s.heap it d i es.size ep ok ov)(hm:Ent s.heap d es ep)(hi:es[i]?=some e)(hQ:∀h',IsItemIterOut h' it d (i+1) es.size ep e.key e.val s.heap.objs.size->h'.get? s.heap.objs.size=some { cls:=.type "tuple",data:=.seq #[e.key,e.val] }->h'.objs.size=s.heap.objs.size+1 ->
   (∀b o,b≠it->s.heap.get? b=some o->h'.get? b=some o)->Q (some (.ref s.heap.objs.size)) { s with heap:=h' }) :
  wpAny (model prog w) A (pyNext (.ref it)) Q E s:=by
 obtain⟨o,ho,hd⟩:=hm.ob;have hT:s.TypeIs (.ref it) "dict_itemiterator":=⟨_,hit,rfl⟩;have hown:Builtin.Dict_items.ownsTuple "dict_itemiterator"=true:=by decide
 unfold pyNext;refine KF (wpAny_attempt (wpAny_callSpecial?_slot (name:=Str.ofString "__next__") hT MM
  (wpAny_call_entry MM hT F.entry_dict_itemiterator_next ?_ (F.args_dict_itemiterator_next_1 _))))
 refine KF (KG (KF (KF (KF (wpAny_typeNameOfWhole_itemiter hT (KG (KF (wpAny_fieldsOf hit rfl ?_))))))));simp only[hown,if_true];show wpAny _ _ (if (Value.ref d == Value.none)=true then _ else _) _ _ s;rw[KW (show ¬((Value.ref d == Value.none)=true) from KI)];refine KF (KG (KF (wpAny_dictEntries ho hd ?_)));rw[KW (by simp)];refine KF (KG (KF (wpAny_dictEpoch ho hd ?_)));rw[KW (by simp)];refine KG ?_;simp only[show ¬((i:Int)<0) from by omega,if_false,Int.toNat_natCast,hi];refine KF (KF (wpAny_typeNameOfWhole_itemiter hT (KG (KF (wpAny_isOneOf_itemiter hT ?_)))));show wpAny _ _ (setField (.ref it) 3 (rawInt ((i:Int)+1)) >>= _) _ _ s;refine KF (wpAny_setField_rec hit (by simp) fun h1 e1 s1=>?_);have e1:IsItemIter h1 it d (i+1) es.size ep ok ov:=by
  have q:((i+1:Nat):Int)=(i:Int)+1:=by omega
  unfold IsItemIter;rw[q];simpa[rawInt] using e1
 have hT1:Shared.TypeIs { s with heap:=h1 } (.ref it) "dict_itemiterator":=⟨_,e1,rfl⟩;refine KF (LU (KF (wpAny_isOneOf_itemiter hT1 (KF (wpAny_isOneOf_itemiter hT1 ?_)))));refine AF (s:={ s with heap:=h1 }) e1 fun h2 a1 a2 a3 a4=>KG ⟨_,rfl,?_⟩;have z:h1.objs.size=s.heap.objs.size:=s1.1;rw[z] at a1 a2 a3;show wpAny _ _ (pure (some (Value.ref h1.objs.size))) _ _ _;rw[z];exact KG (hQ h2 a1 a2 a3 fun b o hb e=>a4 b o hb (s1.extBut b o hb e))
theorem AL {es:Array DictEntry}{Q:Option Value->Shared->Prop}(hh:A.handled=none)(hit:IsItemIter s.heap it d i es.size ep ok ov)(hm:Ent s.heap d es ep)(hi:es.size<=i)(hQ:∀h',Heap.ExtBut it s.heap h'->Q none { s with heap:=h' }):wpAny (model prog w) A (pyNext (.ref it)) Q E s:=by
 obtain⟨o,ho,hd⟩:=hm.ob;have hT:s.TypeIs (.ref it) "dict_itemiterator":=⟨_,hit,rfl⟩;have hown:Builtin.Dict_items.ownsTuple "dict_itemiterator"=true:=by decide
 unfold pyNext;refine KF (wpAny_attempt (wpAny_callSpecial?_slot (name:=Str.ofString "__next__") hT MM
  (wpAny_call_entry MM hT F.entry_dict_itemiterator_next ?_ (F.args_dict_itemiterator_next_1 _))))
 refine KF (KG (KF (KF (KF (wpAny_typeNameOfWhole_itemiter hT (KG (KF (wpAny_fieldsOf hit rfl ?_))))))));simp only[hown,if_true];show wpAny _ _ (if (Value.ref d == Value.none)=true then _ else _) _ _ s;rw[KW (show ¬((Value.ref d == Value.none)=true) from KI)];refine KF (KG (KF (wpAny_dictEntries ho hd ?_)));rw[KW (by simp)];refine KF (KG (KF (wpAny_dictEpoch ho hd ?_)));rw[KW (by simp)];refine KG ?_;simp only[show ¬((i:Int)<0) from by omega,if_false,Int.toNat_natCast,Array.getElem?_eq_none hi];refine KF (KF (wpAny_typeNameOfWhole_itemiter hT (KG ?_)));show wpAny _ _ (setField (.ref it) 2 .none >>= _) _ _ s;refine KF (wpAny_setField hit rfl (by simp) ?_);exact qL hh fun h' e=>hQ h' fun b o hb z=>e b o hb ((LY ..).extBut b o hb z)
end
end FW
namespace FW
section
variable {prog:Program}{w:World}{κ:Type} [DecidableEq κ] {SS:SK prog w κ}{A:Around}{E:Value->Shared->Prop}{s:Shared}
theorem SetZ.at {h':Heap}(x:SetZ SS b h a zs)(e:∀o,h.get? a=some o->h'.get? a=some o):SetZ SS b h' a zs :=
 let ⟨es,ep,t,ho,d⟩:=x;⟨es,ep,t,e _ ho,d⟩
theorem tO {P:Nat->Value->Prop}{St:Nat->Heap->Prop}{S:Addr}{R:Result->Shared->Prop}(W:Walks prog w A.in1 I fp wr n P St)(hSf:S ∉ fp)(val:Nat->κ)(hval:∀i v,P i v->SS.knd.is (val i) v=true)(hb:n<900) :
  ∀(k i:Nat) (s:Shared),n-i=k->i<=n->St i s.heap->SetZ SS b s.heap S ((List.range i).map val) ->
   (∀h' tk,(∀c o,c ∉ S::wr->s.heap.get? c=some o->h'.get? c=some o)->SetZ SS b h' S ((List.range n).map val)->R (.ok (.ret .none)) { s with heap:=h',toks:=tk }) ->
   codeAny (model prog w) A (.builtin "set.update.loop" ⟨[.ref S,.ref I],[]⟩) R s:=by
 have hSw:S ∉ wr:=fun h=>hSf (W.sub _ h);have hsub:∀b,b ∉ S::wr->b ∉ wr:=fun b hb z=>hb (KN _ z);intro k
 induction k with
 | zero =>
  intro i s hk hi hst hS hR;have hin:i=n:=by omega
  subst hin;refine codeAny_builtin PyProof.Rows.F.entry_set_update_loop ?_;rw[Around.under_plainId MP _];show wpAny _ A.in1 (pyNext (.ref I) >>= _) _ _ s;refine KF (W.done s _ _ hst fun h' tk hm=>?_);show wpAny _ A.in1 (ret Value.none) _ _ _;exact KG (hR h' tk (fun c o hc e=>hm c o (hsub c hc) e) (hS.at fun o e=>hm S o hSw e))
 | succ k ih =>
  intro i s hk hi hst hS hR;have hlt:i<n:=by omega
  refine codeAny_builtin PyProof.Rows.F.entry_set_update_loop ?_;rw[Around.under_plainId MP _];show wpAny _ A.in1 (pyNext (.ref I) >>= _) _ _ s;refine KF (W.item i s _ _ hlt hst fun v h1 tk1 hP hst' hm=>?_);have hv:=hval i v hP;show wpAny _ A.in1 (holding [v] (setAdd S v) >>= _) _ _ _;refine KF (LU ?_);unfold setAdd;refine LU ?_;refine KF (SS.knd.pyHash (k:=val i) hv ?_);have hS1:SetZ SS b h1 S ((List.range i).map val):=hS.at fun o e=>hm S o hSw e;refine Ks (s:={ s with heap:=h1,toks:=tk1+1 }) hv hS1 (by simp;omega) fun r h2 sb hS2=>?_;have hS3:SetZ SS b h2 S ((List.range (i+1)).map val):=by rw[List.range_succ,L8];exact hS2
  refine KG ⟨plainId_quiet MP _,ih (i+1) _ (by omega) hlt (W.frame _ _ _ hst' fun b hb o e=>?_) hS3 fun h' tk kk hS4=>?_⟩
  ·show h2.get? b=some o;rw[sb.2 b (fun h:b=S=>hSf (by rw[<-h];exact hb))];exact e
  ·refine hR h' tk (fun c o hc e=>kk c o hc ?_) hS4;show h2.get? c=some o;rw[sb.2 c (fun h:c=S=>hc (by rw[h];exact KP))];exact hm c o (hsub c hc) e
noncomputable abbrev fu (b:Bool):Obj:={ cls:=.type "set",dict:=none,data:=.set #[] 0 (.fresh 0 0 b) }
theorem xr {h:Heap}(e:h.get? a=some (fu b)):SetZ SS b h a [] :=
 ⟨#[],0,.fresh 0 0 b,e,fun e he=>by simp at he,by simp,fun i=>by simp,LS _,by rfl,⟨fun i j ij jn=>absurd jn (MW _),rfl⟩⟩
theorem v8 (a:Value){Q:Value->Shared->Prop}(h:Q (.ref s.heap.objs.size) { s with heap:=s.heap.push (fu (!(byT w))) }) :
  codeAny (model prog w) A (.call (.builtin "set.__new__") ⟨[.type "set",a],[]⟩) (wants Q E) s:=by
 refine codeAny_of_tree ?_;show wpAny _ A.in1 (do checkBuiltinCall "set.__new__" ⟨[.type "set",a],[]⟩;again (.builtin "set.__new__" ⟨[.type "set",a],[]⟩)) _ _ s;refine KF (wpAny_of_eq (PySem.F.newCall_set_1 a) (KG ⟨plainId_quiet PySem.F.plain_set_new _,codeAny_builtin PySem.F.entry_set_new ?_⟩));rw[Around.under_plainId PySem.F.plain_set_new _];unfold Builtin.«set.__new__» Builtin.Frozenset.newClass;have hsub:=sub_set_self;obtain⟨hp,g,d,tk,os⟩:=s;dsimp only
 wp_walk
 refine wpAny_askSetting (KG ?_);dsimp only;simp only[newObj];refine KF (wpAny_alloc (KG ?_));exact KG h
set_option maxHeartbeats 3200000 in
theorem yW {ns:List κ}{Q:Value->Shared->Prop}(hh:A.handled=none)(hl:s.heap.IsList l items)(val:Nat->κ)(hval:∀(i:Nat) (v:Value),items[i]?=some v->SS.knd.is (val i) v=true)(hns:(List.range items.size).map val=ns)(hb:items.size<900)(h:∀(h':Heap) (tk:Nat),SetZ SS (!(byT w)) h' s.heap.objs.size ns->(∀b o,b<s.heap.objs.size->s.heap.get? b=some o->h'.get? b=some o)->Q (.ref s.heap.objs.size) { s with heap:=h',toks:=tk }) :
  wpAny (model prog w) A (call (.type "set") [.ref l]) Q E s:=by
 obtain⟨c,tl,hmro⟩:=PySem.F.called_set.mro;have hmade:=PySem.F.called_set.made;have hsub:=PySem.F.called_set.sub;refine wpAny_call (codeAny_of_tree ?_);show wpAny _ _ (callAny (.type "set") _) _ _ _;refine KG ⟨Code.quiet_builtin _ (by decide +kernel),codeAny_builtin PySem.F.entry_type_call ?_⟩;rw [Around.under_plain (weight_type_call_type "set" [.ref l] []) rfl];have h1:=PySem.F.called_set.notType;have h2:=PySem.F.called_set.canCreate;have hct:=PySem.F.typeCall_set_1 (.ref l)
 repeat (any_goals (first|assumption|wp_step))
 refine codeAny_mono (v8 (.ref l) (E:=E) (Q:=fun obj s₁=>obj=.ref s.heap.objs.size/\s₁={ s with heap:=s.heap.push (fu (!(byT w))) }) ⟨rfl,rfl⟩) fun r s₁ hr=>?_;cases r with
 | error e=>exact hr
 | ok fl =>
  cases fl with
  | ret obj =>
   obtain⟨rfl,rfl⟩:=hr;have hS:(s.heap.push (fu (!(byT w)))).get? s.heap.objs.size=some (fu (!(byT w))):=KL _ rfl;have hT:Shared.TypeIs { s with heap:=s.heap.push (fu (!(byT w))) } (.ref s.heap.objs.size) "set":=⟨_,hS,rfl⟩;have hli:=PySem.F.called_set.init.lookup;have hbi:=PySem.F.called_set.init.bind (.ref s.heap.objs.size)
   repeat (any_goals (first|assumption|wp_step))
   refine codeAny_mono (codeAny_call_builtin (R:=wants (fun r s₂=>r=.none/\∃h' tk,s₂={ s with heap:=h',toks:=tk }/\SetZ SS (!(byT w)) h' s.heap.objs.size ns /\
     (∀b o,b<s.heap.objs.size->s.heap.get? b=some o->h'.get? b=some o)) E) PySem.F.called_set.init.plain PySem.F.entry_set_init (check_set_init_1 hT ?_)) fun r₂ s₂ hr₂=>?_
   ·have hl1:(s.heap.push (fu (!(byT w)))).IsList l items:=hl.push _;have hlS:l<s.heap.objs.size:=by obtain⟨o,ho,_⟩:=hl;exact KS ho
    obtain⟨ol,hol,hcl,nl,hdl⟩:=hl;obtain⟨ocls,odict,odata,oslots⟩:=ol;simp only at hcl hdl;subst hcl;subst hdl;have hol':(s.heap.push (fu (!(byT w)))).get? l=some { cls:=.type "list",dict:=odict,data:=.seq items nl,slots:=oslots }:=KH _ hol;have hsls:=PySem.F.sub_list_set;have hslf:=PySem.F.sub_list_frozenset;have hne:(Value.type "list" == Value.type "dict")=false:=by decide
    unfold Builtin.«set.__init__» noKeywords Builtin.Frozenset.updateFrom;generalize hPI:pyIter=PI
    wp_walk
    subst hPI;refine wpAny_pyIter_list hl1 ?_;refine KF (wpAny_runValue ?_);have hh3:A.in1.in1.in1.handled=none:=by simp[hh]
    have hz:(s.heap.push (fu (!(byT w)))).objs.size=s.heap.objs.size+1:=MK ..;have hneI:l≠(s.heap.push (fu (!(byT w)))).objs.size:=by rw[hz];exact K0 (L_ hlS)
    have hSf:s.heap.objs.size ∉ [(s.heap.push (fu (!(byT w)))).objs.size,l]:=fun z=>by
     rw[hz] at z;rcases K8.mp z with z|z
     ·exact K0 (M4 _) z
     ·exact ME hlS (K4.mp z)
    refine tO (SS:=SS) (b:=!(byT w)) (Walks.list hh3 _ l hneI items) hSf val hval hb items.size 0 _ rfl (LS _)
     ⟨⟨_,KL _ rfl,rfl,rfl⟩,(hl1.push _)⟩ (xr (KH _ hS)) fun h' tk kk hS'=>?_
    rw[hns] at hS';show wpAny _ _ _ _ _ _;refine KG ?_;show wpAny _ _ (ret Value.none) _ _ _;refine KG ⟨rfl,h',tk,rfl,hS',fun b o hb e=>?_⟩;refine kk b o (fun z=>?_) (KH _ (KH _ e));rw[hz] at z;rcases K8.mp z with z|z
    ·exact K0 hb z
    ·exact K0 (L_ hb) (K4.mp z)
   ·cases r₂ with
    | error e=>exact hr₂
    | ok fl₂ =>
     cases fl₂ with
     | ret r =>
      obtain⟨rfl,h',tk,rfl,hS',hk'⟩:=hr₂
      repeat (any_goals (first|assumption|wp_step))
      exact h _ _ hS' hk'
     | _=>exact hr₂.elim
  | _=>exact hr.elim
set_option maxHeartbeats 3200000 in
theorem vm {ns:List κ}{Q:Value->Shared->Prop}(hh:A.handled=none)(hl:s.heap.IsTuple l items)(val:Nat->κ)(hval:∀(i:Nat) (v:Value),items[i]?=some v->SS.knd.is (val i) v=true)(hns:(List.range items.size).map val=ns)(hb:items.size<900)(h:∀(h':Heap) (tk:Nat),SetZ SS (!(byT w)) h' s.heap.objs.size ns->(∀b o,b<s.heap.objs.size->s.heap.get? b=some o->h'.get? b=some o)->Q (.ref s.heap.objs.size) { s with heap:=h',toks:=tk }) :
  wpAny (model prog w) A (call (.type "set") [.ref l]) Q E s:=by
 obtain⟨c,tl,hmro⟩:=PySem.F.called_set.mro;have hmade:=PySem.F.called_set.made;have hsub:=PySem.F.called_set.sub;refine wpAny_call (codeAny_of_tree ?_);show wpAny _ _ (callAny (.type "set") _) _ _ _;refine KG ⟨Code.quiet_builtin _ (by decide +kernel),codeAny_builtin PySem.F.entry_type_call ?_⟩;rw [Around.under_plain (weight_type_call_type "set" [.ref l] []) rfl];have h1:=PySem.F.called_set.notType;have h2:=PySem.F.called_set.canCreate;have hct:=PySem.F.typeCall_set_1 (.ref l)
 repeat (any_goals (first|assumption|wp_step))
 refine codeAny_mono (v8 (.ref l) (E:=E) (Q:=fun obj s₁=>obj=.ref s.heap.objs.size/\s₁={ s with heap:=s.heap.push (fu (!(byT w))) }) ⟨rfl,rfl⟩) fun r s₁ hr=>?_;cases r with
 | error e=>exact hr
 | ok fl =>
  cases fl with
  | ret obj =>
   obtain⟨rfl,rfl⟩:=hr;have hS:(s.heap.push (fu (!(byT w)))).get? s.heap.objs.size=some (fu (!(byT w))):=KL _ rfl;have hT:Shared.TypeIs { s with heap:=s.heap.push (fu (!(byT w))) } (.ref s.heap.objs.size) "set":=⟨_,hS,rfl⟩;have hli:=PySem.F.called_set.init.lookup;have hbi:=PySem.F.called_set.init.bind (.ref s.heap.objs.size)
   repeat (any_goals (first|assumption|wp_step))
   refine codeAny_mono (codeAny_call_builtin (R:=wants (fun r s₂=>r=.none/\∃h' tk,s₂={ s with heap:=h',toks:=tk }/\SetZ SS (!(byT w)) h' s.heap.objs.size ns /\
     (∀b o,b<s.heap.objs.size->s.heap.get? b=some o->h'.get? b=some o)) E) PySem.F.called_set.init.plain PySem.F.entry_set_init (check_set_init_1 hT ?_)) fun r₂ s₂ hr₂=>?_
   ·have hl1:(s.heap.push (fu (!(byT w)))).IsTuple l items:=hl.push _;have hlS:l<s.heap.objs.size:=by obtain⟨o,ho,_⟩:=hl;exact KS ho
    obtain⟨ol,hol,hcl,nl,hdl⟩:=hl;obtain⟨ocls,odict,odata,oslots⟩:=ol;simp only at hcl hdl;subst hcl;subst hdl;have hol':(s.heap.push (fu (!(byT w)))).get? l=some { cls:=.type "tuple",dict:=odict,data:=.seq items nl,slots:=oslots }:=KH _ hol;have hsls:=PySem.F.sub_tuple_set;have hslf:=PySem.F.sub_tuple_frozenset;have hne:(Value.type "tuple" == Value.type "dict")=false:=by decide
    unfold Builtin.«set.__init__» noKeywords Builtin.Frozenset.updateFrom;generalize hPI:pyIter=PI
    wp_walk
    subst hPI;refine wpAny_pyIter_tuple hl1 ?_;refine KF (wpAny_runValue ?_);have hh3:A.in1.in1.in1.handled=none:=by simp[hh]
    have hz:(s.heap.push (fu (!(byT w)))).objs.size=s.heap.objs.size+1:=MK ..;have hneI:l≠(s.heap.push (fu (!(byT w)))).objs.size:=by rw[hz];exact K0 (L_ hlS)
    have hSf:s.heap.objs.size ∉ [(s.heap.push (fu (!(byT w)))).objs.size,l]:=fun z=>by
     rw[hz] at z;rcases K8.mp z with z|z
     ·exact K0 (M4 _) z
     ·exact ME hlS (K4.mp z)
    refine tO (SS:=SS) (b:=!(byT w)) (Walks.tuple hh3 _ l hneI items) hSf val hval hb items.size 0 _ rfl (LS _)
     ⟨⟨_,KL _ rfl,rfl,rfl⟩,(hl1.push _)⟩ (xr (KH _ hS)) fun h' tk kk hS'=>?_
    rw[hns] at hS';show wpAny _ _ _ _ _ _;refine KG ?_;show wpAny _ _ (ret Value.none) _ _ _;refine KG ⟨rfl,h',tk,rfl,hS',fun b o hb e=>?_⟩;refine kk b o (fun z=>?_) (KH _ (KH _ e));rw[hz] at z;rcases K8.mp z with z|z
    ·exact K0 hb z
    ·exact K0 (L_ hb) (K4.mp z)
   ·cases r₂ with
    | error e=>exact hr₂
    | ok fl₂ =>
     cases fl₂ with
     | ret r =>
      obtain⟨rfl,h',tk,rfl,hS',hk'⟩:=hr₂
      repeat (any_goals (first|assumption|wp_step))
      exact h _ _ hS' hk'
     | _=>exact hr₂.elim
  | _=>exact hr.elim
end
noncomputable def toI:Value->Int
 | .int n _=>n
 | _=>0
noncomputable def toT:Value->Str
 | .str n _=>n
 | _=>Str.empty
noncomputable def Kr (prog:Program)(w:World):SK prog w Int:=⟨intKind prog w,toI,fun h=>by obtain⟨t,rfl⟩:=OA h;rfl,fun h=>by obtain⟨t,rfl⟩:=OA h;rfl⟩
noncomputable def t8 (prog:Program)(w:World):SK prog w Str:=⟨PySem.strKind prog w,toT,fun h=>by obtain⟨t,rfl⟩:=M1 h;rfl,fun h=>by obtain⟨t,rfl⟩:=M1 h;rfl⟩
section
variable {prog:Program}{w:World}{A:Around}{E:Value->Shared->Prop}{s:Shared}
theorem Gw {κ:Type}[DecidableEq κ]{SS:SK prog w κ}{vs:List Value}{es:List (Int × Value)}(h:∀e∈es,EI SS e)(p:vs.Perm (es.map (·.2))):∀v∈vs,∃k,SS.knd.is k v=true:=fun v hv=>by obtain⟨e,he,rfl⟩:=K7.mp (p.mem_iff.mp hv);obtain⟨k,h1,_⟩:=h e he;exact⟨k,h1⟩
theorem DL {vs:List Value}(h:∀v∈vs,∃k,(t8 prog w).knd.is k v=true):StrsAre vs (vs.map toT):=by
 induction vs with
 | nil=>exact .nil
 | cons u us ih =>obtain⟨k,hk⟩:=h u KP;obtain⟨t,rfl⟩:=M1 (show Value.isStrOf k u=true from hk);exact .cons k t (ih fun v hv=>h v (KN _ hv))
theorem uQ (hh:A.handled=none)(hZ:SetZ (t8 prog w) (!(byT w)) s.heap a zs)(hz:zs.length<64)(h:∀h' tk d l out e ns',(∀b o,b<s.heap.objs.size->s.heap.get? b=some o->h'.get? b=some o)->s.heap.objs.size<=l->h'.get? l=some (seqObj "list" out e)->StrsAre out.toList ns'->sortedS ns'=true->ns'.Nodup->(∀i,i∈ns'↔i∈zs)->ns'.length<=zs.length ->
   Q (.ref l) { s with heap:=h',toks:=tk,drawn:=d }) :
  wpAny (model prog w) A (call (.builtin "sorted") [.ref a]) Q E s:=by
 obtain⟨es,ep,t,ho,D⟩:=hZ;have ln:=D.ln;refine Calls.call_function_entry kind_sorted plain_sorted entry_sorted (args_sorted1 _) ?_;unfold Builtin.«sorted»;refine KF (m:=checkCount "sorted" 1 1 _) (KG ?_);refine KF (uf (A:=A.in1) hh ho D.tb (by omega) fun h1 tk d acc k1 z1 pm=>?_);have la:acc.length=es.size:=by rw[pm.length_eq,LA,LI]
 have hS:StrsAre acc (acc.map toT):=DL (Gw D.el pm);refine KF (wpAny_newList ?_ (by rw[la,sizeLine_eq];omega));have hoL:(h1.push (seqObj "list" acc.toArray 0)).get? h1.objs.size=some (seqObj "list" acc.toArray 0):=KL _ rfl;refine KF (LU (wpAny_call_entry slot_list_sort ⟨_,hoL,rfl⟩ entry_list_sort (list_sort_treeK strKind_oneLt hoL hS.keysOf (fun v₁ v₂ rest e=>keyKind_strs (by rw[<-e];exact hS)) (by rw[la];omega) fun st' hp hs=>⟨_,rfl,?_⟩) (args_list_sort _)));obtain⟨ss',a1,a2,a3⟩:=sorted_out_str hS hp hs;refine KG ⟨_,rfl,?_⟩;obtain⟨e,he⟩:=sortedHeap_at (out:=(arrOf st').map (·.2)) hoL;have pz:ss'.Perm (es.toList.map fun e=>toT e.2):=by refine a2.trans ?_;have:=pm.map toT;rw[MA] at this;exact this
 refine h _ tk d h1.objs.size _ e ss' (fun b o hb eb=>?_) z1 he a1 a3 (pz.nodup_iff.mpr D.nd) (fun i=>(pz.mem_iff).trans (D.mem i)) ?_
 ·have lb:b<h1.objs.size:=KZ hb z1;rw[sortedHeap_old (K0 lb) (by rw[size_push'];exact L_ lb)];exact KH _ (k1 b o hb eb)
 ·rw[pz.length_eq,LA,LI];exact ln
end
end FW
namespace L2
section
variable {X:Cx}
theorem DK:fillsInplaceSlot (.type "list") "add" (Operator.Add == .Add)=pure false:=by
 unfold fillsInplaceSlot;show (typeLookup (.type "list") (dunderI "add") >>= fun fi=>pure (fi.isSome && !isSeqSlot fi))=pure false;rw[F.slot_list_iadd.lookup];have e:isSeqSlot (some (.builtin "list.__iadd__"))=true:=by decide +kernel
 show (pure (true && !isSeqSlot (some (.builtin "list.__iadd__"))):Sem Bool)=pure false;rw[e];rfl
theorem DH:seqSlot? (.type "list") (dunderI "add")=pure (some (.builtin "list.__iadd__")):=PySem.seqSlot_of F.slot_list_iadd.lookup (by decide +kernel)
theorem yv {M:Model}{E:Value->Shared->Prop}{s:Shared}(ha:s.TypeIs a "list")(hb:s.TypeIs b "list")(hc:wpAny M A (call (.builtin "list.__iadd__") [a,b]) Q E s):wpAny M A (inplaceOp .Add a b) Q E s:=by
 unfold inplaceOp;refine LU ?_;refine KF (wpAny_typeOf ha (KF (wpAny_of_eq DK ?_)));show wpAny M A (if false=true then _ else _) Q E s;rw[KW KI];refine KF (wpAny_binaryOp1_none (nm:="add") ha hb noFill_list_add ?_);refine KF (wpAny_of_eq DH ?_);exact KF (wpAny_rule hc)
theorem Hs:PIp X .Add (fun x y H Q=>∃l b xs zs,x=.ref l/\y=.ref b/\H l=some (.lst xs)/\H b=some (.lst zs)/\xs.length+zs.length<=sizeLine/\Q (.ref l) (upd H l (.lst (xs++zs)))):=by
 intro pins s σ H x y v u Q I rx ry h;obtain⟨l,b,xs,zs,rfl,rfl,hH,hB,hz,q⟩:=h;cases rx;cases ry;obtain⟨z,its,n,r,hl,e⟩:=I.lstM hH;obtain⟨z2,its2,n2,r2,hl2,e2⟩:=I.lstM hB;have hsz:its.toArray.size+its2.toArray.size<=sizeLine:=by rw[K3,K3];omega
 have hlong:¬(!its.toArray.isEmpty && Builtin.List.listTooLong (its.toArray.size+its2.toArray.size))=true:=by rw[AI hsz,N8];exact KI
 refine yv ⟨_,e,rfl⟩ ⟨_,e2,rfl⟩ ?_;refine call_meets F.slot_list_iadd ⟨_,e,rfl⟩ F.entry_list_iadd (F.args_list_iadd_2 _ _)
  (AutoSeq1.list___iadd___list_list_0 l its.toArray n b its2.toArray n2 hlong (by rw[K3];omega) (by omega)) ⟨e,e2,?_⟩
 refine⟨.ref l,_,I.lset (its':=its++its2) hH e (by simp) (r.append r2) ?_,rfl,q⟩;rw[LJ];omega
end
end L2
namespace L2
structure KB (h:Heap)(f:Addr)(qual:Str)(params:Arguments)(body:Expr)(scope:Scope)(cl:List (Str × Addr)):Prop where
 ex:∃pm c' ctv,h.get? f=some (W.kla_obj "<lambda>" qual params body scope cl pm c' ctv)/\h.CodeRec (.ref c') qual
structure II (x:Str)(scope:Scope)(cl:List (Str × Addr)):Prop where
 kind:scope.kind=.function
 co:scope.isCoroutine=false
 gen:scope.isGenerator=false
 nocell:∀y∈scope.names,y.2≠.cell
 par:scope.names.lookup x=some .local
 free:∀y,scope.names.lookup y=some .free->∃c,cl.lookup y=some c
 inj:∀y z c,cl.lookup y=some c->cl.lookup z=some c->y=z
end L2
namespace L2
def GW (oc:Obj)(q:Str):Prop:=∃vs t,oc.data=.fields vs/\vs[1]?=some (.str q t)
end L2
namespace FW
open PySem L2 HX
set_option genInjectivity true
set_option genCtorIdx true
inductive PV where
 | non|bl (b:Bool)|int (i:Int)|str (x:Str)|tup (xs:List PV)|ref (n:Nat)|rdl (xs:List PV)|fn (a:Nat)
 deriving Inhabited
inductive Cell where
 | lst (xs:List PV)
 | dk (kvs:List (Key × PV))
 | fz (kvs:List (Key × PV))
 | od (kvs:List (PV × PV))
noncomputable abbrev AH:=List Cell
noncomputable abbrev Fr:=List (Option PV)
noncomputable abbrev EK:=PV->AH->Prop
noncomputable abbrev LK:=List PV->AH->Prop
noncomputable abbrev BK:=Bool->AH->Prop
noncomputable abbrev FSp:=List PV->AH->EK->Prop
mutual
noncomputable def PV.bel (k:Nat):PV->Bool
 | .ref n=>decide (n<k)
 | .tup xs=>PV.bels k xs
 | .rdl xs=>PV.bels k xs
 | .non=>true
 | .bl _=>true
 | .int _=>true
 | .str _=>true
 | .fn _=>false
noncomputable def PV.bels (k:Nat):List PV->Bool
 | []=>true
 | x::xs=>x.bel k && PV.bels k xs
end
mutual
noncomputable def PV.bec (k:Nat):PV->Bool
 | .ref n=>decide (n<k)
 | .tup xs=>PV.becs k xs
 | .rdl xs=>PV.becs k xs
 | .non=>true
 | .bl _=>true
 | .int _=>true
 | .str _=>true
 | .fn _=>true
noncomputable def PV.becs (k:Nat):List PV->Bool
 | []=>true
 | x::xs=>x.bec k && PV.becs k xs
end
mutual
theorem PV.bel_bec {i j:Nat}(h:i<=j):∀ {v:PV},v.bel i=true->v.bec j=true
 | .non,_=>by rw[PV.bec]
 | .bl _,_=>by rw[PV.bec]
 | .int _,_=>by rw[PV.bec]
 | .str _,_=>by rw[PV.bec]
 | .ref n,z=>by rw[PV.bel] at z;rw[PV.bec];have:=LL z;exact LF (by omega)
 | .tup xs,z=>by rw[PV.bel] at z;rw[PV.bec];exact PV.bels_becs h z
 | .rdl xs,z=>by rw[PV.bel] at z;rw[PV.bec];exact PV.bels_becs h z
 | .fn _,z=>by rw[PV.bel] at z;cases z
theorem PV.bels_becs {i j:Nat}(h:i<=j):∀ {vs:List PV},PV.bels i vs=true->PV.becs j vs=true
 | [],_=>by rw[PV.becs]
 | v::vs,z=>by rw[PV.bels,KM] at z;rw[PV.becs,KM];exact⟨PV.bel_bec h z.1,PV.bels_becs h z.2⟩
end
noncomputable def Cell.bec (k:Nat):Cell->Bool
 | .lst xs=>PV.becs k xs
 | .dk kvs=>PV.becs k (kvs.map (·.2))
 | .fz kvs=>PV.becs k (kvs.map (·.2))
 | .od kvs=>PV.becs k (kvs.map (·.1)) && PV.becs k (kvs.map (·.2))
noncomputable def Cell.bel (k:Nat):Cell->Bool
 | .lst xs=>PV.bels k xs
 | .dk kvs=>PV.bels k (kvs.map (·.2))
 | .fz _=>false
 | .od _=>false
mutual
noncomputable def PV.toD:PV->Option PyData
 | .non=>some .none
 | .bl b=>some (.bool b)
 | .int i=>some (.int i)
 | .str x=>some (.str x)
 | .tup xs=>(PV.toDs xs).map .tuple
 | .rdl xs=>(PV.toDs xs).map .list
 | .ref _=>none
 | .fn _=>none
noncomputable def PV.toDs:List PV->Option (List PyData)
 | []=>some []
 | x::xs=>match x.toD,PV.toDs xs with
  | some d,some ds=>some (d::ds)
  | _,_=>none
end
noncomputable def lC (st:AH):PV->Option PyData
 | .ref n=>match st[n]? with
  | some (.lst xs)=>(PV.toDs xs).map .list
  | _=>none
 | v=>v.toD
def eqW (st:AH)(x y:PV)(k:Bool->Prop):Prop :=
 match x,y with
 | .int i,.int j=>k (decide (i=j))
 | .bl a,.bl b=>k (decide (a=b))
 | .str a,.str b=>k (decide (a=b))
 | x,y=>∃d e,lC st x=some d/\lC st y=some e/\SeqAt.shaped d=true/\SeqAt.shaped e=true/\k (PyData.eqv d e)
noncomputable def bc (st:AH):PV->Option String
 | .non=>some "NoneType"
 | .bl _=>some "bool"
 | .int _=>some "int"
 | .str _=>some "str"
 | .tup _=>some "tuple"
 | .rdl _=>some "list"
 | .ref n=>match st[n]? with
  | some (.lst _)=>some "list"
  | some (.dk _)=>some "dict"
  | some (.fz _)=>some "dict"
  | some (.od _)=>some "dict"
  | none=>none
 | .fn _=>none
noncomputable def aT (st:AH):PV->Option (List PV)
 | .rdl xs=>some xs
 | .ref n=>match st[n]? with
  | some (.lst xs)=>some xs
  | _=>none
 | _=>none
noncomputable def bb (st:AH):PV->Option (List PV)
 | .tup xs=>some xs
 | v=>aT st v
noncomputable def fE (xs:List PV)(lo hi:Option Int):List PV:=(xs.drop (HT.sIx xs.length 0 lo)).take (HT.sIx xs.length xs.length hi-HT.sIx xs.length 0 lo)
noncomputable def b2z (b:Bool):Int:=if b then 1 else 0
def iiW (f:Int->Int->Prop)(x y:PV):Prop :=
 match x with
 | .int i=>match y with
  | .int j=>f i j
  | _=>False
 | _=>False
def J2 (x y:PV)(st:AH)(Q:EK):Prop :=
 match x with
 | .int i=>match y with
  | .int j=>Q (.int (i+j)) st
  | _=>False
 | .ref n=>match y with
  | .ref k=>∃xs ys,st[n]?=some (.lst xs)/\st[k]?=some (.lst ys)/\xs.length+ys.length<=100000/\Q (.ref st.length) (st++[.lst (xs++ys)])
  | _=>False
 | .tup xs=>match y with
  | .tup ys=>xs.length+ys.length<=100000/\Q (.tup (xs++ys)) st
  | _=>False
 | .str a=>match y with
  | .str b=>a.length+b.length<=100000/\Q (.str (a++b)) st
  | _=>False
 | _=>False
def Kg (x y:PV)(st:AH)(Q:EK):Prop :=
 match x with
 | .int i=>match y with
  | .int j=>CMB i j/\Q (.int (i*j)) st
  | _=>False
 | _=>False
def i_ (op:Operator)(x y:PV)(st:AH)(Q:EK):Prop :=
 match op with
 | .Add=>J2 x y st Q
 | .Sub=>iiW (fun i j=>Q (.int (i-j)) st) x y
 | .Mult=>Kg x y st Q
 | .FloorDiv=>iiW (fun i j=>CBig j/\Q (.int (i/j)) st) x y
 | .Mod=>iiW (fun i j=>0<j/\Q (.int (i % j)) st) x y
 | .Pow=>iiW (fun i j=>A5 i j/\Q (.int (i ^ j.toNat)) st) x y
 | _=>False
noncomputable def fD (kvs:List (Key × PV))(k:Key):Option PV:=(kvs.find? fun kv=>decide (kv.1=k)).map (·.2)
noncomputable def ly (kvs:List (Key × PV))(k:Key)(v:PV):List (Key × PV) :=
 if (kvs.any fun kv=>decide (kv.1=k))=true then kvs.map (fun kv=>if kv.1=k then (kv.1,v) else kv) else kvs++[(k,v)]
noncomputable def kP:Key->PV
 | .inl i=>.int i
 | .inr x=>.str x
inductive DW where
 | items|values
 deriving DecidableEq
noncomputable def bF:DW->List (Key × PV)->List PV
 | .items,kvs=>kvs.map fun p=>.tup [kP p.1,p.2]
 | .values,kvs=>kvs.map fun p=>p.2
noncomputable def FE (ps:List (Str × PV)):List (Key × PV):=ps.foldl (fun d p=>ly d (.inr p.1) p.2) []
def wu (x y:PV):Prop:=x=y/\∃d,x.toD=some d/\SeqAt.shaped d=true
def Bw (st:AH)(x y:PV):Prop:=wu x y\/∃n k kvs lvs,x=.ref n/\y=.ref k/\st[n]?=some (.dk kvs)/\st[k]?=some (.dk lvs)/\kvs.length=lvs.length/\∀p∈kvs,∃u,fD lvs p.1=some u/\wu p.2 u
noncomputable def vQ (st:AH):List PV->List PV->Prop
 | [],[]=>True
 | x::xs,y::ys=>Bw st x y/\vQ st xs ys
 | _,_=>False
def pC (st:AH)(x y:PV):Prop:=∃n k kvs lvs,x=.ref n/\y=.ref k/\st[n]?=some (.dk kvs)/\st[k]?=some (.dk lvs)/\(∀p∈kvs,∃d,p.2.toD=some d/\SeqAt.shaped d=true)/\(∀p∈lvs,∃d,p.2.toD=some d/\SeqAt.shaped d=true)/\(kvs.length≠lvs.length\/∃p∈kvs,∀u,fD lvs p.1=some u->∃d d',p.2.toD=some d/\u.toD=some d'/\PyData.eqv d d'=false)
def tS (st:AH)(x y:PV):Prop:=(∃xs ys,x=.tup xs/\y=.tup ys/\vQ st xs ys)\/∃n k,x=.ref n/\y=.ref k/\Bw st x y
def inR (a:Str)(n:Nat)(st:AH)(k:Bool->Prop):Prop:=(∃ns:List Str,st[n]?=some (.lst (ns.map PV.str))/\k (ns.any fun j=>j == a))\/False
def fI (op:CmpOp)(x y:PV)(st:AH)(Q:EK):Prop :=
 match op with
 | .Eq=>eqW st x y fun k=>Q (.bl k) st
 | .NotEq=>eqW st x y fun k=>Q (.bl (!k)) st
 | .Is=>False
 | .IsNot=>False
 | .Lt=>match x,y with
  | .str a,.str b=>Q (.bl (decide (a.cps.toList<b.cps.toList))) st
  | .int i,.int j=>Q (.bl (decide (i<j))) st
  | _,_=>False
 | .LtE=>False
 | .Gt=>match x,y with
  | .int i,.int j=>Q (.bl (decide (j<i))) st
  | _,_=>False
 | .GtE=>match x,y with
  | .int i,.int j=>Q (.bl (decide (j<=i))) st
  | _,_=>False
 | .In=>match x,y with
  | .str a,.str b=>Q (.bl (!(Builtin.Str.occurrences b a 0 b.length 1).isEmpty)) st
  | .str a,.ref n=>inR a n st fun k=>Q (.bl k) st
  | _,_=>False
 | .NotIn=>match x,y with
  | .str a,.str b=>Q (.bl (!(!(Builtin.Str.occurrences b a 0 b.length 1).isEmpty))) st
  | .int i,.tup xs=>∃ns:List Int,xs=ns.map PV.int/\Q (.bl (!(ns.any fun j=>j == i))) st
  | .str a,.ref n=>inR a n st fun k=>Q (.bl (!k)) st
  | _,_=>False
def uR (o:Option (Option PV))(f:PV->Prop):Prop :=
 match o with
 | some (some v)=>f v
 | _=>False
theorem js (h:uR o f):∃v,o=some (some v)/\f v:=by
 cases o with
 | none=>exact False.elim h
 | some o=>cases o with|none=>exact False.elim h|some v=>exact⟨v,rfl,h⟩
theorem rA {o:Option (Option PV)}{f:PV->Prop}(e:o=some (some v))(h:f v):uR o f:=by subst e;exact h
theorem oM:uR (some (some v)) f=f v:=rfl
def ixI (i:Int)(st:AH)(Q:EK)(x:PV):Prop :=
 match x with
 | .str z=>z.length<=100000/\∃c,atI z.cps.toList i=some c/\Q (.str ⟨#[c]⟩) st
 | x=>∃xs,bb st x=some xs/\∃v,atI xs i=some v/\Q v st
theorem v_ (h:ixI i st Q x):(∃z c,x=.str z/\z.length<=100000/\atI z.cps.toList i=some c/\Q (.str ⟨#[c]⟩) st)\/∃xs v,bb st x=some xs/\atI xs i=some v/\Q v st:=by
 cases x with
 | str z=>exact .inl ⟨z,h.2.choose,rfl,h.1,h.2.choose_spec⟩
 | _=>obtain⟨xs,e,v,e2,q⟩:=h;exact .inr ⟨xs,v,e,e2,q⟩
theorem DA {Q:EK}(e:bb st x=some xs)(e2:atI xs i=some v)(h:Q v st):ixI i st Q x:=by cases x with|str z=>cases e|_=>exact⟨xs,e,v,e2,h⟩
def ixD (z:Str)(st:AH)(Q:EK)(x:PV):Prop :=
 match x with
 | .ref n=>∃kvs v,(st[n]?=some (.dk kvs)\/st[n]?=some (.fz kvs))/\fD kvs (.inr z)=some v/\Q v st
 | _=>False
theorem wY (h:ixD z st Q x):∃n kvs v,x=.ref n/\(st[n]?=some (.dk kvs)\/st[n]?=some (.fz kvs))/\fD kvs (.inr z)=some v/\Q v st:=by
 cases x with
 | ref n=>obtain⟨kvs,v,h⟩:=h;exact⟨n,kvs,v,rfl,h⟩
 | _=>exact False.elim h
def ixW (x y:PV)(st:AH)(Q:EK):Prop :=
 match y with
 | .int i=>ixI i st Q x
 | .str z=>ixD z st Q x
 | _=>False
noncomputable def l7 (z:Str)(lo hi:Option Int):Str:=if ((Builtin.Str.strSliceIndices lo hi 1 z.length).length == z.length)=true then z else ⟨((Builtin.Str.strSliceIndices lo hi 1 z.length).filterMap (z.cps[·]?)).toArray⟩
def slW (x:PV)(lo hi:Option Int)(st:AH)(Q:EK):Prop :=
 match x with
 | .str z=>z.length<=100000/\Q (.str (l7 z lo hi)) st
 | .tup xs=>Q (.tup (fE xs lo hi)) st
 | x=>∃xs,aT st x=some xs/\Q (.ref st.length) (st++[.lst (fE xs lo hi)])
def FZ (st:AH)(Q:EK)(x:PV):Prop :=
 match x with
 | .str z=>z.length<=100000/\Q (.int z.length) st
 | x=>∃xs,bb st x=some xs/\Q (.int xs.length) st
theorem tF (h:FZ st Q x):(∃z,x=.str z/\z.length<=100000/\Q (.int z.length) st)\/∃xs,bb st x=some xs/\Q (.int xs.length) st:=by cases x with|str z=>exact .inl ⟨z,rfl,h⟩|_=>exact .inr h
theorem BC {Q:EK}(e:bb st x=some xs)(h:Q (.int xs.length) st):FZ st Q x:=by cases x with|str z=>cases e|_=>exact⟨xs,e,h⟩
def FG (st:AH)(Q:EK)(x:PV):Prop :=
 match x with
 | .bl b=>Q (.int (b2z b)) st
 | _=>False
theorem qa (h:FG st Q x):∃b,x=.bl b/\Q (.int (b2z b)) st:=by cases x with|bl b=>exact⟨b,rfl,h⟩|_=>exact False.elim h
noncomputable def dw {α:Type}:List (Option α)->Option (List α)
 | []=>some []
 | some x::r=>(dw r).map (x::·)
 | none::_=>none
noncomputable def kD:Key->PyData
 | .inl i=>.int i
 | .inr x=>.str x
noncomputable def shX (st:AH):Nat->PV->Option PyData
 | _,.non=>some .none
 | _,.bl c=>some (.bool c)
 | _,.int i=>some (.int i)
 | _,.str x=>some (.str x)
 | n+1,.tup xs=>(dw (xs.map (shX st n))).map .tuple
 | n+1,.ref k=>match st[k]? with
  | some (.lst xs)=>(dw (xs.map (shX st n))).map .list
  | some (.dk kvs)=>(dw (kvs.map fun kv=>shX st n kv.2)).map fun ds=>.dict ((kvs.map fun kv=>kD kv.1).zip ds)
  | some (.od kvs)=>match dw (kvs.map fun kv=>shX st n kv.1) with
   | some es=>(dw (kvs.map fun kv=>shX st n kv.2)).map fun ds=>.dict (es.zip ds)
   | none=>none
  | some (.fz _)=>none
  | none=>none
 | 0,.tup _=>none
 | 0,.ref _=>none
 | _,.rdl _=>none
 | _,.fn _=>none
def k9 (st:AH)(Q:EK)(x:PV):Prop :=
 match x with
 | .non=>Q (.str "None") st
 | .bl b=>Q (.str (if b then "True" else "False")) st
 | .int i=>i.natAbs.log2<1920/\Q (.str (toString i)) st
 | .str z=>(reprText z).length<=sizeLine/\Q (.str (reprText z)) st
 | x=>∃d,shX st 9 x=some d/\(d.showable=true/\d.depth<=60/\d.shown.length<=sizeLine)/\Q (.str d.shown) st
inductive B where
 | len|max2|min2|divmod|int1|str1|tuple1|list1|all1|any1|abs1|sorted1|repr1|sortS|max1|sortD|repr2|listD
 deriving DecidableEq
noncomputable def gq:List PV->Option (List Bool)
 | []=>some []
 | .bl b::r=>(gq r).map (b::·)
 | _::_=>none
def lA (f:PV->Prop)(vs:List PV):Prop :=
 match vs with
 | [x]=>f x
 | _=>False
def Ba (f:PV->PV->Prop)(vs:List PV):Prop :=
 match vs with
 | [x,y]=>f x y
 | _=>False
def inW (f:Int->Prop)(x:PV):Prop :=
 match x with
 | .int b=>f b
 | _=>False
def tuW (f:List PV->Prop)(x:PV):Prop :=
 match x with
 | .tup b=>f b
 | _=>False
def cP (b:B)(vs:List PV)(st:AH)(Q:EK):Prop :=
 match b with
 | .len=>lA (FZ st Q) vs
 | .max2=>Ba (iiW fun i j=>Q (.int (if i<j then j else i)) st) vs
 | .min2=>Ba (iiW fun i j=>Q (.int (if j<i then j else i)) st) vs
 | .divmod=>Ba (iiW fun i j=>CBig j/\Q (.tup [.int (i/j),.int (i % j)]) st) vs
 | .int1=>lA (FG st Q) vs
 | .str1=>False
 | .tuple1=>lA (fun x=>∃xs,bb st x=some xs/\Q (.tup xs) st) vs
 | .list1=>lA (fun x=>∃xs,bb st x=some xs/\Q (.ref st.length) (st++[.lst xs])) vs
 | .all1=>lA (fun x=>∃xs bs,aT st x=some xs/\gq xs=some bs/\Q (.bl (bs.all id)) st) vs
 | .any1=>lA (fun x=>∃xs bs,aT st x=some xs/\gq xs=some bs/\Q (.bl (bs.any id)) st) vs
 | .abs1=>False
 | .sorted1=>False
 | .repr1=>False
 | .sortS=>lA (fun x=>∃ss:List Str,aT st x=some (ss.map PV.str)/\ss.length<64/\∀ss':List Str,ss'.Perm ss->PyProof.Rows.sortedS ss'=true->Q (.ref st.length) (st++[.lst (ss'.map PV.str)])) vs
 | .max1=>False
 | .sortD=>lA (fun x=>∃n,x=.ref n/\∃kvs,(st[n]?=some (.dk kvs)\/st[n]?=some (.fz kvs))/\∃ss:List Str,kvs.map (·.1)=ss.map Sum.inr/\ss.length<64/\∀ss':List Str,ss'.Perm ss->PyProof.Rows.sortedS ss'=true->Q (.ref st.length) (st++[.lst (ss'.map PV.str)])) vs
 | .repr2=>lA (k9 st Q) vs
 | .listD=>lA (fun x=>∃n,x=.ref n/\∃kvs,st[n]?=some (.dk kvs)/\kvs.length<1000/\Q (.ref st.length) (st++[.lst (kvs.map fun p=>kP p.1)])) vs
inductive M where
 | append|pop0|extend|insert|count|index|popI
 deriving DecidableEq
def rfW (f:Nat->Prop)(x:PV):Prop :=
 match x with
 | .ref n=>f n
 | _=>False
def sg (m:M)(x:PV)(vs:List PV)(st:AH)(Q:EK):Prop :=
 match m with
 | .append=>rfW (fun n=>lA (fun v=>∃xs,st[n]?=some (.lst xs)/\xs.length<100000/\Q .non (st.set n (.lst (xs++[v])))) vs) x
 | .pop0=>False
 | .extend=>False
 | .insert=>rfW (fun n=>Ba (fun i v=>inW (fun i=>∃xs,st[n]?=some (.lst xs)/\xs.length<100000/\0<=i/\i<=xs.length/\Q .non (st.set n (.lst (xs.take i.toNat++v::xs.drop i.toNat)))) i) vs) x
 | .count=>False
 | .index=>False
 | .popI=>False
theorem bP (h:iiW f x y):∃i j,x=.int i/\y=.int j/\f i j:=by
 cases x with
 | int i =>
  cases y with
  | int j=>exact⟨i,j,rfl,rfl,h⟩
  | _=>exact False.elim h
 | _=>exact False.elim h
theorem aI (h:lA f vs):∃x,vs=[x]/\f x:=by
 cases vs with
 | nil=>exact False.elim h
 | cons x t =>
  cases t with
  | nil=>exact⟨x,rfl,h⟩
  | cons _ _=>exact False.elim h
theorem dy (h:Ba f vs):∃x y,vs=[x,y]/\f x y:=by
 cases vs with
 | nil=>exact False.elim h
 | cons x t =>
  cases t with
  | nil=>exact False.elim h
  | cons y t =>
   cases t with
   | nil=>exact⟨x,y,rfl,h⟩
   | cons _ _=>exact False.elim h
theorem wg (h:inW f x):∃b,x=.int b/\f b:=by
 cases x with
 | int b=>exact⟨b,rfl,h⟩
 | _=>exact False.elim h
theorem wj (h:tuW f x):∃b,x=.tup b/\f b:=by
 cases x with
 | tup b=>exact⟨b,rfl,h⟩
 | _=>exact False.elim h
theorem lV {f:Nat->Prop}(h:rfW f x):∃b,x=.ref b/\f b:=by
 cases x with
 | ref b=>exact⟨b,rfl,h⟩
 | _=>exact False.elim h
def fc (x:PV)(st:AH)(Q:BK):Prop :=
 match x with
 | .bl b=>Q b st
 | .non=>Q false st
 | .int i=>Q (i != 0) st
 | .str _=>False
 | x=>∃xs,bb st x=some xs/\Q (!xs.isEmpty) st
def Sub (st st':AH):Prop:=∀i,i<st.length->st'[i]?=st[i]?\/∃c,st'[i]?=some c/\c.bel 0=true
noncomputable def Tmp (st:AH)(Q:EK):EK:=fun v st'=>∃st1 g,st'=st1++g/\st1.length=st.length/\Sub st st1/\v.bel st.length=true/\Q v st1
noncomputable def Ret (st:AH)(Q:EK):EK:=fun v st'=>Q v st'\/Tmp st Q v st'
inductive SM where
 | join
 deriving DecidableEq
def smW (k:SM)(x y:PV)(st:AH)(Q:EK):Prop :=
 match x with
 | .str z=>match k with
  | .join=>∃ss:List Str,aT st y=some (ss.map PV.str)/\JoinOk z ss=true/\Q (.str (Txt.join z ss)) st
 | _=>False
inductive UK where
 | rev|ssT|isE
 deriving DecidableEq
def unW (k:UK)(x:PV)(st:AH)(Q:EK):Prop :=
 match k with
 | .rev=>tuW (fun xs=>Q (.tup xs.reverse) st) x
 | .ssT=>∃ss:List Str,bb st x=some (ss.map PV.str)/\ss.length<60/\∀ss':List Str,PyProof.Rows.sortedS ss'=true->ss'.Nodup->(∀i,i∈ss'↔i∈ss)->ss'.length<=ss.length->Q (.ref st.length) (st++[.lst (ss'.map PV.str)])
 | .isE=>∃xs,aT st x=some xs/\Q (.bl xs.isEmpty) st
set_option genInjectivity false
set_option genCtorIdx false
mutual
inductive E where
 | var (i:Nat)|int (i:Int)|bl (b:Bool)|non|str (x:Str)|gv (x:Str) (v:PV)
 | tup (es:Es)|lst (es:Es)|dct0|dct1 (k:Str) (i:Int)
 | bin (op:Operator) (a b:E)|neg (a:E)|not (a:E)
 | cmp (op:CmpOp) (a b:E)
 | bop (isAnd:Bool) (es:Es)
 | ite (c a b:E)
 | ix (a b:E)|sl (a:E) (lo hi:O)
 | call (f:Nat) (es:Es)
 | blt (b:B) (es:Es)
 | inst (a:E) (t:String)
 | met (m:M) (o:E) (es:Es)
 | comp (elt:E) (tg:Tg) (it:It) (ifs:Es) (nt:List Str) (caps:List Nat)
 | tmp (a:E)
 | bad
 | jrev (a:E)|part (a:E) (y:Str)|sset (a:E)|clr (a:E)|dcp (a:E)|dget (a b:E)
 | pcall (i:Nat) (e:E)|hm (e be:E) (caps:List Nat)
 | compK (elt:E) (tg:Tg) (wk:DW) (e:E) (ifs:Es) (nt:List Str) (caps:List Nat)
 | compD (kx vx:E) (tg:Tg) (wk:DW) (e:E) (ifs:Es) (nt:List Str) (caps:List Nat)
 | dcl (a:E)|eqd (ne:Bool) (a b:E)|dct2 (k v:E)|smx (k:SM) (a b:E)
 | un (k:UK) (a:E)|compO (elt:E) (tg:Tg) (e:E) (ifs:Es) (nt:List Str) (caps:List Nat)
inductive Es where
 | nil|cons (e:E) (es:Es)
inductive O where
 | no|yes (e:E)
inductive It where
 | seq (e:E)|range1 (a:E)|range2 (a b:E)|zip (a b:E)|enum (a:E)|chars (e:E)|range3 (a b c:E)|zip3 (a b c:E)
inductive Tg where
 | name (i:Nat)|tup (ts:Tgs)|ltup (ts:Tgs)|sub (o i:E)|subO (o i:E)
inductive Tgs where
 | nil|cons (t:Tg) (ts:Tgs)
end
noncomputable def Tgs.size:Tgs->Nat
 | .nil=>0
 | .cons _ ts=>ts.size+1
def qO (o i v:PV)(st:AH)(k:AH->Prop):Prop :=
 match o,i with
 | .ref n,.int j=>∃xs,st[n]?=some (.lst xs)/\∃q,ixN xs.length j=some q/\k (st.set n (.lst (xs.set q v)))
 | .ref n,.str z=>∃kvs,st[n]?=some (.dk kvs)/\kvs.length<=1000/\k (st.set n (.dk (ly kvs (.inr z) v)))
 | _,_=>False
noncomputable def Gu:PV->Bool
 | .non=>true
 | .bl _=>true
 | .int _=>true
 | .tup [.str z]=>PyData.strOk z
 | _=>false
noncomputable def bp (kvs:List (Key × PV)):List (PV × PV):=kvs.map fun p=>(kP p.1,p.2)
def Hi (kvs:List (Key × PV)):Prop:=∃ss:List Str,kvs.map (·.1)=ss.map Sum.inr/\∀z∈ss,PyData.strOk z=true
def sv (n:Nat)(i v:PV)(st:AH)(k:AH->Prop):Prop :=
 ∃kvs,st[n]?=some (.dk kvs)/\kvs.length<=1000/\match i with
  | .str z=>k (st.set n (.dk (ly kvs (.inr z) v)))
  | i=>Gu i=true/\Hi kvs/\k (st.set n (.od (bp kvs++[(i,v)])))
noncomputable def bB (kvs:List (PV × PV)):List PV:=kvs.map fun p=>.tup [p.1,p.2]
noncomputable def cQ (chk:AH->Prop)(body:PV->AH->(Option PV->AH->Prop)->Prop):List PV->List PV->AH->LK->Prop
 | [],acc,st,Q=>chk st/\Q acc st
 | x::xs,acc,st,Q=>chk st/\body x st fun o st'=>cQ chk body xs (acc++o.toList) st' Q
noncomputable def gJ (st:AH):PV->AH->Prop
 | .ref n=>fun st'=>st'[n]?=st[n]?
 | _=>fun _=>True
noncomputable def bU (lo:Int)(n:Nat):List PV:=(List.range n).map fun (i:Nat)=>PV.int (lo+(i:Int))
noncomputable def dO:List PV->List PV->List PV
 | x::xs,y::ys=>.tup [x,y]::dO xs ys
 | _,_=>[]
noncomputable def bo (z:Str):List PV:=z.cps.toList.map fun c=>.str ⟨#[c]⟩
noncomputable def Gx (g:PV->Bool)(xs:List PV):Nat->Nat->Nat->Nat
 | 0,lo,_=>lo
 | n+1,lo,hi=>if lo<hi then (if g (xs.getD ((lo+hi)/2) .non)=true then Gx g xs n ((lo+hi)/2+1) hi else Gx g xs n lo ((lo+hi)/2)) else lo
noncomputable def bsr (g:PV->Bool)(xs:List PV):Nat:=Gx g xs xs.length 0 xs.length
section
variable (Γ:Nat->FSp)
mutual
noncomputable def wpE:E->Fr->AH->EK->Prop
 | .var i,ρ,st,Q=>uR ρ[i]? fun v=>Q v st
 | .int i,_,st,Q=>Q (.int i) st
 | .bl b,_,st,Q=>Q (.bl b) st
 | .non,_,st,Q=>Q .non st
 | .str x,_,st,Q=>Q (.str x) st
 | .gv _ v,_,st,Q=>Q v st
 | .tup es,ρ,st,Q=>cC es ρ st fun vs st1=>vs.length<=100000/\Q (.tup vs) st1
 | .lst es,ρ,st,Q=>cC es ρ st fun vs st1=>vs.length<=100000/\Q (.ref st1.length) (st1++[.lst vs])
 | .dct0,_,st,Q=>Q (.ref st.length) (st++[.dk []])
 | .dct1 _ _,_,_,_=>False
 | .bin op a b,ρ,st,Q=>wpE a ρ st fun x st1=>wpE b ρ st1 fun y st2=>i_ op x y st2 Q
 | .neg a,ρ,st,Q=>wpE a ρ st fun x st1=>∃i,x=.int i/\Q (.int (-i)) st1
 | .not a,ρ,st,Q=>wpE a ρ st fun x st1=>∃c,x=.bl c/\Q (.bl (!c)) st1
 | .cmp op a b,ρ,st,Q=>wpE a ρ st fun x st1=>wpE b ρ st1 fun y st2=>fI op x y st2 Q
 | .bop true es,ρ,st,Q=>qg es ρ st Q
 | .bop false es,ρ,st,Q=>qU es ρ st Q
 | .ite c a b,ρ,st,Q=>wpT c ρ st fun k st1=>if k=true then wpE a ρ st1 Q else wpE b ρ st1 Q
 | .ix a b,ρ,st,Q=>wpE a ρ st fun x st1=>wpE b ρ st1 fun y st2=>ixW x y st2 Q
 | .sl a lo hi,ρ,st,Q=>wpE a ρ st fun x st1=>wpO lo ρ st1 fun l st2=>wpO hi ρ st2 fun h st3=>slW x l h st3 Q
 | .call f es,ρ,st,Q=>cC es ρ st fun vs st1=>Γ f vs st1 Q
 | .blt b es,ρ,st,Q=>cC es ρ st fun vs st1=>cP b vs st1 Q
 | .inst a t,ρ,st,Q=>wpE a ρ st fun x st1=>∃n,bc st1 x=some n/\Q (.bl (aH t n)) st1
 | .met m o es,ρ,st,Q=>wpE o ρ st fun x st1=>(∃xs,aT st1 x=some xs)/\cC es ρ st1 fun vs st2=>sg m x vs st2 Q
 | .comp elt tg it ifs nt caps,ρ,st,Q=>jM it ρ st fun xs chk st1 =>
   xs.length<100000/\cQ chk (fun x st2 k=>b7 tg x (nt.map (fun _=>none)++caps.map fun i=>(ρ[i]?).join) st2 fun ρ' st3=>gh ifs ρ' st3 fun c st4 =>
    if c=true then wpE elt ρ' st4 fun v st5=>k (some v) st5 else k none st4) xs [] st1 fun vs st2=>Q (.ref st2.length) (st2++[.lst vs])
 | .tmp a,ρ,st,Q=>wpE a ρ st (Tmp st Q)
 | .bad,_,_,_=>False
 | .jrev _,_,_,_=>False
 | .part _ _,_,_,_=>False
 | .dget _ _,_,_,_=>False
 | .smx k a b,ρ,st,Q=>wpE a ρ st fun x st1=>(∃z,x=.str z)/\wpE b ρ st1 fun y st2=>smW k x y st2 Q
 | .dcp a,ρ,st,Q=>wpE a ρ st fun x st1=>∃n,x=.ref n/\∃kvs,st1[n]?=some (.dk kvs)/\Q (.ref st1.length) (st1++[.dk kvs])
 | .clr _,_,_,_=>False
 | .sset _,_,_,_=>False
 | .pcall _ _,_,_,_=>False
 | .hm _ _ _,_,_,_=>False
 | .compK _ _ _ _ _ _ _,_,_,_=>False
 | .compD _ _ _ _ _ _ _ _,_,_,_=>False
 | .dct2 _ _,_,_,_=>False
 | .dcl _,_,_,_=>False
 | .eqd ne a b,ρ,st,Q=>wpE a ρ st fun x st1=>wpE b ρ st1 fun y st2=>(tS st2 x y/\Q (.bl (!ne)) st2)\/(pC st2 x y/\Q (.bl ne) st2)
 | .un k a,ρ,st,Q=>wpE a ρ st fun x st1=>unW k x st1 Q
 | .compO elt tg e ifs nt caps,ρ,st,Q=>wpE e ρ st fun x st1=>∃n,x=.ref n /\
   ((∃kvs,st1[n]?=some (.dk kvs)/\kvs.length<100000 /\
    cQ (fun _=>True) (fun x st2 k=>b7 tg x (nt.map (fun _=>none)++caps.map fun i=>(ρ[i]?).join) st2 fun ρ' st3=>gh ifs ρ' st3 fun c st4 =>
     if c=true then wpE elt ρ' st4 fun v st5=>k (some v) st5 else k none st4) (bF .items kvs) [] (st1.set n (.fz kvs)) fun vs st2=>st2[n]?=some (.fz kvs)/\Q (.ref st2.length) (st2.set n (.dk kvs)++[.lst vs])) \/
   ∃kvs,st1[n]?=some (.od kvs)/\kvs.length<100000 /\
    cQ (fun _=>True) (fun x st2 k=>b7 tg x (nt.map (fun _=>none)++caps.map fun i=>(ρ[i]?).join) st2 fun ρ' st3=>gh ifs ρ' st3 fun c st4 =>
     if c=true then wpE elt ρ' st4 fun v st5=>k (some v) st5 else k none st4) (bB kvs) [] st1 fun vs st2=>Q (.ref st2.length) (st2++[.lst vs]))
noncomputable def cC:Es->Fr->AH->LK->Prop
 | .nil,_,st,Q=>Q [] st
 | .cons e es,ρ,st,Q=>wpE e ρ st fun x st1=>cC es ρ st1 fun xs st2=>Q (x::xs) st2
noncomputable def wpO:O->Fr->AH->(Option Int->AH->Prop)->Prop
 | .no,_,st,Q=>Q none st
 | .yes e,ρ,st,Q=>wpE e ρ st fun x st1=>∃i,x=.int i/\Q (some i) st1
noncomputable def wpT:E->Fr->AH->BK->Prop
 | .bop true es,ρ,st,Q=>gh es ρ st Q
 | .bop false es,ρ,st,Q=>qq es ρ st Q
 | .not a,ρ,st,Q=>wpT a ρ st fun c st1=>Q (!c) st1
 | .cmp op a b,ρ,st,Q=>wpE a ρ st fun x st1=>wpE b ρ st1 fun y st2=>fI op x y st2 fun v st3=>∃c,v=.bl c/\Q c st3
 | .var i,ρ,st,Q=>uR ρ[i]? fun v=>fc v st Q
 | .call f es,ρ,st,Q=>cC es ρ st fun vs st1=>Γ f vs st1 fun v st2=>fc v st2 Q
 | .blt b es,ρ,st,Q=>cC es ρ st fun vs st1=>cP b vs st1 fun v st2=>fc v st2 Q
 | .inst a t,ρ,st,Q=>wpE a ρ st fun x st1=>∃n,bc st1 x=some n/\Q (aH t n) st1
 | .tmp a,ρ,st,Q=>wpE a ρ st (Tmp st fun v st1=>fc v st1 Q)
 | .ix a b,ρ,st,Q=>wpE a ρ st fun x st1=>wpE b ρ st1 fun y st2=>ixW x y st2 fun v st3=>fc v st3 Q
 | .pcall _ _,_,_,_=>False
 | .eqd ne a b,ρ,st,Q=>wpE a ρ st fun x st1=>wpE b ρ st1 fun y st2=>(tS st2 x y/\Q (!ne) st2)\/(pC st2 x y/\Q ne st2)
 | .un k a,ρ,st,Q=>wpE a ρ st fun x st1=>unW k x st1 fun v st2=>∃c,v=.bl c/\Q c st2
 | _,_,_,_=>False
noncomputable def qg:Es->Fr->AH->EK->Prop
 | .nil,_,_,_=>False
 | .cons e .nil,ρ,st,Q=>wpE e ρ st Q
 | .cons e es,ρ,st,Q=>wpE e ρ st fun x st1=>∃c,x=.bl c/\if c=true then qg es ρ st1 Q else Q (.bl false) st1
noncomputable def qU:Es->Fr->AH->EK->Prop
 | .nil,_,_,_=>False
 | .cons e .nil,ρ,st,Q=>wpE e ρ st Q
 | .cons e es,ρ,st,Q=>wpE e ρ st fun x st1=>∃c,x=.bl c/\if c=true then Q (.bl true) st1 else qU es ρ st1 Q
noncomputable def gh:Es->Fr->AH->BK->Prop
 | .nil,_,st,Q=>Q true st
 | .cons e .nil,ρ,st,Q=>wpT e ρ st Q
 | .cons e es,ρ,st,Q=>wpT e ρ st fun c st1=>if c=true then gh es ρ st1 Q else Q false st1
noncomputable def qq:Es->Fr->AH->BK->Prop
 | .nil,_,st,Q=>Q false st
 | .cons e .nil,ρ,st,Q=>wpT e ρ st Q
 | .cons e es,ρ,st,Q=>wpT e ρ st fun c st1=>if c=true then Q true st1 else qq es ρ st1 Q
noncomputable def jM:It->Fr->AH->(List PV->(AH->Prop)->AH->Prop)->Prop
 | .seq e,ρ,st,Q=>wpE e ρ st fun x st1=>∃xs,bb st1 x=some xs/\Q xs (gJ st1 x) st1
 | .range1 a,ρ,st,Q=>wpE a ρ st fun x st1=>∃j,x=.int j/\-(2 ^ 62)<=j/\j<2 ^ 62/\Q (bU 0 j.toNat) (fun _=>True) st1
 | .range2 _ _,_,_,_=>False
 | .zip a b,ρ,st,Q=>wpE a ρ st fun x st1=>wpE b ρ st1 fun y st2=>∃xs ys,bb st2 x=some xs/\bb st2 y=some ys/\Q (dO xs ys) (fun st'=>gJ st2 x st'/\gJ st2 y st') st2
 | .zip3 _ _ _,_,_,_=>False
 | .enum _,_,_,_=>False
 | .chars a,ρ,st,Q=>wpE a ρ st fun x st1=>∃z,x=.str z/\Q (bo z) (fun _=>True) st1
 | .range3 _ _ _,_,_,_=>False
noncomputable def b7:Tg->PV->Fr->AH->(Fr->AH->Prop)->Prop
 | .name i,v,ρ,st,Q=>Q (ρ.set i (some v)) st
 | .tup ts,v,ρ,st,Q=>∃xs,v=.tup xs/\xs.length=ts.size/\gE ts xs ρ st Q
 | .ltup _,_,_,_,_=>False
 | .sub o i,v,ρ,st,Q=>wpE o ρ st fun x st1=>wpE i ρ st1 fun y st2=>qO x y v st2 fun st3=>Q ρ st3
 | .subO o i,v,ρ,st,Q=>wpE o ρ st fun x st1=>wpE i ρ st1 fun y st2=>∃n,x=.ref n/\sv n y v st2 fun st3=>Q ρ st3
noncomputable def gE:Tgs->List PV->Fr->AH->(Fr->AH->Prop)->Prop
 | .nil,vs,ρ,st,Q=>vs=[]/\Q ρ st
 | .cons t ts,vs,ρ,st,Q=>∃v r,vs=v::r/\b7 t v ρ st fun ρ' st'=>gE ts r ρ' st' Q
end
end
mutual
inductive S where
 | set (t:Tg) (e:E)|par (i j:Nat) (a b:E)|aug (i:Nat) (op:Operator) (e:E)|expr (e:E)|ret (e:E)|retN
 | ifS (c:E) (a b:Ss)|whileS (c:E) (b:Ss)|forS (t:Tg) (it:It) (b:Ss)|pass|brk|cont|bad|set2 (i j:Nat) (e:E)|forK (t:Tg) (wk:DW) (e:E) (b:Ss)
inductive Ss where
 | nil|cons (s:S) (ss:Ss)
end
structure a8 where
 nx:Fr->AH->Prop
 rt:EK
 bk:Fr->AH->Prop:=fun _ _=>False
 ct:Fr->AH->Prop:=fun _ _=>False
set_option genInjectivity true
set_option genCtorIdx true
noncomputable def fzD (n:Nat)(kvs:List (Key × PV))(D:a8):a8:={ nx:=fun ρ st=>st[n]?=some (.fz kvs)/\D.nx ρ (st.set n (.dk kvs)),rt:=fun v st=>st[n]?=some (.fz kvs)/\D.rt v (st.set n (.dk kvs)) }
noncomputable def lO (chk:AH->Prop)(body:PV->Fr->AH->a8->Prop)(D:a8):List PV->Fr->AH->Prop
 | [],ρ,st=>chk st/\D.nx ρ st
 | x::xs,ρ,st=>chk st/\body x ρ st { nx:=lO chk body D xs,ct:=lO chk body D xs,bk:=D.nx,rt:=D.rt }
noncomputable def eK (c:Fr->AH->BK->Prop)(body:Fr->AH->a8->Prop)(D:a8):Nat->Fr->AH->Prop
 | 0,_,_=>False
 | n+1,ρ,st=>c ρ st fun k st1=>if k=true then body ρ st1 { nx:=eK c body D n,ct:=eK c body D n,bk:=D.nx,rt:=D.rt } else D.nx ρ st1
def n6 (op:Operator)(x y:PV)(st:AH)(Q:EK):Prop :=
 match op,x,y with
 | .Add,.int i,.int j=>Q (.int (i+j)) st
 | .Sub,.int i,.int j=>Q (.int (i-j)) st
 | .Add,.ref n,.ref k=>∃xs ys,st[n]?=some (.lst xs)/\st[k]?=some (.lst ys)/\xs.length+ys.length<=100000/\Q (.ref n) (st.set n (.lst (xs++ys)))
 | _,_,_=>False
section
variable (Γ:Nat->FSp)
mutual
noncomputable def wpS:S->Fr->AH->a8->Prop
 | .set t e,ρ,st,D=>wpE Γ e ρ st fun v st1=>b7 Γ t v ρ st1 D.nx
 | .par i j a b,ρ,st,D=>wpE Γ a ρ st fun x st1=>wpE Γ b ρ st1 fun y st2=>D.nx ((ρ.set i (some x)).set j (some y)) st2
 | .aug i op e,ρ,st,D=>∃x,ρ[i]?=some (some x)/\wpE Γ e ρ st fun y st1=>n6 op x y st1 fun z st2=>D.nx (ρ.set i (some z)) st2
 | .expr e,ρ,st,D=>wpE Γ e ρ st fun _ st1=>D.nx ρ st1
 | .ret e,ρ,st,D=>wpE Γ e ρ st D.rt
 | .retN,_,st,D=>D.rt .non st
 | .ifS c a b,ρ,st,D=>wpT Γ c ρ st fun k st1=>if k=true then aD a ρ st1 D else aD b ρ st1 D
 | .whileS c b,ρ,st,D=>∃n,eK (wpT Γ c) (aD b) D n ρ st
 | .forS t it b,ρ,st,D=>jM Γ it ρ st fun xs chk st1=>lO chk (fun x ρ' st' D'=>b7 Γ t x ρ' st' fun ρ2 st2=>aD b ρ2 st2 D') D xs ρ st1
 | .pass,ρ,st,D=>D.nx ρ st
 | .brk,ρ,st,D=>D.bk ρ st
 | .cont,ρ,st,D=>D.ct ρ st
 | .bad,_,_,_=>False
 | .forK t wk e b,ρ,st,D=>wpE Γ e ρ st fun x st1=>∃n,x=.ref n/\∃kvs,st1[n]?=some (.dk kvs)/\lO (fun _=>True) (fun x ρ' st' D'=>b7 Γ t x ρ' st' fun ρ2 st2=>aD b ρ2 st2 D') (fzD n kvs D) (bF wk kvs) ρ (st1.set n (.fz kvs))
 | .set2 i j e,ρ,st,D=>wpE Γ e ρ st fun v st1=>D.nx ((ρ.set i (some v)).set j (some v)) st1
noncomputable def aD:Ss->Fr->AH->a8->Prop
 | .nil,ρ,st,D=>D.nx ρ st
 | .cons s ss,ρ,st,D=>wpS s ρ st { D with nx:=fun ρ' st'=>aD ss ρ' st' D }
end
end
section
variable {Γ:Nat->FSp}{ρ:Fr}{st:AH}{Q:EK}{D:a8}{a b c:E}{es:Es}
theorem AA:aD Γ .nil ρ st D=D.nx ρ st:=rfl
theorem BR:aD Γ (.cons s .nil) ρ st D=wpS Γ s ρ st D:=rfl
theorem xn:wpS Γ (.set t a) ρ st D=wpE Γ a ρ st fun v st1=>b7 Γ t v ρ st1 D.nx:=rfl
theorem EV:wpS Γ (.par i j a b) ρ st D=wpE Γ a ρ st fun x st1=>wpE Γ b ρ st1 fun y st2=>D.nx ((ρ.set i (some x)).set j (some y)) st2:=rfl
theorem Ez:wpS Γ (.aug i op a) ρ st D=∃x,ρ[i]?=some (some x)/\wpE Γ a ρ st fun y st1=>n6 op x y st1 fun z st2=>D.nx (ρ.set i (some z)) st2:=rfl
theorem Ca:wpS Γ (.expr a) ρ st D=wpE Γ a ρ st fun _ st1=>D.nx ρ st1:=rfl
theorem E7:wpS Γ (.ret a) ρ st D=wpE Γ a ρ st fun v st1=>D.rt v st1:=rfl
theorem CH:wpS Γ .retN ρ st D=D.rt .non st:=rfl
theorem JJ:wpS Γ (.ifS c x y) ρ st D=wpT Γ c ρ st fun k st1=>if k=true then aD Γ x ρ st1 D else aD Γ y ρ st1 D:=rfl
theorem AX:wpS Γ .pass ρ st D=D.nx ρ st:=rfl
theorem CJ:wpS Γ (.set2 i j a) ρ st D=wpE Γ a ρ st fun v st1=>D.nx ((ρ.set i (some v)).set j (some v)) st1:=rfl
theorem Ef:wpS Γ .brk ρ st D=D.bk ρ st:=rfl
theorem AY:wpS Γ .cont ρ st D=D.ct ρ st:=rfl
theorem ET:wpE Γ (.var i) ρ st Q=uR ρ[i]? fun v=>Q v st:=rfl
theorem FJ:wpE Γ (.int i) ρ st Q=Q (.int i) st:=rfl
theorem JA:wpE Γ (.bl i) ρ st Q=Q (.bl i) st:=rfl
theorem Fh:wpE Γ .non ρ st Q=Q .non st:=rfl
theorem E1:wpE Γ (.str i) ρ st Q=Q (.str i) st:=rfl
theorem IC:wpE Γ (.gv x v) ρ st Q=Q v st:=rfl
theorem FD:wpE Γ (.tup es) ρ st Q=cC Γ es ρ st fun vs st1=>vs.length<=100000/\Q (.tup vs) st1:=rfl
theorem Fp:wpE Γ (.lst es) ρ st Q=cC Γ es ρ st fun vs st1=>vs.length<=100000/\Q (.ref st1.length) (st1++[.lst vs]):=rfl
theorem CF:wpE Γ .dct0 ρ st Q=Q (.ref st.length) (st++[.dk []]):=rfl
theorem FC:wpE Γ (.bin op a b) ρ st Q=wpE Γ a ρ st fun x st1=>wpE Γ b ρ st1 fun y st2=>i_ op x y st2 Q:=rfl
theorem Ex:wpE Γ (.neg a) ρ st Q=wpE Γ a ρ st fun x st1=>∃i,x=.int i/\Q (.int (-i)) st1:=rfl
theorem Ee:wpE Γ (.not a) ρ st Q=wpE Γ a ρ st fun x st1=>∃c,x=.bl c/\Q (.bl (!c)) st1:=rfl
theorem Fq:wpE Γ (.cmp op a b) ρ st Q=wpE Γ a ρ st fun x st1=>wpE Γ b ρ st1 fun y st2=>fI op x y st2 Q:=rfl
theorem ER:wpE Γ (.bop true es) ρ st Q=qg Γ es ρ st Q:=rfl
theorem Ie:wpE Γ (.bop false es) ρ st Q=qU Γ es ρ st Q:=rfl
theorem EN:wpE Γ (.ite c a b) ρ st Q=wpT Γ c ρ st fun k st1=>if k=true then wpE Γ a ρ st1 Q else wpE Γ b ρ st1 Q:=rfl
theorem ID:wpE Γ (.ix a b) ρ st Q=wpE Γ a ρ st fun x st1=>wpE Γ b ρ st1 fun y st2=>ixW x y st2 Q:=rfl
theorem HE:wpE Γ (.sl a lo hi) ρ st Q=wpE Γ a ρ st fun x st1=>wpO Γ lo ρ st1 fun l st2=>wpO Γ hi ρ st2 fun h st3=>slW x l h st3 Q:=rfl
theorem zN:wpE Γ (.call f es) ρ st Q=cC Γ es ρ st fun vs st1=>Γ f vs st1 Q:=rfl
theorem E3:wpE Γ (.blt f es) ρ st Q=cC Γ es ρ st fun vs st1=>cP f vs st1 Q:=rfl
theorem CD:wpE Γ (.inst a t) ρ st Q=wpE Γ a ρ st fun x st1=>∃n,bc st1 x=some n/\Q (.bl (aH t n)) st1:=rfl
theorem Eo:wpE Γ (.met m a es) ρ st Q=wpE Γ a ρ st fun x st1=>(∃xs,aT st1 x=some xs)/\cC Γ es ρ st1 fun vs st2=>sg m x vs st2 Q:=rfl
theorem FP:wpE Γ (.dcp a) ρ st Q=wpE Γ a ρ st fun x st1=>∃n,x=.ref n/\∃kvs,st1[n]?=some (.dk kvs)/\Q (.ref st1.length) (st1++[.dk kvs]):=rfl
theorem Er:wpE Γ (.smx k a b) ρ st Q=wpE Γ a ρ st fun x st1=>(∃z,x=.str z)/\wpE Γ b ρ st1 fun y st2=>smW k x y st2 Q:=rfl
theorem E6:wpE Γ (.eqd ne a b) ρ st Q=wpE Γ a ρ st fun x st1=>wpE Γ b ρ st1 fun y st2=>(tS st2 x y/\Q (.bl (!ne)) st2)\/(pC st2 x y/\Q (.bl ne) st2):=rfl
theorem Ih:wpE Γ (.un k a) ρ st Q=wpE Γ a ρ st fun x st1=>unW k x st1 Q:=rfl
theorem Ed:wpE Γ (.tmp a) ρ st Q=wpE Γ a ρ st fun v st1=>Tmp st Q v st1:=rfl
variable {LQ:LK}{BQ:BK}{e e2:E}{i:Nat}{v:PV}{FQ:Fr->AH->Prop}{IQ:List PV->(AH->Prop)->AH->Prop}
theorem zf:cC Γ .nil ρ st LQ=LQ [] st:=rfl
theorem xg:cC Γ (.cons e es) ρ st LQ=wpE Γ e ρ st fun x st1=>cC Γ es ρ st1 fun xs st2=>LQ (x::xs) st2:=rfl
theorem HN:wpO Γ .no ρ st OQ=OQ none st:=rfl
theorem Ew:wpO Γ (.yes e) ρ st OQ=wpE Γ e ρ st fun x st1=>∃i,x=.int i/\OQ (some i) st1:=rfl
theorem Fj:wpT Γ (.bop true es) ρ st BQ=gh Γ es ρ st BQ:=rfl
theorem HP:wpT Γ (.bop false es) ρ st BQ=qq Γ es ρ st BQ:=rfl
theorem Fy:wpT Γ (.not a) ρ st BQ=wpT Γ a ρ st fun c st1=>BQ (!c) st1:=rfl
theorem Fu:wpT Γ (.cmp op a b) ρ st BQ=wpE Γ a ρ st fun x st1=>wpE Γ b ρ st1 fun y st2=>fI op x y st2 fun v st3=>∃c,v=.bl c/\BQ c st3:=rfl
theorem Fv:wpT Γ (.var i) ρ st BQ=uR ρ[i]? fun v=>fc v st BQ:=rfl
theorem Bj:wpT Γ (.call f es) ρ st BQ=cC Γ es ρ st fun vs st1=>Γ f vs st1 fun v st2=>fc v st2 BQ:=rfl
theorem EW:wpT Γ (.blt f es) ρ st BQ=cC Γ es ρ st fun vs st1=>cP f vs st1 fun v st2=>fc v st2 BQ:=rfl
theorem A6:wpT Γ (.inst a t) ρ st BQ=wpE Γ a ρ st fun x st1=>∃n,bc st1 x=some n/\BQ (aH t n) st1:=rfl
theorem FK:wpT Γ (.eqd ne a b) ρ st BQ=wpE Γ a ρ st fun x st1=>wpE Γ b ρ st1 fun y st2=>(tS st2 x y/\BQ (!ne) st2)\/(pC st2 x y/\BQ ne st2):=rfl
theorem Iz:wpT Γ (.un k a) ρ st BQ=wpE Γ a ρ st fun x st1=>unW k x st1 fun v st2=>∃c,v=.bl c/\BQ c st2:=rfl
theorem FO:wpT Γ (.tmp a) ρ st BQ=wpE Γ a ρ st fun v st1=>Tmp st (fun v st1=>fc v st1 BQ) v st1:=rfl
theorem IR:wpT Γ (.ix a b) ρ st BQ=wpE Γ a ρ st fun x st1=>wpE Γ b ρ st1 fun y st2=>ixW x y st2 fun v st3=>fc v st3 BQ:=rfl
theorem BD:qg Γ (.cons e .nil) ρ st Q=wpE Γ e ρ st Q:=rfl
theorem wN:qg Γ (.cons e (.cons e2 es)) ρ st Q=wpE Γ e ρ st fun x st1=>∃c,x=.bl c/\if c=true then qg Γ (.cons e2 es) ρ st1 Q else Q (.bl false) st1:=rfl
theorem Cb:qU Γ (.cons e .nil) ρ st Q=wpE Γ e ρ st Q:=rfl
theorem wI:qU Γ (.cons e (.cons e2 es)) ρ st Q=wpE Γ e ρ st fun x st1=>∃c,x=.bl c/\if c=true then Q (.bl true) st1 else qU Γ (.cons e2 es) ρ st1 Q:=rfl
theorem vT:gh Γ .nil ρ st BQ=BQ true st:=rfl
theorem Ar:gh Γ (.cons e .nil) ρ st BQ=wpT Γ e ρ st BQ:=rfl
theorem we:gh Γ (.cons e (.cons e2 es)) ρ st BQ=wpT Γ e ρ st fun c st1=>if c=true then gh Γ (.cons e2 es) ρ st1 BQ else BQ false st1:=rfl
theorem CK:qq Γ (.cons e .nil) ρ st BQ=wpT Γ e ρ st BQ:=rfl
theorem xo:qq Γ (.cons e (.cons e2 es)) ρ st BQ=wpT Γ e ρ st fun c st1=>if c=true then BQ true st1 else qq Γ (.cons e2 es) ρ st1 BQ:=rfl
theorem zR:jM Γ (.seq e) ρ st IQ=wpE Γ e ρ st fun x st1=>∃xs,bb st1 x=some xs/\IQ xs (gJ st1 x) st1:=rfl
theorem Fc:jM Γ (.range1 a) ρ st IQ=wpE Γ a ρ st fun x st1=>∃j,x=.int j/\-(2 ^ 62)<=j/\j<2 ^ 62/\IQ (bU 0 j.toNat) (fun _=>True) st1:=rfl
theorem Cr:jM Γ (.zip a b) ρ st IQ=wpE Γ a ρ st fun x st1=>wpE Γ b ρ st1 fun y st2=>∃xs ys,bb st2 x=some xs/\bb st2 y=some ys/\IQ (dO xs ys) (fun st'=>gJ st2 x st'/\gJ st2 y st') st2:=rfl
theorem rY:jM Γ (.chars a) ρ st IQ=wpE Γ a ρ st fun x st1=>∃z,x=.str z/\IQ (bo z) (fun _=>True) st1:=rfl
theorem fX:b7 Γ (.name i) v ρ st FQ=FQ (ρ.set i (some v)) st:=rfl
theorem nK {ts:Tgs}:b7 Γ (.tup ts) v ρ st FQ=∃xs,v=.tup xs/\xs.length=ts.size/\gE Γ ts xs ρ st FQ:=rfl
theorem lY:b7 Γ (.sub a b) v ρ st FQ=wpE Γ a ρ st fun x st1=>wpE Γ b ρ st1 fun y st2=>qO x y v st2 fun st3=>FQ ρ st3:=rfl
theorem wm:b7 Γ (.subO a b) v ρ st FQ=wpE Γ a ρ st fun x st1=>wpE Γ b ρ st1 fun y st2=>∃n,x=.ref n/\sv n y v st2 fun st3=>FQ ρ st3:=rfl
theorem xa:gE Γ .nil vs ρ st FQ=(vs=[]/\FQ ρ st):=rfl
theorem sk:gE Γ (.cons t ts) vs ρ st FQ=∃v r,vs=v::r/\b7 Γ t v ρ st fun ρ' st'=>gE Γ ts r ρ' st' FQ:=rfl
theorem zh:Tgs.size .nil=0:=id rfl
theorem xC {ts:Tgs}:Tgs.size (.cons t ts)=ts.size+1:=id rfl
end
end FW
namespace FW
open PySem L2 HX
theorem sG {k k':Bool->Prop}(h:∀b,k b->k' b)(q:eqW st x y k):eqW st x y k':=by
 unfold eqW at q |-
 split at q
 ·exact h _ q
 ·exact h _ q
 ·exact h _ q
 ·obtain⟨d,e,h1,h2,h3,h4,q⟩:=q;exact⟨d,e,h1,h2,h3,h4,h _ q⟩
theorem pE {st:AH}{Q':EK}(h:∀v st,Q v st->Q' v st)(q:i_ op x y st Q):i_ op x y st Q':=by
 cases op with
 | Add =>
  cases x with
  | int i =>
   cases y with
   | int j=>exact h _ _ q
   | _=>exact False.elim q
  | ref n =>
   cases y with
   | ref k=>obtain⟨xs,ys,h1,h2,h3,q⟩:=q;exact⟨xs,ys,h1,h2,h3,h _ _ q⟩
   | _=>exact False.elim q
  | tup xs =>
   cases y with
   | tup ys=>exact⟨q.1,h _ _ q.2⟩
   | _=>exact False.elim q
  | str a =>
   cases y with
   | str b=>exact⟨q.1,h _ _ q.2⟩
   | _=>exact False.elim q
  | _=>exact False.elim q
 | Mult =>
  cases x with
  | int i =>
   cases y with
   | int j=>exact⟨q.1,h _ _ q.2⟩
   | _=>exact False.elim q
  | _=>exact False.elim q
 | Sub=>obtain⟨i,j,rfl,rfl,q⟩:=bP q;exact h _ _ q
 | FloorDiv=>obtain⟨i,j,rfl,rfl,q⟩:=bP q;exact⟨q.1,h _ _ q.2⟩
 | Mod=>obtain⟨i,j,rfl,rfl,q⟩:=bP q;exact⟨q.1,h _ _ q.2⟩
 | Pow=>obtain⟨i,j,rfl,rfl,q⟩:=bP q;exact⟨q.1,h _ _ q.2⟩
 | _=>exact False.elim q
theorem uo {k k':Bool->Prop}(h:∀b,k b->k' b)(q:inR a n st k):inR a n st k':=q.elim (fun ⟨ns,e,q⟩=>.inl ⟨ns,e,h _ q⟩) False.elim
theorem gX {st:AH}{Q':EK}(h:∀v st,Q v st->Q' v st)(q:fI op x y st Q):fI op x y st Q':=by
 unfold fI at q |-
 split at q
 ·exact sG (fun _=>h _ _) q
 ·exact sG (fun _=>h _ _) q
 ·exact q
 ·exact q
 ·split at q <;> first|exact h _ _ q|exact q
 ·exact q
 ·split at q <;> first|exact h _ _ q|exact q
 ·split at q <;> first|exact h _ _ q|exact q
 ·split at q <;> first|exact h _ _ q|(obtain⟨ns,e,q⟩:=q;exact⟨ns,e,h _ _ q⟩)|exact⟨q.1,h _ _ q.2⟩|exact uo (fun _=>h _ _) q|exact q
 ·split at q <;> first|exact h _ _ q|(obtain⟨ns,e,q⟩:=q;exact⟨ns,e,h _ _ q⟩)|exact uo (fun _=>h _ _) q|exact q
theorem jU {st:AH}{Q':EK}(h:∀v st,Q v st->Q' v st)(q:ixW x y st Q):ixW x y st Q':=by
 cases y with
 | int i =>
  rcases v_ q with⟨z,c,rfl,h1,h2,q⟩|⟨xs,v,h1,h2,q⟩
  ·exact⟨h1,c,h2,h _ _ q⟩
  ·exact DA h1 h2 (h _ _ q)
 | str z=>obtain⟨n,kvs,v,rfl,h1,h2,q⟩:=wY q;exact⟨kvs,v,h1,h2,h _ _ q⟩
 | _=>exact q
theorem tY {st:AH}{Q':EK}(h:∀v st,Q v st->Q' v st)(q:slW x lo hi st Q):slW x lo hi st Q':=by
 cases x with
 | tup xs=>exact h _ _ q
 | str z=>exact⟨q.1,h _ _ q.2⟩
 | _=>obtain⟨xs,e,q⟩:=q;exact⟨xs,e,h _ _ q⟩
theorem BV {st:AH}{Q':EK}(h:∀v st,Q v st->Q' v st)(q:smW k x y st Q):smW k x y st Q':=by
 cases x with
 | str z =>
  cases k with
  | join=>obtain⟨ss,h2,h3,q⟩:=q;exact⟨ss,h2,h3,h _ _ q⟩
 | _=>exact False.elim q
theorem tM {st:AH}{Q':EK}(h:∀v st,Q v st->Q' v st)(q:unW k x st Q):unW k x st Q':=by
 cases k with
 | rev=>obtain⟨xs,rfl,q⟩:=wj q;exact h _ _ q
 | ssT=>obtain⟨ss,h1,h2,q⟩:=q;exact⟨ss,h1,h2,fun z a b c d=>h _ _ (q z a b c d)⟩
 | isE=>obtain⟨xs,h1,q⟩:=q;exact⟨xs,h1,h _ _ q⟩
theorem v7 {st:AH}{Q':EK}(h:∀v st,Q v st->Q' v st)(q:k9 st Q x):k9 st Q' x:=by
 cases x with
 | non=>exact h _ _ q
 | bl b=>exact h _ _ q
 | int i=>exact⟨q.1,h _ _ q.2⟩
 | str z=>exact⟨q.1,h _ _ q.2⟩
 | _=>obtain⟨d,h1,h2,q⟩:=q;exact⟨d,h1,h2,h _ _ q⟩
theorem pS {st:AH}{k k':AH->Prop}(h:∀st,k st->k' st)(q:sv n i v st k):sv n i v st k':=by
 obtain⟨kvs,h1,h2,q⟩:=q;refine⟨kvs,h1,h2,?_⟩;cases i with
 | str z=>exact h _ q
 | _=>exact⟨q.1,q.2.1,h _ q.2.2⟩
theorem hV {st:AH}{Q':EK}(h:∀v st,Q v st->Q' v st)(q:cP b vs st Q):cP b vs st Q':=by
 cases b with
 | len =>
  obtain⟨x,rfl,q⟩:=aI q;rcases tF q with⟨z,rfl,h1,q⟩|⟨xs,e,q⟩
  ·exact⟨h1,h _ _ q⟩
  ·exact BC e (h _ _ q)
 | max2=>obtain⟨x,y,rfl,q⟩:=dy q;obtain⟨i,j,rfl,rfl,q⟩:=bP q;exact h _ _ q
 | min2=>obtain⟨x,y,rfl,q⟩:=dy q;obtain⟨i,j,rfl,rfl,q⟩:=bP q;exact h _ _ q
 | divmod=>obtain⟨x,y,rfl,q⟩:=dy q;obtain⟨i,j,rfl,rfl,q⟩:=bP q;exact⟨q.1,h _ _ q.2⟩
 | int1 =>obtain⟨x,rfl,q⟩:=aI q;obtain⟨b,rfl,q⟩:=qa q;exact h _ _ q
 | str1=>exact False.elim q
 | tuple1=>obtain⟨x,rfl,xs,h1,q⟩:=aI q;exact⟨xs,h1,h _ _ q⟩
 | list1=>obtain⟨x,rfl,xs,h1,q⟩:=aI q;exact⟨xs,h1,h _ _ q⟩
 | repr2=>obtain⟨x,rfl,q⟩:=aI q;exact v7 h q
 | listD=>obtain⟨x,rfl,n,e,kvs,h1,h2,q⟩:=aI q;exact⟨n,e,kvs,h1,h2,h _ _ q⟩
 | all1=>obtain⟨x,rfl,xs,bs,h1,h2,q⟩:=aI q;exact⟨xs,bs,h1,h2,h _ _ q⟩
 | any1=>obtain⟨x,rfl,xs,bs,h1,h2,q⟩:=aI q;exact⟨xs,bs,h1,h2,h _ _ q⟩
 | abs1=>exact False.elim q
 | sortS=>obtain⟨x,rfl,xs,h1,h2,q⟩:=aI q;exact⟨xs,h1,h2,fun z p s=>h _ _ (q z p s)⟩
 | sortD=>obtain⟨x,rfl,n,e,kvs,h1,ss,h2,h3,q⟩:=aI q;exact⟨n,e,kvs,h1,ss,h2,h3,fun z p s=>h _ _ (q z p s)⟩
 | max1=>exact False.elim q
 | sorted1=>exact False.elim q
 | repr1=>exact False.elim q
theorem ig {st:AH}{Q':EK}(h:∀v st,Q v st->Q' v st)(q:sg m x vs st Q):sg m x vs st Q':=by
 cases m with
 | append=>obtain⟨n,rfl,q⟩:=lV q;obtain⟨v,rfl,xs,h1,h2,q⟩:=aI q;exact⟨xs,h1,h2,h _ _ q⟩
 | pop0=>exact False.elim q
 | extend=>exact False.elim q
 | insert=>obtain⟨n,rfl,q⟩:=lV q;obtain⟨i,v,rfl,q⟩:=dy q;obtain⟨k,rfl,xs,h1,h2,h3,h4,q⟩:=wg q;exact⟨xs,h1,h2,h3,h4,h _ _ q⟩
 | count=>exact False.elim q
 | index=>exact False.elim q
 | popI=>exact False.elim q
theorem bL {st:AH}{Q':BK}(h:∀v st,Q v st->Q' v st)(q:fc x st Q):fc x st Q':=by
 unfold fc at q |-
 split at q <;> first
  | exact h _ _ q
  | exact q.elim
  | (obtain⟨xs,h1,q⟩:=q;exact⟨xs,h1,h _ _ q⟩)
theorem o9 {st:AH}{k k':AH->Prop}(h:∀st,k st->k' st)(q:qO o i v st k):qO o i v st k':=by
 unfold qO at q |-
 split at q
 ·obtain⟨xs,h1,j,h2,q⟩:=q;exact⟨xs,h1,j,h2,h _ q⟩
 ·obtain⟨xs,h1,h2,q⟩:=q;exact⟨xs,h1,h2,h _ q⟩
 ·exact q
theorem tN {Q':EK}(h:∀v st,Q v st->Q' v st)(q:Tmp st0 Q v st):Tmp st0 Q' v st:=by obtain⟨st1,g,h1,h2,h3,h4,q⟩:=q;exact⟨st1,g,h1,h2,h3,h4,h _ _ q⟩
theorem bT {body body':PV->AH->(Option PV->AH->Prop)->Prop}(hb:∀x st k k',(∀o st,k o st->k' o st)->body x st k->body' x st k') :
  ∀ {xs acc:List PV}{st:AH}{Q Q':LK},(∀v st,Q v st->Q' v st)->cQ chk body xs acc st Q->cQ chk body' xs acc st Q'
 | [],acc,st,Q,Q',h,q=>⟨q.1,h _ _ q.2⟩
 | x::xs,acc,st,Q,Q',h,q=>⟨q.1,hb _ _ _ _ (fun o st' z=>bT hb h z) q.2⟩
section
variable {Γ:Nat->FSp}
def bD (Γ:Nat->FSp):Prop:=∀f vs st Q Q',(∀v st,Q v st->Q' v st)->Γ f vs st Q->Γ f vs st Q'
mutual
theorem ae (G:bD Γ):∀(e:E) {ρ:Fr}{st:AH}{Q Q':EK},(∀v st,Q v st->Q' v st)->wpE Γ e ρ st Q->wpE Γ e ρ st Q'
 | .var i,ρ,st,Q,Q',h,q=>by obtain⟨v,e,z⟩:=js q;exact rA e (h _ _ z)
 | .int i,ρ,st,Q,Q',h,q=>by exact h _ _ q
 | .bl i,ρ,st,Q,Q',h,q=>by exact h _ _ q
 | .non,ρ,st,Q,Q',h,q=>by exact h _ _ q
 | .str i,ρ,st,Q,Q',h,q=>by exact h _ _ q
 | .gv _ i,ρ,st,Q,Q',h,q=>by exact h _ _ q
 | .tup es,ρ,st,Q,Q',h,q=>by exact aN G es (fun vs st1 z=>⟨z.1,h _ _ z.2⟩) q
 | .lst es,ρ,st,Q,Q',h,q=>by exact aN G es (fun vs st1 z=>⟨z.1,h _ _ z.2⟩) q
 | .dct0,ρ,st,Q,Q',h,q=>by exact h _ _ q
 | .bad,ρ,st,Q,Q',h,q=>False.elim q
 | .jrev _,ρ,st,Q,Q',h,q=>False.elim q
 | .dget _ _,ρ,st,Q,Q',h,q=>False.elim q
 | .smx k a b,ρ,st,Q,Q',h,q=>by exact ae G a (fun x st1 z=>⟨z.1,ae G b (fun y st2 z=>BV h z) z.2⟩) q
 | .dcp a,ρ,st,Q,Q',h,q=>by refine ae G a (fun x st1 z=>?_) q;obtain⟨n,e,kvs,h1,z⟩:=z;exact⟨n,e,kvs,h1,h _ _ z⟩
 | .clr _,ρ,st,Q,Q',h,q=>False.elim q
 | .sset _,ρ,st,Q,Q',h,q=>False.elim q
 | .part _ _,ρ,st,Q,Q',h,q=>False.elim q
 | .pcall _ _,ρ,st,Q,Q',h,q=>False.elim q
 | .hm _ _ _,ρ,st,Q,Q',h,q=>False.elim q
 | .dct1 _ _,ρ,st,Q,Q',h,q=>False.elim q
 | .bin op a b,ρ,st,Q,Q',h,q=>by exact ae G a (fun x st1 z=>ae G b (fun y st2 z=>pE h z) z) q
 | .neg a,ρ,st,Q,Q',h,q=>by
  skip
  refine ae G a (fun x st1 z=>?_) q;obtain⟨i,e,z⟩:=z;exact⟨i,e,h _ _ z⟩
 | .not a,ρ,st,Q,Q',h,q=>by
  skip
  refine ae G a (fun x st1 z=>?_) q;obtain⟨i,e,z⟩:=z;exact⟨i,e,h _ _ z⟩
 | .cmp op a b,ρ,st,Q,Q',h,q=>by exact ae G a (fun x st1 z=>ae G b (fun y st2 z=>gX h z) z) q
 | .bop true es,ρ,st,Q,Q',h,q=>by exact ki G es h q
 | .bop false es,ρ,st,Q,Q',h,q=>by exact kE G es h q
 | .ite c a b,ρ,st,Q,Q',h,q=>by
  skip
  refine aY G c (fun k st1 z=>?_) q;cases k with
  | true=>rw[K1 rfl] at z |-;exact ae G a h z
  | false=>rw[KW KI] at z |-;exact ae G b h z
 | .ix a b,ρ,st,Q,Q',h,q=>by exact ae G a (fun x st1 z=>ae G b (fun y st2 z=>jU h z) z) q
 | .sl a lo hi,ρ,st,Q,Q',h,q=>by exact ae G a (fun x st1 z=>jI G lo (fun l st2 z=>jI G hi (fun u st3 z=>tY h z) z) z) q
 | .call f es,ρ,st,Q,Q',h,q=>by exact aN G es (fun vs st1 z=>G _ _ _ _ _ h z) q
 | .blt b es,ρ,st,Q,Q',h,q=>by exact aN G es (fun vs st1 z=>hV h z) q
 | .inst a t,ρ,st,Q,Q',h,q=>by
  skip
  refine ae G a (fun x st1 z=>?_) q;obtain⟨i,e,z⟩:=z;exact⟨i,e,h _ _ z⟩
 | .met m o es,ρ,st,Q,Q',h,q=>by exact ae G o (fun x st1 z=>⟨z.1,aN G es (fun vs st2 z=>ig h z) z.2⟩) q
 | .comp elt tg it ifs nt caps,ρ,st,Q,Q',h,q=>by
  skip
  exact fF G it (fun xs chk st1 z=>⟨z.1,bT (fun x st k k' hk w=>aO G tg (fun ρ' st3 w=>bC G ifs (fun c st4 w=>by
   cases c with
   | true=>rw[K1 rfl] at w |-;exact ae G elt (fun v st5 w=>hk _ _ w) w
   | false=>rw[KW KI] at w |-;exact hk _ _ w) w) w) (fun vs st2 w=>h _ _ w) z.2⟩) q
 | .tmp a,ρ,st,Q,Q',h,q=>by exact ae G a (fun v st1 z=>tN h z) q
 | .un k a,ρ,st,Q,Q',h,q=>by exact ae G a (fun v st1 z=>tM h z) q
 | .compO elt tg e ifs nt caps,ρ,st,Q,Q',h,q=>by
  skip
  refine ae G e (fun x st1 z=>?_) q;obtain⟨n,ex,z⟩:=z;refine⟨n,ex,z.imp (fun z=>?_) fun z=>?_⟩
  ·obtain⟨kvs,e1,e2,z⟩:=z;exact⟨kvs,e1,e2,bT (fun x st k k' hk w=>aO G tg (fun ρ' st3 w=>bC G ifs (fun c st4 w=>by
    cases c with
    | true=>rw[K1 rfl] at w |-;exact ae G elt (fun v st5 w=>hk _ _ w) w
    | false=>rw[KW KI] at w |-;exact hk _ _ w) w) w) (fun vs st2 w=>⟨w.1,h _ _ w.2⟩) z⟩
  ·obtain⟨kvs,e1,e2,z⟩:=z;exact⟨kvs,e1,e2,bT (fun x st k k' hk w=>aO G tg (fun ρ' st3 w=>bC G ifs (fun c st4 w=>by
    cases c with
    | true=>rw[K1 rfl] at w |-;exact ae G elt (fun v st5 w=>hk _ _ w) w
    | false=>rw[KW KI] at w |-;exact hk _ _ w) w) w) (fun vs st2 w=>h _ _ w) z⟩
 | .compK _ _ _ _ _ _ _,ρ,st,Q,Q',h,q=>False.elim q
 | .compD _ _ _ _ _ _ _ _,ρ,st,Q,Q',h,q=>False.elim q
 | .dct2 _ _,ρ,st,Q,Q',h,q=>False.elim q
 | .dcl _,ρ,st,Q,Q',h,q=>False.elim q
 | .eqd ne a b,ρ,st,Q,Q',h,q=>by exact ae G a (fun x st1 z=>ae G b (fun y st2 z=>z.imp (fun z=>⟨z.1,h _ _ z.2⟩) fun z=>⟨z.1,h _ _ z.2⟩) z) q
theorem aN (G:bD Γ):∀(e:Es) {ρ:Fr}{st:AH}{Q Q':LK},(∀v st,Q v st->Q' v st)->cC Γ e ρ st Q->cC Γ e ρ st Q'
 | .nil,ρ,st,Q,Q',h,q=>by exact h _ _ q
 | .cons e es,ρ,st,Q,Q',h,q=>by exact ae G e (fun x st1 z=>aN G es (fun xs st2 z=>h _ _ z) z) q
theorem jI (G:bD Γ):∀(e:O) {ρ:Fr}{st:AH}{Q Q':Option Int->AH->Prop},(∀v st,Q v st->Q' v st)->wpO Γ e ρ st Q->wpO Γ e ρ st Q'
 | .no,ρ,st,Q,Q',h,q=>by exact h _ _ q
 | .yes e,ρ,st,Q,Q',h,q=>by
  skip
  refine ae G e (fun x st1 z=>?_) q;obtain⟨i,e,z⟩:=z;exact⟨i,e,h _ _ z⟩
theorem aY (G:bD Γ):∀(e:E) {ρ:Fr}{st:AH}{Q Q':BK},(∀v st,Q v st->Q' v st)->wpT Γ e ρ st Q->wpT Γ e ρ st Q'
 | .bop true es,ρ,st,Q,Q',h,q=>by exact bC G es h q
 | .bop false es,ρ,st,Q,Q',h,q=>by exact j7 G es h q
 | .not a,ρ,st,Q,Q',h,q=>by exact aY G a (fun c st1 z=>h _ _ z) q
 | .cmp op a b,ρ,st,Q,Q',h,q=>by
  skip
  exact ae G a (fun x st1 z=>ae G b (fun y st2 z=>gX (fun v st3 w=>by obtain⟨c,e,w⟩:=w;exact⟨c,e,h _ _ w⟩) z) z) q
 | .var i,ρ,st,Q,Q',h,q=>by obtain⟨v,e,z⟩:=js q;exact rA e (bL h z)
 | .call f es,ρ,st,Q,Q',h,q=>by exact aN G es (fun vs st1 z=>G _ _ _ _ _ (fun v st2 z=>bL h z) z) q
 | .blt b es,ρ,st,Q,Q',h,q=>by exact aN G es (fun vs st1 z=>hV (fun v st2 z=>bL h z) z) q
 | .inst a t,ρ,st,Q,Q',h,q=>by
  skip
  refine ae G a (fun x st1 z=>?_) q;obtain⟨i,e,z⟩:=z;exact⟨i,e,h _ _ z⟩
 | .tmp a,ρ,st,Q,Q',h,q=>by exact ae G a (fun v st1 z=>tN (fun v st2 z=>bL h z) z) q
 | .ix a b,ρ,st,Q,Q',h,q=>by exact ae G a (fun x st1 z=>ae G b (fun y st2 z=>jU (fun v st3 z=>bL h z) z) z) q
 | .pcall _ _,ρ,st,Q,Q',h,q=>False.elim q
 | .eqd ne a b,ρ,st,Q,Q',h,q=>by exact ae G a (fun x st1 z=>ae G b (fun y st2 z=>z.imp (fun z=>⟨z.1,h _ _ z.2⟩) fun z=>⟨z.1,h _ _ z.2⟩) z) q
 | .un k a,ρ,st,Q,Q',h,q=>by exact ae G a (fun v st1 z=>tM (fun v st2 w=>let ⟨c,e,w⟩:=w;⟨c,e,h _ _ w⟩) z) q
 | .compO _ _ _ _ _ _,ρ,st,Q,Q',h,q=>False.elim q
 | .compK _ _ _ _ _ _ _,ρ,st,Q,Q',h,q=>False.elim q
 | .compD _ _ _ _ _ _ _ _,ρ,st,Q,Q',h,q=>False.elim q
 | .dcl _,ρ,st,Q,Q',h,q=>False.elim q
 | .dct2 _ _,ρ,st,Q,Q',h,q=>False.elim q
 | .hm _ _ _,ρ,st,Q,Q',h,q=>False.elim q
 | .int _,ρ,st,Q,Q',h,q=>False.elim q
 | .bl _,ρ,st,Q,Q',h,q=>False.elim q
 | .non,ρ,st,Q,Q',h,q=>False.elim q
 | .str _,ρ,st,Q,Q',h,q=>False.elim q
 | .gv _ _,ρ,st,Q,Q',h,q=>False.elim q
 | .tup _,ρ,st,Q,Q',h,q=>False.elim q
 | .lst _,ρ,st,Q,Q',h,q=>False.elim q
 | .dct0,ρ,st,Q,Q',h,q=>False.elim q
 | .bad,ρ,st,Q,Q',h,q=>False.elim q
 | .jrev _,ρ,st,Q,Q',h,q=>False.elim q
 | .dcp _,ρ,st,Q,Q',h,q=>False.elim q
 | .smx _ _ _,ρ,st,Q,Q',h,q=>False.elim q
 | .dget _ _,ρ,st,Q,Q',h,q=>False.elim q
 | .clr _,ρ,st,Q,Q',h,q=>False.elim q
 | .sset _,ρ,st,Q,Q',h,q=>False.elim q
 | .part _ _,ρ,st,Q,Q',h,q=>False.elim q
 | .dct1 _ _,ρ,st,Q,Q',h,q=>False.elim q
 | .bin _ _ _,ρ,st,Q,Q',h,q=>False.elim q
 | .neg _,ρ,st,Q,Q',h,q=>False.elim q
 | .ite _ _ _,ρ,st,Q,Q',h,q=>False.elim q
 | .sl _ _ _,ρ,st,Q,Q',h,q=>False.elim q
 | .met _ _ _,ρ,st,Q,Q',h,q=>False.elim q
 | .comp _ _ _ _ _ _,ρ,st,Q,Q',h,q=>False.elim q
theorem ki (G:bD Γ):∀(e:Es) {ρ:Fr}{st:AH}{Q Q':EK},(∀v st,Q v st->Q' v st)->qg Γ e ρ st Q->qg Γ e ρ st Q'
 | .nil,ρ,st,Q,Q',h,q=>False.elim q
 | .cons e .nil,ρ,st,Q,Q',h,q=>by exact ae G e h q
 | .cons e (.cons e2 es),ρ,st,Q,Q',h,q=>by
  skip
  refine ae G e (fun x st1 z=>?_) q;obtain⟨c,e,z⟩:=z;refine⟨c,e,?_⟩;cases c with
  | true=>rw[K1 rfl] at z |-;exact ki G (.cons e2 es) h z
  | false=>rw[KW KI] at z |-;exact h _ _ z
theorem kE (G:bD Γ):∀(e:Es) {ρ:Fr}{st:AH}{Q Q':EK},(∀v st,Q v st->Q' v st)->qU Γ e ρ st Q->qU Γ e ρ st Q'
 | .nil,ρ,st,Q,Q',h,q=>False.elim q
 | .cons e .nil,ρ,st,Q,Q',h,q=>by exact ae G e h q
 | .cons e (.cons e2 es),ρ,st,Q,Q',h,q=>by
  skip
  refine ae G e (fun x st1 z=>?_) q;obtain⟨c,e,z⟩:=z;refine⟨c,e,?_⟩;cases c with
  | true=>rw[K1 rfl] at z |-;exact h _ _ z
  | false=>rw[KW KI] at z |-;exact kE G (.cons e2 es) h z
theorem bC (G:bD Γ):∀(e:Es) {ρ:Fr}{st:AH}{Q Q':BK},(∀v st,Q v st->Q' v st)->gh Γ e ρ st Q->gh Γ e ρ st Q'
 | .nil,ρ,st,Q,Q',h,q=>by exact h _ _ q
 | .cons e .nil,ρ,st,Q,Q',h,q=>by exact aY G e h q
 | .cons e (.cons e2 es),ρ,st,Q,Q',h,q=>by
  skip
  refine aY G e (fun c st1 z=>?_) q;cases c with
  | true=>rw[K1 rfl] at z |-;exact bC G (.cons e2 es) h z
  | false=>rw[KW KI] at z |-;exact h _ _ z
theorem j7 (G:bD Γ):∀(e:Es) {ρ:Fr}{st:AH}{Q Q':BK},(∀v st,Q v st->Q' v st)->qq Γ e ρ st Q->qq Γ e ρ st Q'
 | .nil,ρ,st,Q,Q',h,q=>by exact h _ _ q
 | .cons e .nil,ρ,st,Q,Q',h,q=>by exact aY G e h q
 | .cons e (.cons e2 es),ρ,st,Q,Q',h,q=>by
  skip
  refine aY G e (fun c st1 z=>?_) q;cases c with
  | true=>rw[K1 rfl] at z |-;exact h _ _ z
  | false=>rw[KW KI] at z |-;exact j7 G (.cons e2 es) h z
theorem fF (G:bD Γ):∀(e:It) {ρ:Fr}{st:AH}{Q Q':List PV->(AH->Prop)->AH->Prop},(∀v c st,Q v c st->Q' v c st)->jM Γ e ρ st Q->jM Γ e ρ st Q'
 | .seq a,ρ,st,Q,Q',h,q=>by
  skip
  refine ae G a (fun x st1 z=>?_) q;obtain⟨c,e,z⟩:=z;exact⟨c,e,h _ _ _ z⟩
 | .range1 a,ρ,st,Q,Q',h,q=>by
  skip
  refine ae G a (fun x st1 z=>?_) q;obtain⟨c,e,h1,h2,z⟩:=z;exact⟨c,e,h1,h2,h _ _ _ z⟩
 | .range2 _ _,ρ,st,Q,Q',h,q=>False.elim q
 | .zip a b,ρ,st,Q,Q',h,q=>by
  skip
  refine ae G a (fun x st1 z=>ae G b (fun y st2 z=>?_) z) q;obtain⟨i,j,e,e2,z⟩:=z;exact⟨i,j,e,e2,h _ _ _ z⟩
 | .enum _,ρ,st,Q,Q',h,q=>False.elim q
 | .chars a,ρ,st,Q,Q',h,q=>by refine ae G a (fun x st1 z=>?_) q;obtain⟨c,e,z⟩:=z;exact⟨c,e,h _ _ _ z⟩
 | .zip3 _ _ _,ρ,st,Q,Q',h,q=>False.elim q
 | .range3 _ _ _,ρ,st,Q,Q',h,q=>False.elim q
theorem aO (G:bD Γ):∀(t:Tg) {v:PV}{ρ:Fr}{st:AH}{Q Q':Fr->AH->Prop},(∀ρ st,Q ρ st->Q' ρ st)->b7 Γ t v ρ st Q->b7 Γ t v ρ st Q'
 | .name i,v,ρ,st,Q,Q',h,q=>by exact h _ _ q
 | .tup ts,v,ρ,st,Q,Q',h,q=>by
  skip
  obtain⟨xs,e,hl,q⟩:=q;exact⟨xs,e,hl,fV G ts h q⟩
 | .ltup ts,v,ρ,st,Q,Q',h,q=>False.elim q
 | .sub o i,v,ρ,st,Q,Q',h,q=>by exact ae G o (fun x st1 z=>ae G i (fun y st2 z=>o9 (fun st3 z=>h _ _ z) z) z) q
 | .subO o i,v,ρ,st,Q,Q',h,q=>by exact ae G o (fun x st1 z=>ae G i (fun y st2 z=>let ⟨n,e,z⟩:=z;⟨n,e,pS (fun st3 z=>h _ _ z) z⟩) z) q
theorem fV (G:bD Γ):∀(t:Tgs) {v:List PV}{ρ:Fr}{st:AH}{Q Q':Fr->AH->Prop},(∀ρ st,Q ρ st->Q' ρ st)->gE Γ t v ρ st Q->gE Γ t v ρ st Q'
 | .nil,v,ρ,st,Q,Q',h,q=>by exact⟨q.1,h _ _ q.2⟩
 | .cons t ts,v,ρ,st,Q,Q',h,q=>by
  skip
  obtain⟨x,r,e,q⟩:=q;exact⟨x,r,e,aO G t (fun ρ' st' z=>fV G ts h z) q⟩
end
structure jG (D D':a8):Prop where
 nx:∀ρ st,D.nx ρ st->D'.nx ρ st
 rt:∀v st,D.rt v st->D'.rt v st
 bk:∀ρ st,D.bk ρ st->D'.bk ρ st
 ct:∀ρ st,D.ct ρ st->D'.ct ρ st
theorem hJ {body body':PV->Fr->AH->a8->Prop}{D:a8}(hD:jG D D')(hb:∀x ρ st D D',jG D D'->body x ρ st D->body' x ρ st D') :
  ∀ {xs:List PV}{ρ:Fr}{st:AH},lO chk body D xs ρ st->lO chk body' D' xs ρ st
 | [],ρ,st,q=>⟨q.1,hD.nx _ _ q.2⟩
 | x::xs,ρ,st,q=>by refine⟨q.1,hb _ _ _ _ _ ?_ q.2⟩;exact⟨fun _ _ z=>hJ hD hb z,hD.rt,hD.nx,fun _ _ z=>hJ hD hb z⟩
theorem gH {c:Fr->AH->BK->Prop}{body:Fr->AH->a8->Prop}{D:a8}(hD:jG D D')(hc:∀ρ st Q Q',(∀b st,Q b st->Q' b st)->c ρ st Q->c ρ st Q')(hb:∀ρ st D D',jG D D'->body ρ st D->body ρ st D'):∀ {n:Nat}{ρ:Fr}{st:AH},eK c body D n ρ st->eK c body D' n ρ st
 | 0,ρ,st,q=>q
 | n+1,ρ,st,q=>hc _ _ _ _ (fun b st1 z=>by
  cases b with
  | true =>
   rw[K1 rfl] at z |-
   refine hb _ _ _ _ ?_ z;exact⟨fun _ _ z=>gH hD hc hb z,hD.rt,hD.nx,fun _ _ z=>gH hD hc hb z⟩
  | false=>rw[KW KI] at z |-;exact hD.nx _ _ z) q
theorem o8 {st:AH}{Q':EK}(h:∀v st,Q v st->Q' v st)(q:n6 op x y st Q):n6 op x y st Q':=by
 unfold n6 at q |-
 split at q
 ·exact h _ _ q
 ·exact h _ _ q
 ·obtain⟨xs,ys,h1,h2,h3,q⟩:=q;exact⟨xs,ys,h1,h2,h3,h _ _ q⟩
 ·exact q
mutual
theorem jB (G:bD Γ):∀(s:S) {ρ:Fr}{st:AH}{D D':a8},jG D D'->wpS Γ s ρ st D->wpS Γ s ρ st D'
 | .set t e,ρ,st,D,D',h,q=>by exact ae G e (fun v st1 z=>aO G t h.nx z) q
 | .par i j a b,ρ,st,D,D',h,q=>by exact ae G a (fun v st1 z=>ae G b (fun w st2 z=>h.nx _ _ z) z) q
 | .aug i op e,ρ,st,D,D',h,q=>by
  skip
  obtain⟨x,h1,q⟩:=q;exact⟨x,h1,ae G e (fun v st1 z=>o8 (fun _ _ z=>h.nx _ _ z) z) q⟩
 | .expr e,ρ,st,D,D',h,q=>by exact ae G e (fun v st1 z=>h.nx _ _ z) q
 | .ret e,ρ,st,D,D',h,q=>by exact ae G e h.rt q
 | .retN,ρ,st,D,D',h,q=>by exact h.rt _ _ q
 | .ifS c a b,ρ,st,D,D',h,q=>by
  skip
  refine aY G c (fun k st1 z=>?_) q;cases k with
  | true=>rw[K1 rfl] at z |-;exact aU G a h z
  | false=>rw[KW KI] at z |-;exact aU G b h z
 | .whileS c b,ρ,st,D,D',h,q=>by
  skip
  obtain⟨n,q⟩:=q;refine⟨n,gH h (c:=wpT Γ c) (body:=aD Γ b) ?_ ?_ q⟩
  ·exact fun _ _ _ _ hk z=>aY G c hk z
  ·exact fun _ _ _ _ hk z=>aU G b hk z
 | .forS t it b,ρ,st,D,D',h,q=>by
  skip
  exact fF G it (fun xs chk st1 z=>hJ h (fun x ρ st D D' hd w=>aO G t (fun ρ2 st2 w=>aU G b hd w) w) z) q
 | .forK t wk e b,ρ,st,D,D',h,q=>by
  skip
  refine ae G e (fun x st1 z=>?_) q;obtain⟨n,ex,kvs,e1,z⟩:=z;exact⟨n,ex,kvs,e1,hJ (D:=fzD n kvs D) (D':=fzD n kvs D') ⟨fun _ _ z=>⟨z.1,h.nx _ _ z.2⟩,fun _ _ z=>⟨z.1,h.rt _ _ z.2⟩,fun _ _ z=>False.elim z,fun _ _ z=>False.elim z⟩ (fun x ρ st D D' hd w=>aO G t (fun ρ2 st2 w=>aU G b hd w) w) z⟩
 | .pass,ρ,st,D,D',h,q=>by exact h.nx _ _ q
 | .bad,ρ,st,D,D',h,q=>False.elim q
 | .set2 i j e,ρ,st,D,D',h,q=>by exact ae G e (fun v st1 z=>h.nx _ _ z) q
 | .brk,ρ,st,D,D',h,q=>by exact h.bk _ _ q
 | .cont,ρ,st,D,D',h,q=>by exact h.ct _ _ q
theorem aU (G:bD Γ):∀(s:Ss) {ρ:Fr}{st:AH}{D D':a8},jG D D'->aD Γ s ρ st D->aD Γ s ρ st D'
 | .nil,ρ,st,D,D',h,q=>by exact h.nx _ _ q
 | .cons s ss,ρ,st,D,D',h,q=>by
  skip
  refine jB G s ?_ q;exact⟨fun _ _ z=>aU G ss h z,h.rt,h.bk,h.ct⟩
end
end
end FW
namespace FW
open L2 HX
def RdF (K:W.Frag)(H:Hp)(a:Addr)(ys:List V):Prop :=
 (∃o,H a=some (.frz o (.lst ys)))\/∃(o:Obj) (its:Array Value) (n:Nat),K.lookup a=some o/\o.cls=.type "list"/\o.dict=none/\o.data=.seq its n/\its.size<=sizeLine/\Vals ys its.toList
theorem RdF.sq (h:RdF K H a ys):SqL K H a ys:=by
 rcases h with h|h
 ·exact .inl (.inr h)
 ·exact .inr h
mutual
noncomputable def R (K:W.Frag)(m:List Addr)(H:Hp):PV->V->Prop
 | .non,v=>v=.non
 | .bl b,v=>v=.bl b
 | .int i,v=>v=.int i
 | .str x,v=>v=.str x
 | .ref n,v=>∃a,m[n]?=some a/\v=.ref a
 | .tup xs,v=>∃a ys,v=.ref a/\SqT K H a ys/\Rs K m H xs ys
 | .rdl xs,v=>∃a ys,v=.ref a/\RdF K H a ys/\Rs K m H xs ys
 | .fn a,v=>v=.ref a
noncomputable def Rs (K:W.Frag)(m:List Addr)(H:Hp):List PV->List V->Prop
 | [],ys=>ys=[]
 | x::xs,ys=>∃y r,ys=y::r/\R K m H x y/\Rs K m H xs r
end
section
variable {K:W.Frag}{m m':List Addr}{H H':Hp}{v:V}{vs:List V}
theorem R_non:R K m H .non v↔v=.non:=by rw[R]
theorem R_bl:R K m H (.bl b) v↔v=.bl b:=by rw[R]
theorem R_int:R K m H (.int b) v↔v=.int b:=by rw[R]
theorem R_str:R K m H (.str b) v↔v=.str b:=by rw[R]
theorem R_ref:R K m H (.ref n) v↔∃a,m[n]?=some a/\v=.ref a:=by rw[R]
theorem R_tup:R K m H (.tup xs) v↔∃a ys,v=.ref a/\SqT K H a ys/\Rs K m H xs ys:=by rw[R]
theorem R_rdl:R K m H (.rdl xs) v↔∃a ys,v=.ref a/\RdF K H a ys/\Rs K m H xs ys:=by rw[R]
theorem C9:R K m H (.fn a) v↔v=.ref a:=by rw[R]
theorem Rs_nil:Rs K m H [] vs↔vs=[]:=by rw[Rs]
theorem Rs_cons {x:PV}{xs:List PV}:Rs K m H (x::xs) vs↔∃y r,vs=y::r/\R K m H x y/\Rs K m H xs r:=by rw[Rs]
theorem Rs_cons' {x:PV}{xs:List PV}:Rs K m H (x::xs) (v::vs)↔R K m H x v/\Rs K m H xs vs:=by
 rw[Rs_cons];constructor
 ·rintro⟨_,_,e,h1,h2⟩;cases e;exact⟨h1,h2⟩
 ·rintro⟨h1,h2⟩;exact⟨_,_,rfl,h1,h2⟩
theorem Rs.len:∀ {xs:List PV}{ys:List V},Rs K m H xs ys->xs.length=ys.length
 | [],ys,h=>by rw[Rs_nil] at h;subst h;rfl
 | x::xs,ys,h=>by rw[Rs_cons] at h;obtain⟨y,r,rfl,_,h⟩:=h;simp[Rs.len h]
theorem Rs.get:∀ {xs:List PV}{ys:List V}{i:Nat}{x:PV},Rs K m H xs ys->xs[i]?=some x->∃y,ys[i]?=some y/\R K m H x y
 | [],ys,i,x,h,e=>by simp at e
 | x::xs,ys,i,z,h,e=>by
  rw[Rs_cons] at h;obtain⟨y,r,rfl,h1,h⟩:=h;cases i with
  | zero=>simp at e;subst e;exact⟨y,rfl,h1⟩
  | succ i =>obtain⟨w,e1,e2⟩:=Rs.get h (by simpa using e);exact⟨w,by simpa using e1,e2⟩
theorem Rs.app:∀ {xs zs:List PV}{ys ws:List V},Rs K m H xs ys->Rs K m H zs ws->Rs K m H (xs++zs) (ys++ws)
 | [],zs,ys,ws,h,h'=>by rw[Rs_nil] at h;subst h;exact h'
 | x::xs,zs,ys,ws,h,h'=>by rw[Rs_cons] at h;obtain⟨y,r,rfl,h1,h⟩:=h;rw[List.cons_append,Rs_cons];exact⟨y,r++ws,rfl,h1,h.app h'⟩
theorem Rs.drop:∀ {xs:List PV}{ys:List V} (n:Nat),Rs K m H xs ys->Rs K m H (xs.drop n) (ys.drop n)
 | xs,ys,0,h=>by simpa using h
 | [],ys,n+1,h=>by rw[Rs_nil] at h;subst h;simp[Rs_nil]
 | x::xs,ys,n+1,h=>by rw[Rs_cons] at h;obtain⟨y,r,rfl,h1,h⟩:=h;simpa using Rs.drop n h
theorem Rs.take:∀ {xs:List PV}{ys:List V} (n:Nat),Rs K m H xs ys->Rs K m H (xs.take n) (ys.take n)
 | xs,ys,0,h=>by simp[Rs_nil]
 | [],ys,n+1,h=>by rw[Rs_nil] at h;subst h;simp[Rs_nil]
 | x::xs,ys,n+1,h=>by rw[Rs_cons] at h;obtain⟨y,r,rfl,h1,h⟩:=h;rw[List.take_succ_cons,List.take_succ_cons,Rs_cons'];exact⟨h1,Rs.take n h⟩
theorem Rs.set (hx:R K m H x y):∀ {xs:List PV}{ys:List V} (n:Nat),Rs K m H xs ys->Rs K m H (xs.set n x) (ys.set n y)
 | [],ys,n,h=>by rw[Rs_nil] at h;subst h;simp[Rs_nil]
 | z::xs,ys,0,h=>by rw[Rs_cons] at h;obtain⟨w,r,rfl,h1,h⟩:=h;rw[List.set_cons_zero,List.set_cons_zero,Rs_cons'];exact⟨hx,h⟩
 | z::xs,ys,n+1,h=>by rw[Rs_cons] at h;obtain⟨w,r,rfl,h1,h⟩:=h;rw[List.set_cons_succ,List.set_cons_succ,Rs_cons'];exact⟨h1,Rs.set hx n h⟩
theorem Rs.cut (h:Rs K m H xs ys)(lo hi:Option Int):Rs K m H (fE xs lo hi) (oG ys lo hi):=by unfold fE oG;rw[h.len];exact(h.drop _).take _
theorem Rs.atI (h:Rs K m H xs ys)(e:atI xs i=some x):∃y,L2.atI ys i=some y/\R K m H x y:=by
 unfold L2.atI at e |-
 rw[h.len] at e;cases q:ixN ys.length i with
 | none=>rw[q] at e;cases e
 | some j =>rw[q] at e;obtain⟨y,e1,e2⟩:=h.get (show xs[j]?=some x from e);exact⟨y,e1,e2⟩
theorem Rs.one (h:R K m H x y):Rs K m H [x] [y]:=by rw[Rs_cons',Rs_nil];exact⟨h,rfl⟩
end
noncomputable def bg:List Str:=["coming","latest","through"]
def TL (K:W.Frag)(H:Hp):Prop:=∀x∈bg,∀c T,W.tabIn K x=some (c,T)->(∀y∈bg,∀d,W.tabIn K y=some (d,T)->y=x)/\∃ps,H T=some (.tbl ps)/\TriplesOk ps.toList /\
 ∀pos cv,codeAmong pos ps.toList=some cv->∃c' oc,cv=.ref c'/\H c'=some (.frz oc (.own 0))/\GW oc (x++".<locals>."++"<lambda>")
def TB (K:W.Frag)(H:Hp):Prop:=TL K H/\∃o,H sysModules=some (.frz o (.own 0))
theorem TB.keep {H':Hp}(t:TB K H)(h1:∀a ps,H a=some (.tbl ps)->H' a=some (.tbl ps))(h2:∀a o,H a=some (.frz o (.own 0))->H' a=some (.frz o (.own 0))):TB K H':=⟨fun x hx c T e=>by obtain⟨e0,ps,e1,e2,e3⟩:=t.1 x hx c T e;refine⟨e0,ps,h1 _ _ e1,e2,fun pos cv q=>?_⟩;obtain⟨c',oc,g1,g2,g3⟩:=e3 pos cv q;exact⟨c',oc,g1,h2 _ _ g2,g3⟩,let ⟨o,e⟩:=t.2;⟨o,h2 _ _ e⟩⟩
structure Ext (K:W.Frag)(m:List Addr)(H:Hp)(m':List Addr)(H':Hp):Prop where
 pre:m <+: m'
 new:∀a∈m',a∈m\/H a=none
 fr:∀a o,a ∉ m->H a=some o->(∀ps,o≠.tbl ps)->H' a=some o
 tup:∀a ys,SqT K H a ys->SqT K H' a ys
 rdf:∀a ys,RdF K H a ys->RdF K H' a ys
 tbs:∀a ps,a ∉ m->H a=some (.tbl ps)->∃ps',H' a=some (.tbl ps')
 tb:TB K H->TB K H'
 frz:∀a o u,H a=some (.frz o u)->H' a=some (.frz o u)
theorem Ext.refl (K:W.Frag)(m:List Addr)(H:Hp):Ext K m H m H:=⟨NZ _,fun _ h=>.inl h,fun _ _ _ h _=>h,fun _ _ h=>h,fun _ _ h=>h,fun _ ps _ h=>⟨ps,h⟩,fun h=>h,fun _ _ _ h=>h⟩
theorem Ext.ne (x:Ext K m H m' H'){a:Addr}(hm:a ∉ m)(e:H a=some o):H' a≠none:=fun z=>by
 by_cases h:∃ps,o=.tbl ps
 ·obtain⟨ps,rfl⟩:=h;obtain⟨q,e2⟩:=x.tbs a ps hm e;rw[e2] at z;cases z
 ·rw[x.fr a o hm e fun ps q=>h ⟨ps,q⟩] at z;cases z
theorem Ext.trans (a:Ext K m H m1 H1)(b:Ext K m1 H1 m2 H2):Ext K m H m2 H2:=by
 have nin:∀c o,c ∉ m->H c=some o->c ∉ m1:=fun c o h e z=>by
  rcases a.new c z with q|q
  ·exact h q
  ·rw[e] at q;cases q
 refine⟨a.pre.trans b.pre,fun c hc=>?_,fun c o h e n=>b.fr c o (nin c o h e) (a.fr c o h e n) n,fun c ys h=>b.tup c ys (a.tup c ys h),fun c ys h=>b.rdf c ys (a.rdf c ys h),fun c ps h e=>let ⟨p1,e1⟩:=a.tbs c ps h e;b.tbs c p1 (nin c _ h e) e1,fun h=>b.tb (a.tb h),fun c o u h=>b.frz c o u (a.frz c o u h)⟩;rcases b.new c hc with q|q
 ·exact a.new c q
 ·by_cases hm:c∈m
  ·exact .inl hm
  ·cases e:H c with
   | none=>exact .inr rfl
   | some o=>exact absurd q (a.ne hm e)
theorem eU {m:List Addr}(h:m <+: m'){n:Nat}(e:m[n]?=some a):m'[n]?=some a:=by obtain⟨t,rfl⟩:=h;rw[K9 (KQ.mp e).1];exact e
mutual
theorem R.mono (x:Ext K m H m' H'):∀ {p:PV}{v:V},R K m H p v->R K m' H' p v
 | .non,v,h=>by rw[R_non] at h |-;exact h
 | .bl b,v,h=>by rw[R_bl] at h |-;exact h
 | .int b,v,h=>by rw[R_int] at h |-;exact h
 | .str b,v,h=>by rw[R_str] at h |-;exact h
 | .ref n,v,h=>by rw[R_ref] at h |-;obtain⟨a,e,q⟩:=h;exact⟨a,eU x.pre e,q⟩
 | .tup xs,v,h=>by rw[R_tup] at h |-;obtain⟨a,ys,e,q,r⟩:=h;exact⟨a,ys,e,x.tup _ _ q,Rs.mono x r⟩
 | .rdl xs,v,h=>by rw[R_rdl] at h |-;obtain⟨a,ys,e,q,r⟩:=h;exact⟨a,ys,e,x.rdf _ _ q,Rs.mono x r⟩
 | .fn b,v,h=>by rw[C9] at h |-;exact h
theorem Rs.mono (x:Ext K m H m' H'):∀ {ps:List PV}{vs:List V},Rs K m H ps vs->Rs K m' H' ps vs
 | [],vs,h=>by rw[Rs_nil] at h |-;exact h
 | p::ps,vs,h=>by
  rw[Rs_cons] at h |-
  obtain⟨y,r,e,h1,h2⟩:=h;exact⟨y,r,e,R.mono x h1,Rs.mono x h2⟩
end
mutual
theorem R.cut {m:List Addr}:∀ {p:PV}{v:V},R K m H p v->p.bec k=true->R K (m.take k) H p v
 | .non,v,h,_=>by rw[R_non] at h |-;exact h
 | .bl b,v,h,_=>by rw[R_bl] at h |-;exact h
 | .int b,v,h,_=>by rw[R_int] at h |-;exact h
 | .str b,v,h,_=>by rw[R_str] at h |-;exact h
 | .ref n,v,h,z=>by
  rw[R_ref] at h |-
  obtain⟨a,e,q⟩:=h;rw[PV.bec] at z;exact⟨a,by rw[MZ (LL z)];exact e,q⟩
 | .tup xs,v,h,z=>by
  rw[R_tup] at h |-
  obtain⟨a,ys,e,q,r⟩:=h;rw[PV.bec] at z;exact⟨a,ys,e,q,Rs.cutm r z⟩
 | .rdl xs,v,h,z=>by
  rw[R_rdl] at h |-
  obtain⟨a,ys,e,q,r⟩:=h;rw[PV.bec] at z;exact⟨a,ys,e,q,Rs.cutm r z⟩
 | .fn b,v,h,_=>by rw[C9] at h |-;exact h
theorem Rs.cutm {m:List Addr}:∀ {ps:List PV}{vs:List V},Rs K m H ps vs->PV.becs k ps=true->Rs K (m.take k) H ps vs
 | [],vs,h,_=>by rw[Rs_nil] at h |-;exact h
 | p::ps,vs,h,z=>by
  rw[Rs_cons] at h |-
  obtain⟨y,r,e,h1,h2⟩:=h;rw[PV.becs,KM] at z;exact⟨y,r,e,R.cut h1 z.1,Rs.cutm h2 z.2⟩
end
mutual
theorem R.bel {m:List Addr}:∀ {p:PV}{v:V},R K m H p v->p.bec m.length=true
 | .non,v,h=>by rw[PV.bec]
 | .bl b,v,h=>by rw[PV.bec]
 | .int b,v,h=>by rw[PV.bec]
 | .str b,v,h=>by rw[PV.bec]
 | .ref n,v,h=>by rw[R_ref] at h;obtain⟨a,e,q⟩:=h;rw[PV.bec];exact LF (KQ.mp e).1
 | .tup xs,v,h=>by rw[R_tup] at h;obtain⟨a,ys,e,q,r⟩:=h;rw[PV.bec];exact Rs.bel r
 | .rdl xs,v,h=>by rw[R_rdl] at h;obtain⟨a,ys,e,q,r⟩:=h;rw[PV.bec];exact Rs.bel r
 | .fn b,v,h=>by rw[PV.bec]
theorem Rs.bel {m:List Addr}:∀ {ps:List PV}{vs:List V},Rs K m H ps vs->PV.becs m.length ps=true
 | [],vs,h=>by rw[PV.becs]
 | p::ps,vs,h=>by rw[Rs_cons] at h;obtain⟨y,r,e,h1,h2⟩:=h;rw[PV.becs,KM];exact⟨R.bel h1,Rs.bel h2⟩
end
def Gc (a:Addr)(o:Obj)(ks vs:List V):Prop:=(a == sysModules)=false/\o.ExactDict/\∃es ep,o.data=.dict es ep/\Vals ks (es.toList.map (·.key))/\Vals vs (es.toList.map (·.val))
noncomputable def CellR (K:W.Frag)(m:List Addr)(H:Hp):Cell->Addr->Prop
 | .lst xs,a=>∃ys,H a=some (.lst ys)/\Rs K m H xs ys
 | .dk kvs,a=>∃ys,H a=some (.dK ys)/\ys.map (·.1)=kvs.map (·.1)/\Rs K m H (kvs.map (·.2)) (ys.map (·.2))
 | .fz kvs,a=>∃o ys,H a=some (.frz o (.dK ys))/\ys.map (·.1)=kvs.map (·.1)/\Rs K m H (kvs.map (·.2)) (ys.map (·.2))
 | .od kvs,a=>∃o ks vs,H a=some (.frz o (.own 0))/\Gc a o ks vs/\Rs K m H (kvs.map (·.1)) ks/\Rs K m H (kvs.map (·.2)) vs
theorem CellR.mono (x:Ext K m H m' H')(h:CellR K m H c a)(e:H' a=H a):CellR K m' H' c a:=by
 cases c with
 | lst xs=>obtain⟨ys,h1,h2⟩:=h;exact⟨ys,e.trans h1,h2.mono x⟩
 | dk kvs=>obtain⟨ys,h1,h2,h3⟩:=h;exact⟨ys,e.trans h1,h2,h3.mono x⟩
 | fz kvs=>obtain⟨o,ys,h1,h2,h3⟩:=h;exact⟨o,ys,e.trans h1,h2,h3.mono x⟩
 | od kvs=>obtain⟨o,ks,vs,h1,h2,h3,h4⟩:=h;exact⟨o,ks,vs,e.trans h1,h2,h3.mono x,h4.mono x⟩
theorem CellR.ex (h:CellR K m H c a):∃o,H a=some o/\(∀ys,o≠.tup ys)/\∀u p,o=.frz u p->(∃ys,p=.dK ys)\/p=.own 0:=by
 cases c with
 | lst xs=>obtain⟨ys,h1,h2⟩:=h;exact⟨_,h1,⟨fun _ z=>(by cases z),fun _ _ z=>(by cases z)⟩⟩
 | dk kvs=>obtain⟨ys,h1,h2,h3⟩:=h;exact⟨_,h1,⟨fun _ z=>(by cases z),fun _ _ z=>(by cases z)⟩⟩
 | fz kvs=>obtain⟨o,ys,h1,h2,h3⟩:=h;exact⟨_,h1,⟨fun _ z=>(by cases z),fun _ _ z=>(by cases z;exact .inl ⟨ys,rfl⟩)⟩⟩
 | od kvs=>obtain⟨o,ks,vs,h1,h2,h3,h4⟩:=h;exact⟨_,h1,⟨fun _ z=>(by cases z),fun _ _ z=>(by cases z;exact .inr rfl)⟩⟩
theorem CellR.cut (h:CellR K m H c a)(z:c.bec k=true):CellR K (m.take k) H c a:=by
 cases c with
 | lst xs=>obtain⟨ys,h1,h2⟩:=h;exact⟨ys,h1,h2.cutm z⟩
 | dk kvs=>obtain⟨ys,h1,h2,h3⟩:=h;exact⟨ys,h1,h2,h3.cutm z⟩
 | fz kvs=>obtain⟨o,ys,h1,h2,h3⟩:=h;exact⟨o,ys,h1,h2,h3.cutm z⟩
 | od kvs=>obtain⟨o,ks,vs,h1,h2,h3,h4⟩:=h;rw[Cell.bec,KM] at z;exact⟨o,ks,vs,h1,h2,h3.cutm z.1,h4.cutm z.2⟩
theorem CellR.bel (h:CellR K m H c a):c.bec m.length=true:=by
 cases c with
 | lst xs=>obtain⟨ys,h1,h2⟩:=h;exact h2.bel
 | dk kvs=>obtain⟨ys,h1,h2,h3⟩:=h;exact h3.bel
 | fz kvs=>obtain⟨o,ys,h1,h2,h3⟩:=h;exact h3.bel
 | od kvs=>obtain⟨o,ks,vs,h1,h2,h3,h4⟩:=h;rw[Cell.bec,KM];exact⟨h3.bel,h4.bel⟩
structure RH (K:W.Frag)(m:List Addr)(H:Hp)(st:AH):Prop where
 len:m.length=st.length
 nd:m.Nodup
 at_:∀(n:Nat) (c:Cell) (a:Addr),st[n]?=some c->m[n]?=some a->CellR K m H c a
 tb:TB K H
section
variable {K:W.Frag}{m m':List Addr}{H H':Hp}{st:AH}
theorem RH.get {n:Nat}(h:RH K m H st)(e:st[n]?=some c):∃a,m[n]?=some a/\CellR K m H c a:=by
 have:n<m.length:=by rw[h.len];exact(KQ.mp e).1
 exact⟨m[n],by simp[this],h.at_ n c _ e (by simp[this])⟩
theorem RH.mem {a:Addr}(h:RH K m H st)(e:a∈m):∃o,H a=some o/\(∀ys,o≠.tup ys)/\∀u p,o=.frz u p->(∃ys,p=.dK ys)\/p=.own 0:=by
 obtain⟨n,hn,rfl⟩:=List.mem_iff_getElem.mp e;have:n<st.length:=by rw[<-h.len];exact hn
 exact(h.at_ n st[n] _ (by simp[this]) (by simp[hn])).ex
theorem RH.mem_tbl {a:Addr}(h:RH K m H st)(e:a∈m):H a≠some (.tbl ps):=fun z=>by
 obtain⟨n,hn,rfl⟩:=List.mem_iff_getElem.mp e;have:n<st.length:=by rw[<-h.len];exact hn
 have c:=h.at_ n st[n] m[n] (by simp[this]) (by simp[hn]);cases q:st[n] with
 | lst xs=>rw[q] at c;obtain⟨ys,h1,_⟩:=c;rw[h1] at z;cases z
 | dk xs=>rw[q] at c;obtain⟨ys,h1,_⟩:=c;rw[h1] at z;cases z
 | fz xs=>rw[q] at c;obtain⟨o,ys,h1,_⟩:=c;rw[h1] at z;cases z
 | od xs=>rw[q] at c;obtain⟨o,ks,vs,h1,_⟩:=c;rw[h1] at z;cases z
theorem RH.lst {n:Nat}(h:RH K m H st)(e:st[n]?=some (.lst xs))(r:R K m H (.ref n) v):∃a ys,v=.ref a/\m[n]?=some a/\H a=some (.lst ys)/\Rs K m H xs ys:=by rw[R_ref] at r;obtain⟨a,e1,rfl⟩:=r;obtain⟨ys,h1,h2⟩:=h.at_ n _ a e e1;exact⟨a,ys,rfl,e1,h1,h2⟩
theorem RH.fresh (h:RH K m H st)(e:H p=none):p ∉ m:=fun z=>by obtain⟨o,q,_⟩:=h.mem z;rw[e] at q;cases q
theorem Ext.newT (h:RH K m H st)(e:H p=none):Ext K m H m (upd H p o):=by
 refine⟨NZ _,fun _ z=>.inl z,fun a u _ q _=>?_,fun a ys q=>?_,fun a ys q=>?_,fun a ps _ q=>⟨ps,by rw[ag (ao q e)];exact q⟩,fun t=>t.keep (fun a ps q=>by rw[ag (ao q e)];exact q) fun a o q=>by rw[ag (ao q e)];exact q,fun a o u q=>by rw[ag (ao q e)];exact q⟩
 ·rw[ag (ao q e)];exact q
 ·rcases q with (q|⟨u,q⟩)|q
  ·exact .inl (.inl (by rw[ag (ao q e)];exact q))
  ·exact .inl (.inr ⟨u,by rw[ag (ao q e)];exact q⟩)
  ·exact .inr q
 ·rcases q with⟨u,q⟩|q
  ·exact .inl ⟨u,by rw[ag (ao q e)];exact q⟩
  ·exact .inr q
theorem RH.keep (h:RH K m H st)(x:Ext K m H m H')(e:∀a∈m,H' a=H a):RH K m H' st :=
 ⟨h.len,h.nd,fun n c a h1 h2=>(h.at_ n c a h1 h2).mono x (e a (K5 h2)),x.tb h.tb⟩
theorem RH.newT (h:RH K m H st)(e:H p=none):RH K m (upd H p o) st :=
 h.keep (Ext.newT h e) fun a ha=>ag fun z=>h.fresh e (z ▸ ha)
theorem Ext.new1 (h:RH K m H st)(e:H p=none):Ext K m H (m++[p]) (upd H p o):=by
 have q:=Ext.newT (o:=o) h e;refine⟨N9 _ _,fun a z=>?_,q.fr,q.tup,q.rdf,q.tbs,q.tb,q.frz⟩;rcases LC.mp z with z|z
 ·exact .inl z
 ·rw[K4] at z;subst z;exact .inr e
theorem RH.new1 (h:RH K m H st)(e:H p=none)(hc:CellR K (m++[p]) (upd H p o) c p):RH K (m++[p]) (upd H p o) (st++[c]):=by
 have x:=Ext.new1 (o:=o) h e;refine⟨by simp[h.len],MY.mpr ⟨h.nd,KY.mpr ⟨by simp,OM⟩,fun a ha b hb z=>?_⟩,fun n c' a h1 h2=>?_,x.tb h.tb⟩
 ·rw[K4] at hb;subst hb;exact h.fresh e (z ▸ ha)
 ·by_cases hn:n<st.length
  ·rw[K9 hn] at h1;rw[K9 (by rw[h.len];exact hn)] at h2;exact(h.at_ n c' a h1 h2).mono x (ag fun z=>h.fresh e (z ▸ K5 h2))
  ·rw[LH (by omega)] at h1;rw[LH (by rw[h.len];omega)] at h2;have hl:=h.len;by_cases hz:n-st.length=0
   ·rw[hz] at h1;rw[show n-m.length=0 by omega] at h2;simp at h1 h2;subst h1 h2;exact hc
   ·rw[L4 (by simp;omega)] at h1;cases h1
theorem RH.newL (h:RH K m H st)(e:H p=none)(r:Rs K m H xs ys):RH K (m++[p]) (upd H p (.lst ys)) (st++[.lst xs]) :=
 h.new1 e ⟨ys,aA,r.mono (Ext.new1 h e)⟩
theorem R.last {p:Addr}{n:Nat}(h:m.length=n):R K (m++[p]) H (.ref n) (.ref p):=by rw[R_ref];exact⟨p,by rw[<-h];simp,rfl⟩
theorem nfL {H:Hp}(g:H a=some (.lst ys)):∀w v,H a≠some (.frz w v):=fun _ _ z=>by rw[g] at z;cases z
theorem nfD {H:Hp}(g:H a=some (.dK ys)):∀w v,H a≠some (.frz w v):=fun _ _ z=>by rw[g] at z;cases z
theorem Ext.set {n:Nat}{ys:List V}(h:RH K m H st)(e:m[n]?=some a)(hz:∀w v,H a≠some (.frz w v)):Ext K m H m (upd H a o):=by
 have hm:=K5 e;obtain⟨u,hu,h1,h2⟩:=h.mem hm;refine⟨NZ _,fun _ z=>.inl z,fun b w hb q _=>?_,fun b zs q=>?_,fun b zs q=>?_,fun b ps hb q=>⟨ps,by rw[ag (show b≠a from fun z=>hb (by rw[z];exact hm))];exact q⟩,fun t=>t.keep (fun b ps q=>by rw[ag (fun z=>by subst z;exact h.mem_tbl hm q)];exact q) fun b w q=>by rw[ag (fun z=>by subst z;exact hz _ _ q)];exact q,fun b w v q=>by rw[ag (fun z=>by subst z;exact hz _ _ q)];exact q⟩
 ·have hne:b≠a:=fun z=>hb (by rw[z];exact hm);rw[ag hne];exact q
 ·rcases q with (q|⟨w,q⟩)|q
  ·exact .inl (.inl (by rw[ag (fun z=>by subst z;rw[hu] at q;cases q;exact h1 _ rfl)];exact q))
  ·exact .inl (.inr ⟨w,by rw[ag (fun z=>by subst z;exact hz _ _ q)];exact q⟩)
  ·exact .inr q
 ·rcases q with⟨w,q⟩|q
  ·exact .inl ⟨w,by rw[ag (fun z=>by subst z;exact hz _ _ q)];exact q⟩
  ·exact .inr q
theorem j' {m:List Addr}(h:m.Nodup){i j:Nat}(e:m[i]?=some a)(e':m[j]?=some a):i=j:=by obtain⟨h1,h2⟩:=KQ.mp e;obtain⟨h3,h4⟩:=KQ.mp e';exact(List.getElem_inj h).mp (h2.trans h4.symm)
theorem RH.setL {n:Nat}(h:RH K m H st)(e:m[n]?=some a)(hz:∀w v,H a≠some (.frz w v))(r:Rs K m H xs ys):RH K m (upd H a (.lst ys)) (st.set n (.lst xs)):=by
 have x:Ext K m H m (upd H a (.lst ys)):=Ext.set (ys:=ys) h e hz;refine⟨by simp[h.len],h.nd,fun k c b h1 h2=>?_,x.tb h.tb⟩;by_cases hk:k=n
 ·subst hk;rw[e] at h2;cases h2;have hl:k<st.length:=by rw[<-h.len];exact(KQ.mp e).1
  rw[KR hl] at h1;cases h1;exact⟨ys,aA,r.mono x⟩
 ·rw[KU (fun z=>hk z.symm)] at h1;exact(h.at_ k c b h1 h2).mono x (ag fun z=>hk (j' h.nd h2 (z ▸ e)))
end
structure RF (K:W.Frag)(m:List Addr)(H:Hp)(ρ:Fr)(σ:L2.St):Prop where
 len:ρ.length=σ.length
 at_:∀(i:Nat) v,ρ[i]?=some (some v)->∃x,σ[i]?=some (some x)/\R K m H v x
theorem RF.mono (h:RF K m H ρ σ)(x:Ext K m H m' H'):RF K m' H' ρ σ :=
 ⟨h.len,fun i v e=>let ⟨y,e1,r⟩:=h.at_ i v e;⟨y,e1,r.mono x⟩⟩
theorem RF.set (h:RF K m H ρ σ)(i:Nat)(r:R K m H v x):RF K m H (ρ.set i (some v)) (σ.set i (some x)):=by
 refine⟨by simp[h.len],fun j w e=>?_⟩;by_cases hj:i=j
 ·subst hj;have hl:i<ρ.length:=by have:=(KQ.mp e).1;simpa using this
  rw[KR hl] at e;cases e;exact⟨x,by rw[KR (h.len ▸ hl)],r⟩
 ·rw[KU hj] at e;rw[KU hj];exact h.at_ j w e
noncomputable def post (K:W.Frag)(m:List Addr)(H:Hp)(Q:VK):EK:=fun v st'=>∀m' H' x,Ext K m H m' H'->RH K m' H' st'->R K m' H' v x->Q x H'
noncomputable def postB (K:W.Frag)(m:List Addr)(H:Hp)(Q:Bool->Hp->Prop):BK:=fun v st'=>∀m' H',Ext K m H m' H'->RH K m' H' st'->Q v H'
noncomputable def Jx (K:W.Frag)(m:List Addr)(H:Hp)(Q:List V->Hp->Prop):LK:=fun vs st'=>∀m' H' xs,Ext K m H m' H'->RH K m' H' st'->Rs K m' H' vs xs->Q xs H'
noncomputable def TEx (K:W.Frag)(w:Fr->AH->EK->Prop):TE:=fun σ H Q=>∃m ρ st,RF K m H ρ σ/\RH K m H st/\w ρ st (post K m H Q)
noncomputable def TTx (K:W.Frag)(w:Fr->AH->BK->Prop):TT:=fun σ H Q=>∃m ρ st,RF K m H ρ σ/\RH K m H st/\w ρ st (postB K m H Q)
noncomputable def TAx (K:W.Frag)(w:Fr->AH->LK->Prop):TA:=fun σ H Q=>∃m ρ st,RF K m H ρ σ/\RH K m H st/\w ρ st (Jx K m H Q)
theorem post.ext (x:Ext K m H m1 H1)(q:post K m H Q v st):post K m1 H1 Q v st:=fun m' H' y e r s=>q m' H' y (x.trans e) r s
theorem postB.ext (x:Ext K m H m1 H1)(q:postB K m H Q v st):postB K m1 H1 Q v st:=fun m' H' e r=>q m' H' (x.trans e) r
noncomputable def Ao (K:W.Frag)(w:PV->PV->AH->EK->Prop):R2:=fun x' y' H Q=>∃m st x y,RH K m H st/\R K m H x x'/\R K m H y y'/\w x y st (post K m H Q)
noncomputable def Js (K:W.Frag)(w:List PV->AH->EK->Prop):List V->Hp->VK->Prop:=fun xs' H Q=>∃m st xs,RH K m H st/\Rs K m H xs xs'/\w xs st (post K m H Q)
end FW
namespace FW
open L2 HX
theorem f9 {n:Nat}(h:n<=100000):n<=sizeLine:=by rw[sizeLine_eq];omega
theorem cZ {n:Nat}(h:n<100000):n<sizeLine:=by rw[sizeLine_eq];omega
section
variable {X:Cx}
theorem post.here (q:post K m H Q v st)(h:RH K m H st)(r:R K m H v x):Q x H:=q m H x (Ext.refl _ _ _) h r
theorem post.newT (q:post K m H Q (.tup xs) st)(h:RH K m H st)(r:Rs K m H xs ys)(e:H p=none):Q (.ref p) (upd H p (.tup ys)) :=
 q m _ _ (Ext.newT h e) (h.newT e) (R_tup.mpr ⟨p,ys,rfl,SqT.of aA,r.mono (Ext.newT h e)⟩)
theorem post.newL {st:AH}(q:post K m H Q (.ref st.length) (st++[.lst xs]))(h:RH K m H st)(r:Rs K m H xs ys)(e:H p=none):Q (.ref p) (upd H p (.lst ys)) :=
 q _ _ _ (Ext.new1 h e) (h.newL e r) (R.last h.len)
theorem post.setL {st:AH}(q:post K m H Q v (st.set n (.lst xs)))(h:RH K m H st)(e:m[n]?=some a)(hz:∀w v,H a≠some (.frz w v))(r:Rs K m H xs ys)(rv:R K m H v y) :
  Q y (upd H a (.lst ys)):=q _ _ _ (Ext.set (ys:=ys) h e hz) (h.setL e hz r) (rv.mono (Ext.set (ys:=ys) h e hz))
theorem bX (h:RH K m H st)(r:R K m H v x)(e:aT st v=some xs):∃a ys,x=.ref a/\SqL K H a ys/\Rs K m H xs ys:=by
 cases v with
 | rdl zs =>cases e;rw[R_rdl] at r;obtain⟨a,ys,rfl,h1,h2⟩:=r;exact⟨a,ys,rfl,h1.sq,h2⟩
 | ref n =>
  unfold aT at e;simp only at e;split at e
  ·cases e;rename_i q;obtain⟨a,ys,rfl,_,h1,h2⟩:=h.lst q r;exact⟨a,ys,rfl,SqL.of h1,h2⟩
  ·cases e
 | _=>cases e
theorem gM (h:RH K m H st)(r:R K m H v x)(e:bb st v=some xs):∃a ys,x=.ref a/\(SqL K H a ys\/SqT K H a ys)/\Rs K m H xs ys:=by
 cases v with
 | tup zs =>cases e;rw[R_tup] at r;obtain⟨a,ys,rfl,h1,h2⟩:=r;exact⟨a,ys,rfl,.inr h1,h2⟩
 | rdl zs =>obtain⟨a,ys,h1,h2,h3⟩:=bX h r e;exact⟨a,ys,h1,.inl h2,h3⟩
 | ref n =>obtain⟨a,ys,h1,h2,h3⟩:=bX h r e;exact⟨a,ys,h1,.inl h2,h3⟩
 | _=>cases e
theorem J4 {E:Value->Shared->Prop}{s:Shared}{ws:List Value}{Q:Value->Shared->Prop}(ht:IsTup s.heap t ([]:List Value).toArray)(hb:IsTup s.heap b ws.toArray)(h:Q (.ref b) s) :
  wpAny (model P w) A (binaryOp .Add (.ref t) (.ref b)) Q E s:=by
 obtain⟨⟨cls,dd,data,sl⟩,ho,hc,n,hd⟩:=id ht;obtain⟨⟨cls2,dd2,data2,sl2⟩,ho2,hc2,n2,hd2⟩:=id hb;simp only at hc hd hc2 hd2;subst hc hd hc2 hd2;exact concat_meets ⟨_,ho,rfl⟩ ⟨_,ho2,rfl⟩ noFill_tuple_add seq_tuple_add NR NO (NL _ _)
  (tuple_addW0 t b ([]:List Value).toArray ws.toArray n n2 dd dd2 sl sl2 rfl) ⟨ho,ho2,h⟩
theorem F8 (op:Operator):OpR X (binaryOp op) (Ao X.K (i_ op)):=by
 intro pins s σ H x' y' v u Q I rx ry h;obtain⟨m,st,x,y,rh,hx,hy,w⟩:=h;cases op with
 | Add =>
  cases x with
  | int i =>
   cases y with
   | int j =>have w:post X.K m H Q (.int (i+j)) st:=w;rw[R_int] at hx hy;subst hx hy;exact GR pins s σ H _ _ v u Q I rx ry ⟨_,_,rfl,rfl,w.here rh (R_int.mpr rfl)⟩
   | _=>exact False.elim w
  | ref n =>
   cases y with
   | ref k =>obtain⟨xs,ys,h1,h2,h3,w⟩:=w;obtain⟨a,xs',rfl,e1,g1,r1⟩:=rh.lst h1 hx;obtain⟨b,ys',rfl,e2,g2,r2⟩:=rh.lst h2 hy;exact Gp pins s σ H _ _ v u Q I rx ry ⟨a,b,xs',ys',rfl,rfl,g1,g2,by rw[<-r1.len,<-r2.len];exact f9 h3,fun p hp=>w.newL rh (r1.app r2) hp⟩
   | _=>exact False.elim w
  | tup xs =>
   cases y with
   | tup ys =>
    obtain⟨h2,w⟩:=w;rw[R_tup] at hx hy;obtain⟨a,xs',rfl,g1,r1⟩:=hx;obtain⟨b,ys',rfl,g2,r2⟩:=hy;by_cases h1:xs'=[]
    ·subst h1;cases rx;cases ry;obtain⟨its1,rv1,p1,_⟩:=I.tuple g1;obtain⟨its2,rv2,p2,_⟩:=I.tuple g2;cases rv1;have e:=r1.len;rw[NP.mp e,List.nil_append] at w;exact J4 p1 p2 ⟨.ref b,H,I,rfl,w.here rh (R_tup.mpr ⟨b,ys',rfl,g2,r2⟩)⟩
    refine DU pins s σ H _ _ v u Q I rx ry ⟨a,b,xs',ys',rfl,rfl,g1,g2,fun z=>?_,by rw[<-r1.len,<-r2.len];exact f9 h2,fun z=>?_,fun z p hp=>w.newT rh (r1.app r2) hp⟩
    ·exact h1 z
    ·subst z;have e:=r2.len;rw[NP.mp e,M8] at w;exact w.here rh (R_tup.mpr ⟨a,xs',rfl,g1,r1⟩)
   | _=>exact False.elim w
  | str a =>
   cases y with
   | str b =>obtain⟨h2,w⟩:=w;rw[R_str] at hx hy;subst hx hy;exact vP pins s σ H _ _ v u Q I rx ry ⟨_,_,rfl,rfl,f9 h2,w.here rh (R_str.mpr rfl)⟩
   | _=>exact False.elim w
  | _=>exact False.elim w
 | Mult =>
  cases x with
  | int i =>
   cases y with
   | int j =>have w:CMB i j/\post X.K m H Q (.int (i*j)) st:=w;rw[R_int] at hx hy;subst hx hy;exact Dv pins s σ H _ _ v u Q I rx ry ⟨_,_,rfl,rfl,w.1,w.2.here rh (R_int.mpr rfl)⟩
   | _=>exact False.elim w
  | _=>exact False.elim w
 | Sub =>obtain⟨i,j,rfl,rfl,w⟩:=bP w;rw[R_int] at hx hy;subst hx hy;exact Gv pins s σ H _ _ v u Q I rx ry ⟨_,_,rfl,rfl,w.here rh (R_int.mpr rfl)⟩
 | FloorDiv =>obtain⟨i,j,rfl,rfl,w⟩:=bP w;rw[R_int] at hx hy;subst hx hy;exact A0 pins s σ H _ _ v u Q I rx ry ⟨_,_,rfl,rfl,w.1,w.2.here rh (R_int.mpr rfl)⟩
 | Mod =>obtain⟨i,j,rfl,rfl,w⟩:=bP w;rw[R_int] at hx hy;subst hx hy;exact Hu pins s σ H _ _ v u Q I rx ry ⟨_,_,rfl,rfl,w.1,w.2.here rh (R_int.mpr rfl)⟩
 | Pow =>obtain⟨i,j,rfl,rfl,w⟩:=bP w;rw[R_int] at hx hy;subst hx hy;exact GZ pins s σ H _ _ v u Q I rx ry ⟨_,_,rfl,rfl,w.1,w.2.here rh (R_int.mpr rfl)⟩
 | _=>exact False.elim w
mutual
theorem R.den:∀ {p:PV}{v:V}{d:PyData},R K m H p v->p.toD=some d->(∃xs,d=.list xs)\/Den K H d v
 | .non,v,d,h,e=>by rw[PV.toD] at e;cases e;rw[R_non] at h;exact .inr (den_non.mpr h)
 | .bl b,v,d,h,e=>by rw[PV.toD] at e;cases e;rw[R_bl] at h;exact .inr (den_bl.mpr h)
 | .int b,v,d,h,e=>by rw[PV.toD] at e;cases e;rw[R_int] at h;exact .inr (den_int.mpr h)
 | .str b,v,d,h,e=>by rw[PV.toD] at e;cases e;rw[R_str] at h;exact .inr (den_str.mpr h)
 | .ref n,v,d,h,e=>by rw[PV.toD] at e;cases e
 | .fn n,v,d,h,e=>by rw[PV.toD] at e;cases e
 | .tup xs,v,d,h,e=>by
  rw[PV.toD] at e;cases q:PV.toDs xs with
  | none=>rw[q] at e;cases e
  | some ds =>rw[q] at e;cases e;rw[R_tup] at h;obtain⟨a,ys,rfl,h1,h2⟩:=h;exact .inr (den_tup.mpr ⟨a,ys,rfl,h1,Rs.den h2 q⟩)
 | .rdl xs,v,d,h,e=>by
  rw[PV.toD] at e;cases q:PV.toDs xs with
  | none=>rw[q] at e;cases e
  | some ds=>rw[q] at e;cases e;exact .inl ⟨_,rfl⟩
theorem Rs.den:∀ {ps:List PV}{vs:List V}{ds:List PyData},Rs K m H ps vs->PV.toDs ps=some ds->Dens K H ds vs
 | [],vs,ds,h,e=>by rw[PV.toDs] at e;cases e;rw[Rs_nil] at h;exact dens_nil.mpr h
 | p::ps,vs,ds,h,e=>by
  rw[Rs_cons] at h;obtain⟨y,r,rfl,h1,h2⟩:=h;rw[PV.toDs] at e;cases q:p.toD with
  | none=>rw[q] at e;cases e
  | some d =>
   cases q2:PV.toDs ps with
   | none=>rw[q,q2] at e;cases e
   | some ds' =>
    rw[q,q2] at e;cases e;refine dens_cons'.mpr ⟨?_,Rs.den h2 q2⟩;cases p with
    | rdl xs =>
     rw[PV.toD] at q;cases q3:PV.toDs xs with
     | none=>rw[q3] at q;cases q
     | some es =>rw[q3] at q;cases q;rw[R_rdl] at h1;obtain⟨a,ys,rfl,g1,g2⟩:=h1;exact den_lst.mpr ⟨a,ys,rfl,g1.sq,Rs.den g2 q3⟩
    | _ =>
     rcases R.den h1 q with⟨xs,rfl⟩|z
     ·first
       | (rw[PV.toD] at q;cases q;done)
       | (rw[PV.toD] at q;simp only[Option.map_eq_some_iff,reduceCtorEq,and_false,exists_false] at q)
     ·exact z
end
theorem dz (rh:RH K m H st)(h:R K m H p v)(e:lC st p=some d):Den K H d v:=by
 cases p with
 | ref n =>
  unfold lC at e;simp only at e;split at e
  ·rename_i xs q;cases q2:PV.toDs xs with
   | none=>rw[q2] at e;cases e
   | some ds =>rw[q2] at e;cases e;obtain⟨a,ys,rfl,_,h1,h2⟩:=rh.lst q h;exact den_lst.mpr ⟨a,ys,rfl,SqL.of h1,h2.den q2⟩
  ·cases e
 | rdl xs =>
  have e':(PV.rdl xs).toD=some d:=e;rw[PV.toD] at e';cases q2:PV.toDs xs with
  | none=>rw[q2] at e';cases e'
  | some ds =>rw[q2] at e';cases e';rw[R_rdl] at h;obtain⟨a,ys,rfl,g1,g2⟩:=h;exact den_lst.mpr ⟨a,ys,rfl,g1.sq,g2.den q2⟩
 | tup xs =>
  have e':(PV.tup xs).toD=some d:=e;rcases R.den h e' with⟨zs,rfl⟩|z
  ·rw[PV.toD] at e';simp at e'
  ·exact z
 | fn b=>have e':(PV.fn b).toD=some d:=e;rw[PV.toD] at e';cases e'
 | non=>have e':(PV.non).toD=some d:=e;rw[PV.toD] at e';cases e';exact den_non.mpr (R_non.mp h)
 | bl b=>have e':(PV.bl b).toD=some d:=e;rw[PV.toD] at e';cases e';exact den_bl.mpr (R_bl.mp h)
 | int b=>have e':(PV.int b).toD=some d:=e;rw[PV.toD] at e';cases e';exact den_int.mpr (R_int.mp h)
 | str b=>have e':(PV.str b).toD=some d:=e;rw[PV.toD] at e';cases e';exact den_str.mpr (R_str.mp h)
theorem JQ:decide (V.int i=V.int j)=decide (i=j):=by simp
theorem HC:decide (V.bl i=V.bl j)=decide (i=j):=by simp
theorem JO:decide (V.str i=V.str j)=decide (i=j):=by simp
theorem xD:∀ {ns:List Int}{ys:List V},Rs K m H (ns.map PV.int) ys->ys=ns.map V.int
 | [],ys,h=>by rw[L6,Rs_nil] at h;exact h
 | n::ns,ys,h=>by
  cases ys with
  | nil=>have:=h.len;simp at this
  | cons y ys =>rw[KO,Rs_cons',R_int] at h;rw[h.1,xD h.2];rfl
theorem qd:∀ {ns:List Int},(ns.map V.int).all iH=true
 | []=>rfl
 | n::ns=>by rw[KO,MD,qd];rfl
theorem xt:∀ {ns:List Int},inV (.int i) (ns.map V.int)=ns.any fun j=>j == i
 | []=>rfl
 | n::ns=>by
  have:=xt (i:=i) (ns:=ns);unfold inV at this |-
  rw[KO,L9,L9,this];rfl
theorem lW:∀ {ns:List Str}{ys:List V},Rs K m H (ns.map PV.str) ys->ys=ns.map V.str
 | [],ys,h=>by rw[L6,Rs_nil] at h;exact h
 | n::ns,ys,h=>by
  cases ys with
  | nil=>have:=h.len;simp at this
  | cons y ys =>rw[KO,Rs_cons',R_str] at h;rw[h.1,lW h.2];rfl
theorem kr:∀ {ns:List Str},(ns.map V.str).all iH=true
 | []=>rfl
 | n::ns=>by rw[KO,MD,kr];rfl
theorem qX:∀ {ns:List Str},inV (.str i) (ns.map V.str)=ns.any fun j=>j == i
 | []=>rfl
 | n::ns=>by
  have:=qX (i:=i) (ns:=ns);unfold inV at this |-
  rw[KO,L9,L9,this];rfl
section
variable {K:W.Frag}{m:List Addr}{H:Hp}
theorem mM:∀ {kvs:List (Key × PV)}{ys:List (Key × V)},ys.map (·.1)=kvs.map (·.1)->Rs K m H (kvs.map (·.2)) (ys.map (·.2)) ->
  (∀v,fD kvs k=some v->∃v',iS ys k=some v'/\R K m H v v')/\(fD kvs k=none->iS ys k=none)
 | [],ys,e,_=>by
  cases ys with
  | nil=>exact⟨fun v z=>(by cases z),fun _=>rfl⟩
  | cons y ys=>cases e
 | p::kvs,ys,e,r=>by
  cases ys with
  | nil=>cases e
  | cons y ys =>
   rw[KO,KO,OE] at e;rw[KO,KO,Rs_cons'] at r;obtain⟨a1,a2⟩:=mM (k:=k) e.2 r.2;by_cases q:p.1=k
   ·have e1:fD (p::kvs) k=some p.2:=by simp[fD,List.find?_cons,q]
    have e2:iS (y::ys) k=some y.2:=jT (by rw[e.1];exact q);rw[e1,e2];exact⟨fun v z=>⟨_,rfl,by cases z;exact r.1⟩,fun z=>by cases z⟩
   ·have e1:fD (p::kvs) k=fD kvs k:=by simp[fD,List.find?_cons,q]
    have e2:iS (y::ys) k=iS ys k:=jH (by rw[e.1];exact q);rw[e1,e2];exact⟨a1,a2⟩
theorem AZ {k:Key}:∀ {kvs:List (Key × PV)}{ys:List (Key × V)},ys.map (·.1)=kvs.map (·.1)->(kvs.any fun kv=>decide (kv.1=k))=ys.any fun kv=>decide (kv.1=k)
 | [],ys,e=>by cases ys with|nil=>rfl|cons y ys=>cases e
 | p::kvs,ys,e=>by
  cases ys with
  | nil=>cases e
  | cons y ys =>rw[KO,KO,OE] at e;rw[L9,L9,AZ e.2,e.1]
theorem CI {k:Key}(rv:R K m H v v'):∀ {kvs:List (Key × PV)}{ys:List (Key × V)},ys.map (·.1)=kvs.map (·.1)->Rs K m H (kvs.map (·.2)) (ys.map (·.2)) ->
  (ys.map fun kv=>if kv.1=k then (kv.1,v') else kv).map (·.1)=(kvs.map fun kv=>if kv.1=k then (kv.1,v) else kv).map (·.1)/\Rs K m H ((kvs.map fun kv=>if kv.1=k then (kv.1,v) else kv).map (·.2)) ((ys.map fun kv=>if kv.1=k then (kv.1,v') else kv).map (·.2))
 | [],ys,e,_=>by cases ys with|nil=>exact⟨rfl,by rw[L6,L6,L6,L6,Rs_nil]⟩|cons y ys=>cases e
 | p::kvs,ys,e,r=>by
  cases ys with
  | nil=>cases e
  | cons y ys =>
   rw[KO,KO,OE] at e;rw[KO,KO,Rs_cons'] at r;obtain⟨a1,a2⟩:=CI (k:=k) rv e.2 r.2;simp only[List.map_cons];rw[Rs_cons',a1];by_cases q:p.1=k
   ·rw[K1 q,K1 (by rw[e.1];exact q)];exact⟨by rw[e.1],rv,a2⟩
   ·rw[KW q,KW (by rw[e.1];exact q)];exact⟨by rw[e.1],r.1,a2⟩
theorem FV (rv:R K m H v v'){kvs:List (Key × PV)}{ys:List (Key × V)}(e:ys.map (·.1)=kvs.map (·.1))(r:Rs K m H (kvs.map (·.2)) (ys.map (·.2))) :
  (ja ys k v').map (·.1)=(ly kvs k v).map (·.1)/\Rs K m H ((ly kvs k v).map (·.2)) ((ja ys k v').map (·.2)):=by
 unfold ja ly;rw[<-AZ (k:=k) e];by_cases q:(kvs.any fun kv=>decide (kv.1=k))=true
 ·rw[K1 q,K1 q];exact CI rv e r
 ·rw[KW q,KW q];simp only[List.map_append,List.map_cons,List.map_nil];exact⟨by rw[e],r.app (.one rv)⟩
end
theorem RH.dkat {n:Nat}(h:RH K m H st)(e:st[n]?=some (.dk kvs))(r:R K m H (.ref n) v):∃a ys,v=.ref a/\m[n]?=some a/\H a=some (.dK ys)/\ys.map (·.1)=kvs.map (·.1)/\Rs K m H (kvs.map (·.2)) (ys.map (·.2)):=by rw[R_ref] at r;obtain⟨a,e1,rfl⟩:=r;obtain⟨ys,h1,h2⟩:=h.at_ n _ a e e1;exact⟨a,ys,rfl,e1,h1,h2⟩
theorem RH.setD {n:Nat}{kvs:List (Key × PV)}{ys:List (Key × V)}(h:RH K m H st)(e:m[n]?=some a)(hz:∀w v,H a≠some (.frz w v))(r1:ys.map (·.1)=kvs.map (·.1))(r2:Rs K m H (kvs.map (·.2)) (ys.map (·.2))):RH K m (upd H a (.dK ys)) (st.set n (.dk kvs)):=by
 have x:Ext K m H m (upd H a (.dK ys)):=Ext.set (ys:=[]) h e hz;refine⟨by simp[h.len],h.nd,fun k c b h1 h2=>?_,x.tb h.tb⟩;by_cases hk:k=n
 ·subst hk;have hl:k<st.length:=by rw[<-h.len];exact(KQ.mp e).1
  rw[KR hl] at h1;rw[e] at h2;cases h1;cases h2;exact⟨ys,aA,r1,r2.mono x⟩
 ·rw[KU (Ne.symm hk)] at h1;have ne:b≠a:=fun z=>hk ((List.getElem?_inj (KQ.mp h2).1 h.nd).mp (by rw[h2,e,z]));exact(h.at_ k c b h1 h2).mono x (ag ne)
theorem RH.dkrd {n:Nat}(h:RH K m H st)(e:st[n]?=some (.dk kvs)\/st[n]?=some (.fz kvs))(r:R K m H (.ref n) v):∃a ys,v=.ref a/\m[n]?=some a/\Rd H a (.dK ys)/\ys.map (·.1)=kvs.map (·.1)/\Rs K m H (kvs.map (·.2)) (ys.map (·.2)):=by
 rw[R_ref] at r;obtain⟨a,e1,rfl⟩:=r;rcases e with e|e
 ·obtain⟨ys,h1,h2⟩:=h.at_ n _ a e e1;exact⟨a,ys,rfl,e1,.inl h1,h2⟩
 ·obtain⟨o,ys,h1,h2⟩:=h.at_ n _ a e e1;exact⟨a,ys,rfl,e1,.inr ⟨o,h1⟩,h2⟩
theorem Bf (hu:X.A.units+64<cLine)(op:CmpOp):OpR X (compareOp op) (Ao X.K (fI op)):=by
 intro pins s σ H x' y' v u Q I rx ry h;obtain⟨m,st,x,y,rh,hx,hy,w⟩:=h;unfold fI at w;cases op with
 | Eq =>
  simp only at w;unfold eqW at w;split at w
  ·rw[R_int] at hx hy;subst hx hy;exact Bq pins s σ H _ _ v u Q I rx ry ⟨rfl,by rw[JQ];exact w.here rh (R_bl.mpr rfl)⟩
  ·rw[R_bl] at hx hy;subst hx hy;exact Bq pins s σ H _ _ v u Q I rx ry ⟨rfl,by rw[HC];exact w.here rh (R_bl.mpr rfl)⟩
  ·rw[R_str] at hx hy;subst hx hy;exact Bq pins s σ H _ _ v u Q I rx ry ⟨rfl,by rw[JO];exact w.here rh (R_bl.mpr rfl)⟩
  ·obtain⟨d,e,h1,h2,h3,h4,w⟩:=w;exact Ga hu pins s σ H _ _ v u Q I rx ry ⟨d,e,dz rh hx h1,dz rh hy h2,h3,h4,w.here rh (R_bl.mpr rfl)⟩
 | NotEq =>
  simp only at w;unfold eqW at w;split at w
  ·rw[R_int] at hx hy;subst hx hy;exact AD pins s σ H _ _ v u Q I rx ry ⟨rfl,by rw[JQ];exact w.here rh (R_bl.mpr rfl)⟩
  ·rw[R_bl] at hx hy;subst hx hy;exact AD pins s σ H _ _ v u Q I rx ry ⟨rfl,by rw[HC];exact w.here rh (R_bl.mpr rfl)⟩
  ·rw[R_str] at hx hy;subst hx hy;exact AD pins s σ H _ _ v u Q I rx ry ⟨rfl,by rw[JO];exact w.here rh (R_bl.mpr rfl)⟩
  ·obtain⟨d,e,h1,h2,h3,h4,w⟩:=w;exact F9 hu pins s σ H _ _ v u Q I rx ry ⟨d,e,dz rh hx h1,dz rh hy h2,h3,h4,w.here rh (R_bl.mpr rfl)⟩
 | Is=>exact False.elim w
 | IsNot=>exact False.elim w
 | Lt =>
  simp only at w;split at w
  ·rw[R_str] at hx hy;subst hx hy;exact xN pins s σ H _ _ v u Q I rx ry ⟨_,_,rfl,rfl,w.here rh (R_bl.mpr rfl)⟩
  ·rw[R_int] at hx hy;subst hx hy;exact JF pins s σ H _ _ v u Q I rx ry ⟨_,_,rfl,rfl,w.here rh (R_bl.mpr rfl)⟩
  ·exact w.elim
 | LtE=>exact False.elim w
 | Gt =>
  simp only at w;split at w
  ·rw[R_int] at hx hy;subst hx hy;exact IY pins s σ H _ _ v u Q I rx ry ⟨_,_,rfl,rfl,w.here rh (R_bl.mpr rfl)⟩
  ·exact w.elim
 | GtE =>
  simp only at w;split at w
  ·rw[R_int] at hx hy;subst hx hy;exact Il pins s σ H _ _ v u Q I rx ry ⟨_,_,rfl,rfl,w.here rh (R_bl.mpr rfl)⟩
  ·exact w.elim
 | In =>
  simp only at w;split at w
  ·rw[R_str] at hx hy;subst hx hy;exact xM pins s σ H _ _ v u Q I rx ry ⟨_,_,rfl,rfl,w.here rh (R_bl.mpr rfl)⟩
  ·rw[R_str] at hx;subst hx;rcases w with⟨ns,e,w⟩|w
   ·obtain⟨a,ys,rfl,_,g,r⟩:=rh.lst e hy;obtain rfl:=lW r;refine yt pins s σ H _ _ v u Q I rx ry ⟨a,_,rfl,.inl (SqL.of g),rfl,kr,?_⟩;rw[KW KI,qX];exact w.here rh (R_bl.mpr rfl)
   ·exact w.elim
  ·exact w.elim
 | NotIn =>
  simp only at w;split at w
  ·rw[R_str] at hx hy;subst hx hy;exact rG pins s σ H _ _ v u Q I rx ry ⟨_,_,rfl,rfl,w.here rh (R_bl.mpr rfl)⟩
  ·rw[R_int] at hx;subst hx;obtain⟨ns,rfl,w⟩:=w;obtain⟨a,ys,rfl,g,r⟩:=R_tup.mp hy;obtain rfl:=xD r;refine jQ pins s σ H _ _ v u Q I rx ry ⟨a,_,rfl,.inr g,rfl,qd,?_⟩;rw[K1 rfl,xt];exact w.here rh (R_bl.mpr rfl)
  ·rw[R_str] at hx;subst hx;rcases w with⟨ns,e,w⟩|w
   ·obtain⟨a,ys,rfl,_,g,r⟩:=rh.lst e hy;obtain rfl:=lW r;refine jQ pins s σ H _ _ v u Q I rx ry ⟨a,_,rfl,.inl (SqL.of g),rfl,kr,?_⟩;rw[K1 rfl,qX];exact w.here rh (R_bl.mpr rfl)
   ·exact w.elim
  ·exact w.elim
theorem IL {E:Value->Shared->Prop}{s:Shared}{id:String}(hl:typeLookup (.type T) "__getitem__"=pure (some (.builtin id)))(hs:subscripted slice false o i=operate [o,i] (getItem o i))(hT:s.TypeIs o T)(h:wpAny (model prog w) A (getItem o i) Q E s) :
  wpAny (model prog w) A (subscriptTail value slice o i) Q E s:=by
 unfold subscriptTail;refine KF ?_;rw[getitemInPython_of_ne hT.not_modules];refine KF (wpAny_specialOf hT hl ?_);have fin:wpAny (model prog w) A (subscripted slice false o i) (fun r s₃=>wpAny (model prog w) A (letTemporaryGo value o r >>= fun _=>pure r) Q E s₃) E s:=by rw[hs];exact wpAny_operating (wpAny_mono h (fun r s₃ h₃=>KF (wpAny_letTemporaryGo (KG h₃))) fun _ _ x=>x)
 first
  | exact KG (KF fin)
  | exact KF (KG (KF fin))
  | exact KF fin
theorem Fe (hu:X.A.units+64<cLine):IxR X (Ao X.K ixW):=by
 intro value slice pins s σ H x' y' v u Q I rx ry h hs;obtain⟨m,st,x,y,rh,hx,hy,w⟩:=h;cases y with
 | int i =>
  rw[R_int] at hy;subst hy;rcases v_ w with⟨z,c,rfl,h1,h2,w⟩|⟨xs,z,h1,h2,w⟩
  ·rw[R_str] at hx;subst hx;exact Hj value slice pins s σ H _ _ v u Q I rx ry ⟨_,_,c,rfl,rfl,f9 h1,h2,w.here rh (R_str.mpr rfl)⟩ hs
  obtain⟨a,ys,rfl,g,r⟩:=gM rh hx h1;obtain⟨y,e,ry'⟩:=r.atI h2;rcases g with g|g
  ·exact D0 value slice pins s σ H _ _ v u Q I rx ry ⟨a,ys,_,y,rfl,rfl,g,e,w.here rh ry'⟩ hs
  ·exact Gy value slice pins s σ H _ _ v u Q I rx ry ⟨a,ys,_,y,rfl,rfl,g,e,w.here rh ry'⟩ hs
 | str z =>
  rw[R_str] at hy;subst hy;obtain⟨n,kvs,p,rfl,e,h2,w⟩:=wY w;obtain⟨a,ys,rfl,_,g,r1,r2⟩:=rh.dkrd e hx;obtain⟨p',e',rp⟩:=(mM r1 r2).1 _ h2;have dg:HL H a (.str z) (some p'):=by rw[<-e'];exact .inl ⟨_,.inr z,g,rfl,rfl⟩
  cases rx;obtain⟨z1,hd,vs,rel,dd⟩:=se I.hok g;exact IL PySem.F.slot_dict_getitem.lookup hs dd.typeIs (y9 (MS (by omega) hu) I dg ry fun w' s3 I3 rw'=>⟨p',H,I3,rw',w.here rh rp⟩)
 | _=>exact w.elim
theorem iB {E:Value->Shared->Prop}{s:Shared}{Q:Value->Shared->Prop}(ht:IsTup s.heap t items)(hs:s.heap.IsSliceOf sl vl vu .none)(pl:IsPart vl lo)(pu:IsPart vu hi)(hw:HT.sIx items.size 0 lo=0/\HT.sIx items.size items.size hi=items.size)(h:Q (.ref t) s):wpAny (model prog w) A (getItem (.ref t) (.ref sl)) Q E s:=by
 obtain⟨os,hos,hcs,hds⟩:=id hs;have hTs:s.TypeIs (.ref sl) "slice":=⟨os,hos,hcs⟩;unfold getItem
 try with_reducible refine LU ?_
 first|refine KF (KG ?_)|skip
 refine KF (wpAny_sequenceKey ht.typeIs (by decide) ?_);refine KF (wpAny_callSpecial?_slot (name:=Str.ofString "__getitem__") ht.typeIs L3
  (wpAny_call_entry L3 ht.typeIs entry_tuple_getitem ?_ (args_tuple_getitem _ _)))
 show wpAny _ _ (Builtin.Tuple.tupleItemsOf (.ref t) >>= _) _ _ s;refine KF (tupleItemsOf_ ht ?_);refine KF (wpAny_typeOf hTs ?_);rw[K1 (by decide)];refine KF (HT.sliceApplied_gen hs pl pu ?_);have hyes:((((HT.sIx items.size 0 lo:Nat):Int) == 0 && (1:Int) == 1 && (HT.sIx items.size items.size hi-HT.sIx items.size 0 lo) == items.size)=true):=by rw[hw.1,hw.2];simp
 show wpAny _ _ (if (((HT.sIx items.size 0 lo:Nat):Int) == 0 && (1:Int) == 1 && (HT.sIx items.size items.size hi-HT.sIx items.size 0 lo) == items.size)=true then _ else _) _ _ s;rw[K1 hyes];unfold Builtin.Tuple.tupleIsExact;refine KF (KF (wpAny_typeOf ht.typeIs (KG ?_)));rw[K1 (by simp)];exact KF (wpAny_rule (KG ⟨_,rfl,KG h⟩))
noncomputable def Hw (K:W.Frag):V->Option Int->Option Int->Hp->VK->Prop:=fun x' lo hi H Q=>∃m st x,RH K m H st/\R K m H x x'/\slW x lo hi st (post K m H Q)
theorem uX {ys:List V}(h:HT.sIx ys.length 0 lo=0/\HT.sIx ys.length ys.length hi=ys.length):oG ys lo hi=ys:=by unfold oG;rw[h.1,h.2,ON,Nat.sub_zero,MF]
theorem xq (h:IsPart v p):∃q:Option (Int × Tok),v=partValue q/\q.map (·.1)=p:=by
 cases h with
 | none=>exact⟨none,rfl,rfl⟩
 | int i t=>exact⟨some (i,t),rfl,rfl⟩
theorem Dq {z:Str}{l u:Option (Int × Tok)}{lo:Option Int}{Q:Value->Shared->Prop}(e:(l.map (·.1),u.map (·.1))=(lo,hi))(h1:z.length<=100000)(h:∀tk t',Q (.str (l7 z lo hi) t') { s with toks:=tk }):(sliceMade z t l u none).post Q s:=by
 cases e;unfold sliceMade;have h:∀tk t',Q (.str (if ((slicePicked z l u none).length == z.length)=true then z else ⟨((slicePicked z l u none).filterMap (z.cps[·]?)).toArray⟩) t') { s with toks:=tk }:=h;cases q:((slicePicked z l u none).length == z.length) with
 | true =>rw[q] at h;exact h s.toks t
 | false =>rw[q] at h;refine⟨?_,h _ _⟩;show ((slicePicked z l u none).filterMap (z.cps[·]?)).toArray.size<=sizeLine;rw[K3];refine K_ (M0 _ _) (K_ ?_ (f9 h1));refine sliceRange_length_le _ _ _ _ (fun _=>?_) fun z=>absurd (show (1:Int) > 0 by decide) z;cases l <;> cases u <;> constructor <;> simp only[Option.map,Option.getD,show (1:Int) > 0 by decide,if_true] <;> first|omega|(split <;> omega)
theorem IW:SlR X (Hw X.K):=by
 intro pins s σ H x' v vl vu lo hi sl Q I rx hs pl pu h;obtain⟨m,st,x,rh,hx,w⟩:=h;unfold slW at w;split at w
 ·rename_i z;rw[R_str] at hx;subst hx;obtain⟨t,rfl⟩:=rx;obtain⟨h1,w⟩:=w;obtain⟨l,el,pl'⟩:=xq pl;obtain⟨u,eu,pu'⟩:=xq pu;subst el eu;refine ⟨"str",_,PyProof.Rows.slot_str_getitem.lookup,typeIs_str _ _ _,?_⟩;refine wpAny_getItem_str_slice (l:=l) (u:=u) (st:=none) hs rfl (Dq ?_ h1 fun tk t'=>⟨.str (l7 z lo hi),H,I.tok tk,⟨t',rfl⟩,w.here rh (R_str.mpr rfl)⟩);rw[pl',pu']
 ·rw[R_tup] at hx;obtain⟨a,ys,rfl,g,r⟩:=hx;by_cases hw:HT.sIx ys.length 0 lo=0/\HT.sIx ys.length ys.length hi=ys.length
  ·cases rx;obtain⟨its,r',ht,hz⟩:=I.tuple g;have hlen:its.toArray.size=ys.length:=by rw[K3];exact r'.length.symm
   refine ⟨"tuple",_,PyProof.Rows.slot_tuple_getitem.lookup,ht.typeIs,iB ht hs pl pu (by rw [hlen];exact hw) ?_⟩;refine⟨.ref a,H,I,rfl,w.here rh (R_tup.mpr ⟨a,ys,rfl,g,?_⟩)⟩;have:=r.cut lo hi;rw[uX hw] at this;exact this
  ·exact FT pins s σ H _ v vl vu lo hi sl Q I rx hs pl pu ⟨a,ys,rfl,g,hw,fun p hp=>w.newT rh (r.cut lo hi) hp⟩
 ·obtain⟨xs,h1,w⟩:=w;obtain⟨a,ys,rfl,g,r⟩:=bX rh hx h1;exact CT pins s σ H _ v vl vu lo hi sl Q I rx hs pl pu ⟨a,ys,rfl,g,fun p hp=>w.newL rh (r.cut lo hi) hp⟩
theorem Rs.one' {x:PV}(h:Rs K m H [x] ys):∃y,ys=[y]/\R K m H x y:=by rw[Rs_cons] at h;obtain⟨y,r,rfl,h1,h2⟩:=h;rw[Rs_nil] at h2;subst h2;exact⟨y,rfl,h1⟩
theorem Rs.two' {x:PV}(h:Rs K m H [x,z] ys):∃y u,ys=[y,u]/\R K m H x y/\R K m H z u:=by rw[Rs_cons] at h;obtain⟨y,r,rfl,h1,h2⟩:=h;obtain⟨u,rfl,h3⟩:=h2.one';exact⟨y,u,rfl,h1,h3⟩
theorem kz:∀ {xs:List PV}{bs:List Bool}{ys:List V}{us:List Value},gq xs=some bs->Rs K m H xs ys->Vals ys us->LSm.BoolsAre us bs
 | [],bs,ys,us,e,h,r=>by rw[Rs_nil] at h;subst h;cases r;cases e;exact .nil
 | x::xs,bs,ys,us,e,h,r=>by
  rw[Rs_cons] at h;obtain⟨y,q,rfl,h1,h2⟩:=h;cases x with
  | bl b =>
   cases r with
   | cons r1 r2 =>
    rw[R_bl] at h1;subst h1;cases r1;unfold gq at e;cases z:gq xs with
    | none=>rw[z] at e;cases e
    | some bs' =>rw[z] at e;cases e;exact .cons b (kz z h2 r2)
  | _=>cases e
theorem yr {vs:List Value}{A:Around}{E:Value->Shared->Prop}{s:Shared}{Q:Value->Shared->Prop}(hh:A.handled=none)(hl:s.heap.IsList l vs.toArray)(hb:LSm.BoolsAre vs bs)(h:∀h' tk,(∀b x,s.heap.get? b=some x->h'.get? b=some x)->Q (.bool (bs.all id)) { s with heap:=h',toks:=tk }):wpAny (model P w) A (call (.builtin "all") [.ref l]) Q E s:=by
 have hlt:l<s.heap.objs.size:=by obtain⟨_,e,_⟩:=hl;exact KS e
 refine call_all_walk (wpAny_pyIter_list hl ?_);refine⟨s.heap.objs.size,[s.heap.objs.size,l],[s.heap.objs.size],vs.toArray.size,_,_,fun i=>(bs[i]?).getD true,rfl,Walks.list (A:=A.in1) hh _ l (K0 hlt) vs.toArray,
  ⟨⟨_,KL _ rfl,rfl,rfl⟩,hl.push _⟩,fun i v s' Q' E' hP hQ=>?_,fun h' tk hk=>?_⟩
 ·obtain⟨b,e,rfl⟩:=hb.get i v (by simpa using hP);simp only[e,Option.getD_some] at hQ;exact wpAny_truthy_bool hQ
 ·have e:((List.range vs.toArray.size).all fun i=>(bs[i]?).getD true)=bs.all id:=by rw[K3,hb.length];exact LSm.range_all bs
  rw[e];exact h h' tk (LSm.kept_iter hk)
theorem yC {vs:List Value}{A:Around}{E:Value->Shared->Prop}{s:Shared}{Q:Value->Shared->Prop}(hh:A.handled=none)(hl:s.heap.IsList l vs.toArray)(hb:LSm.BoolsAre vs bs)(h:∀h' tk,(∀b x,s.heap.get? b=some x->h'.get? b=some x)->Q (.bool (bs.any id)) { s with heap:=h',toks:=tk }):wpAny (model P w) A (call (.builtin "any") [.ref l]) Q E s:=by
 have hlt:l<s.heap.objs.size:=by obtain⟨_,e,_⟩:=hl;exact KS e
 refine call_any_walk (wpAny_pyIter_list hl ?_);refine⟨s.heap.objs.size,[s.heap.objs.size,l],[s.heap.objs.size],vs.toArray.size,_,_,fun i=>(bs[i]?).getD false,rfl,Walks.list (A:=A.in1) hh _ l (K0 hlt) vs.toArray,
  ⟨⟨_,KL _ rfl,rfl,rfl⟩,hl.push _⟩,fun i v s' Q' E' hP hQ=>?_,fun h' tk hk=>?_⟩
 ·obtain⟨b,e,rfl⟩:=hb.get i v (by simpa using hP);simp only[e,Option.getD_some] at hQ;exact wpAny_truthy_bool hQ
 ·have e:((List.range vs.toArray.size).any fun i=>(bs[i]?).getD false)=bs.any id:=by rw[K3,hb.length];exact LSm.range_any bs
  rw[e];exact h h' tk (LSm.kept_iter hk)
noncomputable def HH:B->Value
 | .len=>.builtin "len"
 | .max2=>.builtin "max"
 | .min2=>.builtin "min"
 | .divmod=>.builtin "divmod"
 | .int1=>.type "int"
 | .str1=>.type "str"
 | .tuple1=>.type "tuple"
 | .list1=>.type "list"
 | .all1=>.builtin "all"
 | .any1=>.builtin "any"
 | .abs1=>.builtin "abs"
 | .sorted1=>.builtin "sorted"
 | .repr1=>.builtin "repr"
 | .sortS=>.builtin "sorted"
 | .max1=>.builtin "max"
 | .sortD=>.builtin "sorted"
 | .repr2=>.builtin "repr"
 | .listD=>.type "list"
theorem r9:∀ {ns:List Str}{ys:List V}{us:List Value},Rs K m H (ns.map PV.str) ys->Vals ys us->StrsAre us ns
 | [],ys,us,h,r=>by rw[L6,Rs_nil] at h;subst h;cases r;exact .nil
 | n::ns,ys,us,h,r=>by
  rw[KO] at h;obtain⟨y,ys',rfl,h1,h2⟩:=Rs_cons.mp h;rw[R_str] at h1;subst h1;cases r with
  | cons r1 r2 =>obtain⟨t,rfl⟩:=r1;exact .cons n t (r9 h2 r2)
theorem fA:∀ {us:List Value}{ns:List Str},StrsAre us ns->Vals (ns.map V.str) us
 | _,_,.nil=>.nil
 | _,_,.cons n t r=>.cons ⟨t,rfl⟩ (fA r)
theorem rB:∀ {ns:List Str},Rs K m H (ns.map PV.str) (ns.map V.str)
 | []=>by rw[L6,L6,Rs_nil]
 | n::ns=>by rw[KO,KO,Rs_cons',R_str];exact⟨rfl,rB⟩
theorem rN {σ:L2.St}{its:List Value}{Q:VK}(I:L2.Inv X pins σ H s)(hl:s.heap.IsList p its.toArray)(hi:StrsAre its ns)(hn:ns.length<64)(q:∀ns':List Str,ns'.Perm ns->sortedS ns'=true->∀l,H l=none->Q (.ref l) (upd H l (.lst (ns'.map V.str)))):wpAny (model X.prog X.w) X.A (call (.builtin "sorted") [.ref p]) (EP X pins σ Q) X.xe s:=by
 have hlen:its.length=ns.length:=by have:=(fA hi).length;simpa using this.symm
 refine sorted_strs hl hi (by omega) fun out ns' h1 h2 h3=>?_;obtain⟨e,he⟩:=sortedAll_at s.heap its out;refine⟨.ref (s.heap.objs.size+1),_,I.laid (t':=s.toks) (fun b o=>sortedAll_old) (Nat.le_succ _) (show ObjOk X.prog X.w _ _ _ (.lst (ns'.map V.str)) from ⟨?_,out.toList,e,fA h1,he⟩),rfl,q ns' h2 h3 _ (I.hok.fresh (Nat.le_succ _))⟩;rw[LA,h2.length_eq];exact L0 (cZ (by omega))
theorem q8 {A:Around}{E:Value->Shared->Prop}{s:Shared}{P:Nat->Value->Prop}{R:List Value->Shared->Prop}(K:W.KdlSrc prog w T r d n P OK)(hh:A.handled=none)(hok:OK s.heap)(hn:n<=sizeLine)(h:∀(h':Heap) (tk:Nat) (acc:Array Value),(∀b o,s.heap.get? b=some o->h'.get? b=some o)->s.heap.objs.size<=h'.objs.size->ItemsOf P acc n->R acc.toList { s with heap:=h',toks:=tk }):wpAny (model prog w) A (collect (.ref r)) R E s:=by
 obtain⟨l1,l2⟩:=K.there _ hok;unfold collect;refine KF (wpAny_runValue (codeAny_builtin entry_proto_collect' ?_));rw[Around.under_plainId PySem.F.plain_proto_collect _];show wpAny _ A.in1 (newList [] >>= fun l=>again (.builtin "list.__iadd__" ⟨[l,.ref r],[]⟩)) _ _ s;refine KF (wpAny_newObj_type (KG ⟨plainId_quiet PySem.F.plain_list_iadd _,codeAny_builtin entry_list_iadd' ?_⟩));rw[Around.under_plainId PySem.F.plain_list_iadd _];have new:(s.heap.push { cls:=.type "list",data:=.seq ([]:List Value).toArray }).get? s.heap.objs.size=some { cls:=.type "list",data:=.seq #[] }:=KL _ rfl;show wpAny _ A.in1 (Builtin.List.listExtendWith (.ref s.heap.objs.size) (.ref r) (.ref s.heap.objs.size)) _ _ _;have main:=W.kdl_extend (A:=A) (s:={ s with heap:=s.heap.push { cls:=.type "list",data:=.seq ([]:List Value).toArray } })
  (R:=fun (q:Result) (s':Shared)=>∃(h':Heap) (tk:Nat) (zs:Array Value) (c:Nat),q=.ok (.ret (.ref s.heap.objs.size))/\s'={ s with heap:=h',toks:=tk }/\(∀b o,s.heap.get? b=some o->h'.get? b=some o)/\h'.get? s.heap.objs.size=some { cls:=.type "list",dict:=none,data:=.seq zs c,slots:=#[] }/\ItemsOf P zs n)
  K hh (K.keep _ _ hok fun b _ o e=>KH _ e) s.heap.objs.size (ME l1) (ME l2) (.ref s.heap.objs.size) 0 new
  (fun h' tk zs c hk hS hz=>⟨h',tk,zs,c,rfl,rfl,fun b o e=>hk b o (K0 (KS e)) (KH _ e),hS,hz⟩) hn
 refine wpAny_mono main (fun fin s' x=>?_) fun e s' x=>?_
 ·cases fin with
  | done f =>obtain⟨h',tk,zs,c,e,rfl,hk,hS,hz⟩:=x;cases e;show wpAny _ A (load s.heap.objs.size >>= _) _ _ _;exact KF (wpAny_load hS (KG (h h' tk zs hk (L0 (KS hS)) hz)))
  | again c₁ =>refine⟨x.1,codeAny_mono x.2 fun q s₂ y=>?_⟩;obtain⟨h',tk,zs,c,rfl,rfl,hk,hS,hz⟩:=y;show wpAny _ A (load s.heap.objs.size >>= _) _ _ _;exact KF (wpAny_load hS (KG (h h' tk zs hk (L0 (KS hS)) hz)))
 ·obtain⟨_,_,_,_,e',_⟩:=x;cases e'
theorem nu {P:Program}{w:World}:∀ {ss:List Str}{vs:List Value},vs.length=ss.length->(∀(j:Nat) v,vs[j]?=some v->∃x,ss[j]?=some x/\∃t,v=.str x t)->StrsAre vs ss
 | [],vs,hl,h=>by
  cases vs with
  | nil=>exact .nil
  | cons _ _=>simp at hl
 | s::ss,vs,hl,h=>by
  cases vs with
  | nil=>simp at hl
  | cons v vs =>obtain⟨x,e,t,rfl⟩:=h 0 v rfl;simp at e;subst e;exact .cons _ t (nu (P:=P) (w:=w) (by simpa using hl) fun j u hu=>by simpa using h (j+1) u (by simpa using hu))
theorem qr {σ:L2.St}{ss:List Str}{Q:VK}(hcalm:X.calm=true)(I:L2.Inv X pins σ H s)(g:Rd H a (.dK ys))(hk:ys.map (·.1)=ss.map Sum.inr)(hn:ss.length<64)(q:∀ss':List Str,ss'.Perm ss->sortedS ss'=true->∀l,H l=none->Q (.ref l) (upd H l (.lst (ss'.map V.str)))):wpAny (model X.prog X.w) X.A (call (.builtin "sorted") [.ref a]) (EP X pins σ Q) X.xe s:=by
 obtain⟨z,lo,vs,rel,dd⟩:=se I.hok g;obtain⟨ep,hat⟩:=dd.dictAt;have hv:vs.length=ss.length:=by rw[<-rel.length];simpa using LP List.length hk
 have kk:vs.map (·.1)=ss.map Sum.inr:=by rw[<-rel.keys];exact hk
 refine Calls.call_function_entry kind_sorted plain_sorted entry_sorted (args_sorted1 _) ?_;unfold Builtin.«sorted»;refine KF (m:=checkCount "sorted" 1 1 _) (KG ?_);refine KF (q8 (A:=X.A.in1) (W.kdl_dict (knd:=aF X.prog X.w) (kvs:=vs) (ep:=ep) lo) (I.ok.hd hcalm) hat (L0 (cZ (by omega))) fun h1 tk acc k1 z1 hacc=>?_);have hl:acc.toList.length=ss.length:=by rw[LI,hacc.1,hv]
 have hS:StrsAre acc.toList ss:=nu (P:=X.prog) (w:=X.w) hl fun j v e=>by
  obtain⟨k,x,hx,hkk⟩:=hacc.2 j v (by rw[<-NB];exact e);have e2:(vs.map (·.1))[j]?=some k:=by rw[K2,hx];rfl
  rw[kk,K2] at e2;obtain⟨x',h3,rfl⟩:=LR.mp e2;obtain⟨t,rfl⟩:=M1 (show Value.isStrOf x' v=true from hkk);exact⟨x',h3,t,rfl⟩
 refine KF (wpAny_newList ?_ (by rw[hl];exact L0 (cZ (by omega))));have hoL:(h1.push (seqObj "list" acc.toList.toArray 0)).get? h1.objs.size=some (seqObj "list" acc.toList.toArray 0):=KL _ rfl;refine KF (LU (wpAny_call_entry slot_list_sort ⟨_,hoL,rfl⟩ entry_list_sort (list_sort_treeK strKind_oneLt hoL hS.keysOf (fun v₁ v₂ rest e=>keyKind_strs (by rw[<-e];exact hS)) (by rw[hl];exact hn) fun st' hp hs=>⟨_,rfl,?_⟩) (args_list_sort _)));obtain⟨ss',a1,a2,a3⟩:=sorted_out_str hS hp hs;refine KG ⟨_,rfl,?_⟩;obtain⟨e,he⟩:=sortedHeap_at (out:=(arrOf st').map (·.2)) hoL;refine⟨.ref h1.objs.size,_,I.laid (t':=tk) (fun b o eb=>?_) z1 (show ObjOk X.prog X.w _ _ _ (.lst (ss'.map V.str)) from ⟨?_,_,e,fA a1,he⟩),rfl,q ss' a2 a3 _ (I.hok.fresh z1)⟩
 ·have lb:b<h1.objs.size:=KZ (KS eb) z1;rw[sortedHeap_old (K0 lb) (by rw[size_push'];exact L_ lb)];exact KH _ (k1 b o eb)
 ·rw[LA,a2.length_eq];exact L0 (cZ (by omega))
section
variable {prog:Program}{w:World}{A:Around}{E:Value->Shared->Prop}{s:Shared}{l:Addr}{xs:Array (Int × Tok)}
end
theorem pU {α:Type}{o:Option α}{r:List (Option α)}{ds:List α}(h:dw (o::r)=some ds):∃d es,o=some d/\dw r=some es/\ds=d::es:=by
 cases o with
 | none=>cases h
 | some x =>
  cases q:dw r with
  | none=>rw[dw,q] at h;cases h
  | some es=>rw[dw,q] at h;cases h;exact⟨x,es,rfl,rfl,rfl⟩
theorem jo {α:Type}:∀ {l:List (Option α)}{ds:List α},dw l=some ds->ds.length=l.length
 | [],ds,e=>by cases e;rfl
 | o::r,ds,e=>by obtain⟨d,es,_,e2,rfl⟩:=pU e;rw[LZ,LZ,jo e2]
theorem A7 {us:List (Key × V)}{vs:List (Key × Value)}(h:KV us vs):us.map (·.1)=vs.map (·.1)/\Vals (us.map (·.2)) (vs.map (·.2))/\us.length=vs.length:=by
 unfold KV at h
 induction h with
 | nil=>exact⟨rfl,.nil,rfl⟩
 | cons f t ih=>exact⟨by rw[KO,KO,f.1,ih.1],.cons f.2 ih.2.1,by rw[LZ,LZ,ih.2.2]⟩
theorem s_ (hp:Pairs (aF P w) es vs):ReadsAll h (es.map (·.key)) ((vs.map (·.1)).map kD) []/\es.map (·.val)=vs.map (·.2):=by
 induction hp with
 | nil=>exact⟨.nil,rfl⟩
 | cons a b _ ih =>
  refine⟨?_,by rw[KO,KO,ih.2,b]⟩;rcases aP a with⟨i,t,e1,e2⟩|⟨x,t,e1,e2⟩
  ·rw[KO,KO,KO,e1,e2];exact .cons (as:=[]) (.int i t) ih.1
  ·rw[KO,KO,KO,e1,e2];exact .cons (as:=[]) (.str x t) ih.1
theorem ic {f:PV->Option PyData}:∀ {ps:List PV}{vs:List V}{us:List Value}{ds:List PyData},(∀p v u d,R K m H p v->RelV v u->f p=some d->∃as,Reads h u d as/\sysModules ∉ as) ->
  Rs K m H ps vs->Vals vs us->dw (ps.map f)=some ds->∃as,ReadsAll h us ds as/\sysModules ∉ as
 | [],vs,us,ds,_,r,rv,e=>by rw[Rs_nil] at r;subst r;cases rv;cases e;exact⟨_,.nil,fun z=>(nomatch z)⟩
 | p::ps,vs,us,ds,hf,r,rv,e=>by
  rw[Rs_cons] at r;obtain⟨y,q,rfl,r1,r2⟩:=r;obtain⟨d,es,e1,e2,rfl⟩:=pU e;cases rv with
  | cons v1 v2 =>obtain⟨as,k1,k2⟩:=hf p y _ d r1 v1 e1;obtain⟨bs,j1,j2⟩:=ic hf r2 v2 e2;exact⟨_,.cons k1 j1,fun hm=>(LC.mp hm).elim k2 j2⟩
theorem dZ {σ:L2.St}(I:L2.Inv X pins σ H s)(rh:RH X.K m H st):∀(n:Nat) (p:PV) (v:V) (u:Value) (d:PyData),R X.K m H p v->RelV v u->shX st n p=some d ->
  ∃as,Reads s.heap u d as/\sysModules ∉ as
 | n,.non,v,u,d,r,rv,e=>by
  have e:some PyData.none=some d:=by cases n <;> exact e
  cases e;rw[R_non] at r;subst r;cases rv;exact⟨_,.none,fun z=>(nomatch z)⟩
 | n,.bl c,v,u,d,r,rv,e=>by
  have e:some (PyData.bool c)=some d:=by cases n <;> exact e
  cases e;rw[R_bl] at r;subst r;cases rv;exact⟨_,.bool c,fun z=>(nomatch z)⟩
 | n,.int c,v,u,d,r,rv,e=>by
  have e:some (PyData.int c)=some d:=by cases n <;> exact e
  cases e;rw[R_int] at r;subst r;obtain⟨t,rfl⟩:=rv;exact⟨_,.int c t,fun z=>(nomatch z)⟩
 | n,.str c,v,u,d,r,rv,e=>by
  have e:some (PyData.str c)=some d:=by cases n <;> exact e
  cases e;rw[R_str] at r;subst r;obtain⟨t,rfl⟩:=rv;exact⟨_,.str c t,fun z=>(nomatch z)⟩
 | n,.rdl c,v,u,d,r,rv,e=>by
  have e:none=some d:=by cases n <;> exact e
  cases e
 | n,.fn c,v,u,d,r,rv,e=>by
  have e:none=some d:=by cases n <;> exact e
  cases e
 | 0,.tup c,v,u,d,r,rv,e=>by cases e
 | 0,.ref c,v,u,d,r,rv,e=>by cases e
 | n+1,.tup xs,v,u,d,r,rv,e=>by have e:(dw (xs.map (shX st n))).map PyData.tuple=some d:=e;obtain⟨ds,e1,rfl⟩:=LR.mp e;rw[R_tup] at r;obtain⟨a,ys,rfl,g,r⟩:=r;cases rv;obtain⟨its,rv,⟨o,ho,hc,k,hd⟩,_⟩:=I.tuple g;obtain⟨as,q1,q2⟩:=ic (dZ I rh n) r rv e1;exact⟨as,.tuple ho hc hd (by simpa using q1),q2⟩
 | n+1,.ref k,v,u,d,r,rv,e=>by
  have e:(match st[k]? with
   | some (.lst xs)=>(dw (xs.map (shX st n))).map .list
   | some (.dk kvs)=>(dw (kvs.map fun kv=>shX st n kv.2)).map fun ds=>.dict ((kvs.map fun kv=>kD kv.1).zip ds)
   | some (.od kvs)=>match dw (kvs.map fun kv=>shX st n kv.1) with
    | some es=>(dw (kvs.map fun kv=>shX st n kv.2)).map fun ds=>.dict (es.zip ds)
    | none=>none
   | some (.fz _)=>none
   | none=>none)=some d:=e
  rw[R_ref] at r;obtain⟨a,ea,rfl⟩:=r;cases rv;cases q:st[k]? with
  | none=>rw[q] at e;cases e
  | some c =>
   rw[q] at e;have hc:=rh.at_ k c a q ea;cases c with
   | lst xs =>
    have e:(dw (xs.map (shX st n))).map PyData.list=some d:=e;obtain⟨ds,e1,rfl⟩:=LR.mp e;obtain⟨ys,g,r3⟩:=hc;obtain⟨its,rv,p,_⟩:=I.list (SqL.of g);obtain⟨o,ho,hc,j,hd⟩:=p.isList;obtain⟨as,q1,q2⟩:=ic (dZ I rh n) r3 rv e1;obtain⟨so,hs⟩:=rh.tb.2;refine⟨_,.list ho hc hd (by simpa using q1),fun hm=>?_⟩;rcases K8.mp hm with hm|hm
    ·rw[<-hm,hs] at g;cases g
    ·exact q2 hm
   | dk kvs =>
    have e:(dw (kvs.map fun kv=>shX st n kv.2)).map (fun ds=>PyData.dict ((kvs.map fun kv=>kD kv.1).zip ds))=some d:=e;obtain⟨ds,e1,rfl⟩:=LR.mp e;obtain⟨us,g1,g2,g3⟩:=hc;obtain⟨_,ns,vs,kv,o,es,ep,ho,hx,hd,_,hp,_⟩:=I.hok a _ g1;obtain⟨v1,v2,v3⟩:=A7 kv;obtain⟨p1,p2⟩:=s_ hp;rw[show (kvs.map fun kv=>shX st n kv.2)=(kvs.map (·.2)).map (shX st n) by rw[MA];rfl] at e1;obtain⟨as,q1,q2⟩:=ic (dZ I rh n) g3 v2 e1;have hl:ds.length=kvs.length:=by have:=jo e1;simpa using this
    rw[<-p2] at q1;rw[v1.symm.trans g2] at p1;have hz1:((kvs.map fun kv=>kD kv.1).zip ds).map (·.1)=(kvs.map (·.1)).map kD:=by rw[List.map_fst_zip (by simp[hl]),MA];rfl
    have hz2:((kvs.map fun kv=>kD kv.1).zip ds).map (·.2)=ds:=List.map_snd_zip (by simp[hl]);refine⟨_,.dict (kvs:=(kvs.map fun kv=>kD kv.1).zip ds) (as:=[]) (bs:=as) ho hx.1 hd (by rw[hz1];exact p1) (by rw[hz2];exact q1),fun hm=>?_⟩;rcases K8.mp hm with hm|hm
    ·rw[<-hm] at ns;simp at ns
    ·exact q2 hm
   | fz kvs=>cases e
   | od kvs =>
    obtain⟨o,ks,vs,g1,⟨ns,hx,es,ep,hd,w1,w2⟩,g3,g4⟩:=hc;obtain⟨ho,_⟩:=I.hok a _ g1;have e:(match dw (kvs.map fun kv=>shX st n kv.1) with
     | some es=>(dw (kvs.map fun kv=>shX st n kv.2)).map fun ds=>PyData.dict (es.zip ds)
     | none=>none)=some d:=e
    cases q1:dw (kvs.map fun kv=>shX st n kv.1) with
    | none=>rw[q1] at e;cases e
    | some ks' =>
     rw[q1] at e;have e:(dw (kvs.map fun kv=>shX st n kv.2)).map (fun ds=>PyData.dict (ks'.zip ds))=some d:=e;obtain⟨ds,e1,rfl⟩:=LR.mp e;rw[show (kvs.map fun kv=>shX st n kv.2)=(kvs.map (·.2)).map (shX st n) by rw[MA];rfl] at e1;rw[show (kvs.map fun kv=>shX st n kv.1)=(kvs.map (·.1)).map (shX st n) by rw[MA];rfl] at q1;obtain⟨as,b1,b2⟩:=ic (dZ I rh n) g3 w1 q1;obtain⟨bs,c1,c2⟩:=ic (dZ I rh n) g4 w2 e1;have l1:ks'.length=kvs.length:=by simpa using jo q1
     have l2:ds.length=kvs.length:=by simpa using jo e1
     have hz1:(ks'.zip ds).map (·.1)=ks':=List.map_fst_zip (by omega);have hz2:(ks'.zip ds).map (·.2)=ds:=List.map_snd_zip (by omega);refine⟨_,.dict (kvs:=ks'.zip ds) (as:=as) (bs:=bs) ho hx.1 hd (by rw[hz1];exact b1) (by rw[hz2];exact c1),fun hm=>?_⟩;rcases K8.mp hm with hm|hm
     ·rw[<-hm] at ns;simp at ns
     ·exact(LC.mp hm).elim b2 c2
theorem vX:∀ {kvs:List (Key × PV)},Rs K m H (kvs.map fun p=>kP p.1) (kvs.map fun p=>kV p.1)
 | []=>by rw[L6,L6,Rs_nil]
 | p::r=>by
  rw[KO,KO,Rs_cons'];refine⟨?_,vX⟩;cases p.1 with
  | inl i=>exact R_int.mpr rfl
  | inr x=>exact R_str.mpr rfl
theorem wH:∀ {vs:List V}{us:List Value},us.length=vs.length->(∀(j:Nat) u,us[j]?=some u->∃v,vs[j]?=some v/\L2.RelV v u)->Vals vs us
 | [],[],_,_=>.nil
 | [],_::_,h,_=>by simp at h
 | _::_,[],h,_=>by simp at h
 | v::vs,u::us,h,k=>by
  obtain⟨v',e,r⟩:=k 0 u rfl;have:v=v':=by simpa using e
  subst this;exact .cons r (wH (by simpa using h) fun j u' e'=>by simpa using k (j+1) u' (by simpa using e'))
theorem zj {α β:Type}{F:α->β->Prop}:∀ {l:List α}{r:List β}{j:Nat}{a:α}{b:β},Paired F l r->l[j]?=some a->r[j]?=some b->F a b
 | _,_,j,a,b,.nil,e,_=>by simp at e
 | _,_,0,a,b,.cons f t,e,e2=>by simp at e e2;subst e e2;exact f
 | _,_,j+1,a,b,.cons f t,e,e2=>zj t (by simpa using e) (by simpa using e2)
theorem GY (hc:X.calm=true)(hgd:X.A.guards=some [])(hun:X.A.units+64<cLine)(b:B):dj X (HH b) (Js X.K (cP b)):=by
 intro pins s σ H xs' us Q I r h;obtain⟨m,st,xs,rh,hx,w⟩:=h;cases b with
 | len =>
  obtain⟨x0,rfl,w⟩:=aI w;obtain⟨y,rfl,hy⟩:=hx.one';rcases tF w with⟨z,rfl,h1,w⟩|⟨ys,h1,w⟩
  ·rw[R_str] at hy;subst hy;exact rq pins s σ H _ us Q I r ⟨_,rfl,f9 h1,w.here rh (R_int.mpr rfl)⟩
  obtain⟨a,zs,rfl,g,rz⟩:=gM rh hy h1;refine rm pins s σ H _ us Q I r ⟨a,zs,rfl,g,?_⟩;have:=w.here rh (x:=V.int ys.length) (R_int.mpr rfl);rw[rz.len] at this;exact this
 | max2 =>obtain⟨x0,y0,rfl,w⟩:=dy w;obtain⟨i,j,rfl,rfl,w⟩:=bP w;obtain⟨y,u,rfl,hy,hu⟩:=hx.two';rw[R_int] at hy hu;subst hy hu;exact yo hc pins s σ H _ us Q I r ⟨_,_,rfl,w.here rh (R_int.mpr rfl)⟩
 | min2 =>obtain⟨x0,y0,rfl,w⟩:=dy w;obtain⟨i,j,rfl,rfl,w⟩:=bP w;obtain⟨y,u,rfl,hy,hu⟩:=hx.two';rw[R_int] at hy hu;subst hy hu;exact xR hc pins s σ H _ us Q I r ⟨_,_,rfl,w.here rh (R_int.mpr rfl)⟩
 | divmod =>obtain⟨x0,y0,rfl,w⟩:=dy w;obtain⟨i,j,rfl,rfl,w⟩:=bP w;obtain⟨y,u,rfl,hy,hu⟩:=hx.two';rw[R_int] at hy hu;subst hy hu;refine qh pins s σ H _ us Q I r ⟨_,_,rfl,w.1,fun p hp=>w.2.newT rh ?_ hp⟩;rw[Rs_cons',Rs_cons',Rs_nil,R_int,R_int];exact⟨rfl,rfl,rfl⟩
 | int1 =>obtain⟨x0,rfl,w⟩:=aI w;obtain⟨y,rfl,hy⟩:=hx.one';obtain⟨b0,rfl,w⟩:=qa w;rw[R_bl] at hy;subst hy;exact yR pins s σ H _ us Q I r (.inr ⟨_,rfl,w.here rh (R_int.mpr rfl)⟩)
 | str1=>exact False.elim w
 | tuple1 =>
  obtain⟨x0,rfl,w⟩:=aI w;obtain⟨ys,h1,w⟩:=w;obtain⟨y,rfl,hy⟩:=hx.one';obtain⟨a,zs,rfl,g,rz⟩:=gM rh hy h1;refine nU pins s σ H _ us Q I r ⟨a,zs,rfl,?_⟩;rcases g with g|g
  ·exact .inl ⟨g,fun p hp=>w.newT rh rz hp⟩
  ·exact .inr ⟨g,w.here rh (R_tup.mpr ⟨a,zs,rfl,g,rz⟩)⟩
 | list1 =>obtain⟨x0,rfl,w⟩:=aI w;obtain⟨ys,h1,w⟩:=w;obtain⟨y,rfl,hy⟩:=hx.one';obtain⟨a,zs,rfl,g,rz⟩:=gM rh hy h1;exact rn pins s σ H _ us Q I r ⟨a,zs,rfl,g,fun p hp=>w.newL rh rz hp⟩
 | all1 =>obtain⟨x0,rfl,w⟩:=aI w;obtain⟨ys,bs,h1,h2,w⟩:=w;obtain⟨y,rfl,hy⟩:=hx.one';obtain⟨a,zs,rfl,g,rz⟩:=bX rh hy h1;obtain⟨u,rfl,ru⟩:=cR r;cases ru;obtain⟨its,ri,pl,_⟩:=I.list g;exact yr (I.ok.hd hc) pl.isList (kz h2 rz ri) fun h' tk k=>⟨.bl _,H,I.kept k,rfl,w.here rh (R_bl.mpr rfl)⟩
 | any1 =>obtain⟨x0,rfl,w⟩:=aI w;obtain⟨ys,bs,h1,h2,w⟩:=w;obtain⟨y,rfl,hy⟩:=hx.one';obtain⟨a,zs,rfl,g,rz⟩:=bX rh hy h1;obtain⟨u,rfl,ru⟩:=cR r;cases ru;obtain⟨its,ri,pl,_⟩:=I.list g;exact yC (I.ok.hd hc) pl.isList (kz h2 rz ri) fun h' tk k=>⟨.bl _,H,I.kept k,rfl,w.here rh (R_bl.mpr rfl)⟩
 | abs1=>exact False.elim w
 | sorted1=>exact False.elim w
 | sortS =>obtain⟨x0,rfl,w⟩:=aI w;obtain⟨ss,h1,h2,w⟩:=w;obtain⟨y,rfl,hy⟩:=hx.one';obtain⟨a,zs,rfl,g,rz⟩:=bX rh hy h1;obtain⟨u,rfl,ru⟩:=cR r;cases ru;obtain⟨its,ri,pl,_⟩:=I.list g;exact rN I pl.isList (r9 rz ri) h2 fun ss' p1 p2 l hl=>(w ss' p1 p2).newL rh rB hl
 | sortD =>obtain⟨x0,rfl,n,rfl,kvs,h1,ss,h2,h3,w⟩:=aI w;obtain⟨y,rfl,hy⟩:=hx.one';obtain⟨a,ys,rfl,_,g,r1,r2⟩:=rh.dkrd h1 hy;obtain⟨u,rfl,ru⟩:=cR r;cases ru;exact qr hc I g (r1.trans h2) h3 fun ss' p1 p2 l hl=>(w ss' p1 p2).newL rh rB hl
 | max1=>exact False.elim w
 | repr1=>exact False.elim w
 | repr2 =>
  obtain⟨x0,rfl,w⟩:=aI w;obtain⟨y,rfl,hy⟩:=hx.one';obtain⟨u,rfl,ru⟩:=cR r;have big:(∃n,y=.ref n)->(∃d,shX st 9 x0=some d/\(d.showable=true/\d.depth<=60/\d.shown.length<=sizeLine)/\post X.K m H Q (.str d.shown) st)->wpAny (model X.prog X.w) X.A (call (.builtin "repr") [u]) (EP X pins σ Q) X.xe s:=by rintro⟨a,rfl⟩ ⟨d,h1,⟨h2,h4,h5⟩,w⟩;obtain⟨as,ra,q1⟩:=dZ I rh 9 x0 _ u d hy ru h1;cases ru;refine repr_of_reads' ra h2 (fun _=>q1) hgd (by omega) (fun _ _ e=>e) (fun h' t tk k=>⟨.str _,H,I.kept k,⟨t,rfl⟩,w.here rh (R_str.mpr rfl)⟩) h5
  cases x0 with
  | non=>rw [R_non] at hy;subst hy;cases ru;exact P.repr_of_none ⟨.str _,H,I.tok _,⟨_,rfl⟩,(show post X.K m H Q (.str "None") st from w).here rh (R_str.mpr rfl)⟩
  | bl b=>rw [R_bl] at hy;subst hy;cases ru;exact P.repr_of_bool ⟨.str (if b then "True" else "False"),H,I.tok _,⟨_,rfl⟩,(show post X.K m H Q (.str (if b then "True" else "False")) st from w).here rh (R_str.mpr rfl)⟩
  | int i=>rw[R_int] at hy;subst hy;obtain⟨t,rfl⟩:=ru;exact P.repr_of_int w.1 ⟨.str _,H,I.tok _,⟨_,rfl⟩,w.2.here rh (R_str.mpr rfl)⟩
  | str i=>rw[R_str] at hy;subst hy;obtain⟨t,rfl⟩:=ru;exact P.repr_of_str ⟨.str _,H,I.tok _,⟨_,rfl⟩,w.2.here rh (R_str.mpr rfl)⟩ w.1
  | tup xs=>exact big (by rw[R_tup] at hy;obtain⟨a,_,rfl,_⟩:=hy;exact⟨a,rfl⟩) w
  | ref n=>exact big (by rw[R_ref] at hy;obtain⟨a,_,rfl⟩:=hy;exact⟨a,rfl⟩) w
  | rdl xs=>obtain⟨d,h1,_⟩:=w;cases h1
  | fn n=>obtain⟨d,h1,_⟩:=w;cases h1
 | listD =>
  obtain⟨x0,rfl,n,rfl,kvs,h1,hl,w⟩:=aI w;obtain⟨y,rfl,hy⟩:=hx.one';obtain⟨u,rfl,ru⟩:=cR r;obtain⟨a,ys,rfl,ea,g,g2,g3⟩:=rh.dkat h1 hy;cases ru;obtain⟨_,lo,vs,rel,dd⟩:=gu I.hok g;obtain⟨ep,hat⟩:=dd.dictAt;have l1:ys.length=kvs.length:=by simpa using LP List.length g2
  have l2:vs.length=kvs.length:=by rw[<-rel.length];exact l1
  refine W.kdl_call (W.kdl_dict (knd:=aF X.prog X.w) (kvs:=vs) (ep:=ep) lo) (I.ok.hd hc) hat (L0 (cZ (by omega))) fun h' tk acc c' k1 hn hacc=>?_;have la:acc.size=kvs.length:=by rw[hacc.1,l2]
  have hv:Vals (kvs.map fun p=>kV p.1) acc.toList:=wH (by simp[la]) fun j v hv=>by
   obtain⟨k,x,hx,hkk⟩:=hacc.2 j v (by rw[<-NB];exact hv);have e2:(vs.map (·.1))[j]?=some k:=by rw[K2,hx];rfl
   rw[<-rel.keys,g2,K2] at e2;obtain⟨p,hp,rfl⟩:=LR.mp e2;refine⟨kV p.1,by rw[K2,hp];rfl,?_⟩;rcases aP hkk with⟨i,t,e3,rfl⟩|⟨x,t,e3,rfl⟩
   ·rw[e3];exact⟨t,rfl⟩
   ·rw[e3];exact⟨t,rfl⟩
  refine⟨.ref s.heap.objs.size,_,I.laid (t':=tk) (fun b o e=>k1 b o e) (KJ _) (show ObjOk X.prog X.w _ _ _ (.lst (kvs.map fun p=>kV p.1)) from ⟨by rw[LA];exact L0 (cZ (by omega)),acc.toList,c',hv,by simpa using hn⟩),rfl,?_⟩;have hp:=I.hok.fresh (KJ s.heap.objs.size);exact w _ _ _ (Ext.new1 rh hp) (rh.newL hp vX) (R.last rh.len)
theorem yA (h:bc st x=some n):n∈["NoneType","bool","int","str","list","tuple","dict"]:=by
 cases x with
 | ref k =>unfold bc at h;simp only at h;split at h <;> cases h <;> decide
 | _=>cases h <;> decide
theorem DV {σ:L2.St}{E:Value->Shared->Prop}{K:W.Frag}{c:String}{Q:Value->Shared->Prop}(I:Inv X pins σ H s)(rh:RH X.K m H st)(hx:R X.K m H x x')(ru:RelV x' u)(hk:bc st x=some n)(hc:c∈["int","bool","str","tuple","list","dict"])(h:∀tk,Q (.bool (aH c n)) { s with toks:=tk }) :
  wpAny (model X.prog X.w) A (call (.builtin "isinstance") [u,.type c]) Q E s:=by
 have e:=B6 X.K c hc n (yA hk);cases x with
 | non=>cases hk;rw[R_non] at hx;subst hx;exact dX I ru .non e h
 | bl b=>cases hk;rw[R_bl] at hx;subst hx;exact dX I ru (.bl b) e h
 | fn b=>cases hk
 | int b=>cases hk;rw[R_int] at hx;subst hx;exact dX I ru (.int b) e h
 | str b=>cases hk;rw[R_str] at hx;subst hx;exact dX I ru (.str b) e h
 | tup xs =>cases hk;rw[R_tup] at hx;obtain⟨a,ys,rfl,g,r⟩:=hx;cases ru;obtain⟨its,_,⟨o,ho,hcl,_⟩,_⟩:=I.tuple g;exact MN W.kitx_tuple I.kIn ⟨o,ho,hcl⟩ e (fun z=>nomatch z) h
 | rdl xs =>cases hk;rw[R_rdl] at hx;obtain⟨a,ys,rfl,g,r⟩:=hx;cases ru;obtain⟨its,_,pl,_⟩:=I.list g.sq;obtain⟨o,ho,hcl,_⟩:=pl.isList;exact MN OV I.kIn ⟨o,ho,hcl⟩ e (fun z=>nomatch z) h
 | ref k =>
  unfold bc at hk;simp only at hk;split at hk
  ·cases hk;rename_i q;obtain⟨a,ys,rfl,_,h1,h2⟩:=rh.lst q hx;exact dX I ru (.lst h1) e h
  ·cases hk;rename_i kvs q;rw[R_ref] at hx;obtain⟨a,e1,rfl⟩:=hx;obtain⟨ys,h1,_⟩:=rh.at_ k _ a q e1;exact dX I ru (.dK h1) e h
  ·cases hk;rename_i kvs q;rw[R_ref] at hx;obtain⟨a,e1,rfl⟩:=hx;obtain⟨o,ys,h1,_⟩:=rh.at_ k _ a q e1;cases ru;obtain⟨ho,_,_,vs,_,o',_,_,ho',hcl,_⟩:=I.hok a _ h1;exact MN OJ I.kIn ⟨o',ho',hcl.1⟩ e (fun z=>nomatch z) h
  ·cases hk;rename_i kvs q;rw[R_ref] at hx;obtain⟨a,e1,rfl⟩:=hx;obtain⟨o,ks,vs,h1,⟨_,hx,_⟩,_⟩:=rh.at_ k _ a q e1;cases ru;obtain⟨ho,_⟩:=I.hok a _ h1;exact MN OJ I.kIn ⟨o,ho,hx.1⟩ e (fun z=>nomatch z) h
  ·cases hk
noncomputable def xk:M->String
 | .append=>"list.append"
 | .pop0=>"list.pop"
 | .extend=>"list.extend"
 | .insert=>"list.insert"
 | .count=>"list.count"
 | .index=>"list.index"
 | .popI=>"list.pop"
noncomputable def Dn:V->List V->Hp->VK->Prop:=fun x vs H Q=>∃(l:Addr) (xs:List V) (i:Int) (y:V),x=.ref l/\vs=[.int i,y]/\H l=some (.lst xs)/\0<=i/\i<=xs.length/\xs.length<100000/\Q .non (upd H l (.lst (xs.take i.toNat++y::xs.drop i.toNat)))
theorem yX:MtR X "list.insert" Dn:=by
 intro pins s σ H x vs v us Q I rx rv h;obtain⟨l,xs,i,y,rfl,rfl,hH,hk0,hk,hz,q⟩:=h;cases rx;cases rv with
 | cons r1 rr =>
 obtain⟨u,rfl,ru⟩:=cR rr;obtain⟨t,rfl⟩:=r1;obtain⟨z,its,n,r,hl,e⟩:=I.lstM hH;have hlen:=r.length;have hzz:=cZ hz;have fit:¬(!Builtin.List.listFitsIndex i)=true:=by simp[Builtin.List.listFitsIndex];omega
 have M:=PySem.AutoSeq1.list_insert_list_int_val_1 l its.toArray n i t u fit (by rw[K3];omega);refine call_meets PySem.F.slot_list_insert ⟨_,e,rfl⟩ PySem.F.entry_list_insert (PySem.F.args_list_insert_3 _ _ _) M ⟨e,?_⟩;refine⟨.non,_,I.lset (its':=its.take i.toNat++u::its.drop i.toNat) hH e ?_ ?_ ?_,rfl,q⟩
 ·have e0:¬(i<0):=by omega
  have e1:min i.toNat its.length=i.toNat:=by omega
  simp only[List.size_toArray,e0,if_false,e1];apply Array.ext';simp;exact NU (by simp)
 ·exact(r.take _).append (.cons ru (r.drop _))
 ·simp;omega
noncomputable def Ip (K:W.Frag)(w:PV->List PV->AH->EK->Prop):V->List V->Hp->VK->Prop:=fun x' xs' H Q=>∃m st x xs,RH K m H st/\R K m H x x'/\Rs K m H xs xs'/\w x xs st (post K m H Q)
theorem Gk (c:M):MtR X (xk c) (Ip X.K (sg c)):=by
 intro pins s σ H x' vs' v us Q I rx rv h;obtain⟨m,st,x,vs,rh,hx,hv,w⟩:=h;cases c with
 | append =>obtain⟨n0,rfl,w⟩:=lV w;obtain⟨x0,rfl,w⟩:=aI w;obtain⟨xs,h1,h2,w⟩:=w;obtain⟨a,ys,rfl,e,g,r⟩:=rh.lst h1 hx;obtain⟨y,rfl,hy⟩:=hv.one';exact pD pins s σ H _ _ v us Q I rx rv ⟨a,ys,y,rfl,rfl,g,by rw[<-r.len];exact cZ h2,w.setL rh e (nfL g) (r.app (.one hy)) (R_non.mpr rfl)⟩
 | pop0=>exact False.elim w
 | popI=>exact False.elim w
 | index=>exact False.elim w
 | count=>exact False.elim w
 | extend=>exact False.elim w
 | insert =>
  obtain⟨n0,rfl,w⟩:=lV w;obtain⟨i0,z,rfl,w⟩:=dy w;obtain⟨i,rfl,w⟩:=wg w;obtain⟨xs,h1,h2,i0,i1,w⟩:=w;obtain⟨a,ys,rfl,e,g,r⟩:=rh.lst h1 hx;obtain⟨y1,y2,rfl,hy1,hy2⟩:∃y1 y2,vs'=[y1,y2]/\R X.K m H (.int i) y1/\R X.K m H z y2:=by rw[Rs_cons] at hv;obtain⟨y1,t,rfl,q1,hv⟩:=hv;obtain⟨y2,rfl,h2⟩:=hv.one';exact⟨y1,y2,rfl,q1,h2⟩
  rw[R_int] at hy1;subst hy1;exact yX pins s σ H _ _ v us Q I rx rv ⟨a,ys,i,y2,rfl,rfl,g,i0,by rw[<-r.len];omega,by rw[<-r.len];omega,w.setL rh e (nfL g) ((r.take _).app (Rs_cons'.mpr ⟨hy2,r.drop _⟩)) (R_non.mpr rfl)⟩
noncomputable def Kb (K:W.Frag):V->V->V->Hp->(Hp->Prop)->Prop:=fun o' i' v' H Q=>∃m st o i v,RH K m H st/\R K m H o o'/\R K m H i i'/\R K m H v v'/\qO o i v st fun st'=>∀H',Ext K m H m H'->RH K m H' st'->Q H'
theorem zH (hu:X.A.units+64<cLine):DJ X (Kb X.K):=by
 intro pins s σ H o' i' v' ov iv u Q I ro ri rv h;obtain⟨m,st,o,i,v,rh,ho,hi,hv,w⟩:=h;unfold qO at w;split at w
 ·obtain⟨xs,h1,q,h2,w⟩:=w;obtain⟨a,ys,rfl,e,g,r⟩:=rh.lst h1 ho;rw[R_int] at hi;subst hi;exact Cc pins s σ H _ _ _ ov iv u Q I ro ri rv ⟨a,ys,_,q,rfl,rfl,g,by rw[<-r.len];exact h2,w _ (Ext.set (ys:=ys) rh e (nfL g)) (rh.setL e (nfL g) (r.set hv q))⟩
 ·obtain⟨kvs,h1,h2,w⟩:=w;obtain⟨a,ys,rfl,e,g,r1,r2⟩:=rh.dkat h1 ho;rw[R_str] at hi;subst hi;cases ro;obtain⟨q1,q2⟩:=FV (k:=.inr _) hv r1 r2;refine yO (MS (by omega) hu) I (DPut.k (k:=.inr _) g ?_) ri rv fun s' I'=>⟨_,I',w _ (Ext.set (ys:=[]) rh e (nfD g)) (rh.setD e (nfD g) q1 q2)⟩;have:ys.length=kvs.length:=by have:=LP List.length r1;simpa using this
  rw[this];exact xK h2
 ·exact w.elim
theorem pG:∀ {es:List DictEntry}{vs:List (Key × Value)}{ys:List (Key × V)},Pairs (aF P w) es vs->KV ys vs->Vals (ys.map fun p=>kV p.1) (es.map (·.key))/\Vals (ys.map (·.2)) (es.map (·.val))
 | _,_,_,.nil,k=>by unfold KV at k;cases k;exact⟨.nil,.nil⟩
 | _,_,_,.cons a b t,k=>by
  unfold KV at k;cases k with
  | cons f r =>
   obtain⟨h1,h2⟩:=pG t r;refine⟨.cons ?_ h1,.cons ?_ h2⟩
   ·show L2.RelV (kV _) (DictEntry.key _);rw[f.1];rcases aP a with⟨i,t,e1,e2⟩|⟨x,t,e1,e2⟩
    ·rw[e1,e2];exact⟨t,rfl⟩
    ·rw[e1,e2];exact⟨t,rfl⟩
   ·show L2.RelV _ (DictEntry.val _);rw[b];exact f.2
theorem RH.setOd {n:Nat}{kvs:List (PV × PV)}(h:RH K m H st)(e:m[n]?=some a)(hz:∀w v,H a≠some (.frz w v))(ob:Gc a o ks vs)(r1:Rs K m H (kvs.map (·.1)) ks)(r2:Rs K m H (kvs.map (·.2)) vs):RH K m (upd H a (.frz o (.own 0))) (st.set n (.od kvs)):=by
 have x:Ext K m H m (upd H a (.frz o (.own 0))):=Ext.set (ys:=[]) h e hz;refine⟨by simp[h.len],h.nd,fun k c b h1 h2=>?_,x.tb h.tb⟩;by_cases hk:k=n
 ·subst hk;have hl:k<st.length:=by rw[<-h.len];exact(KQ.mp e).1
  rw[KR hl] at h1;rw[e] at h2;cases h1;cases h2;exact⟨o,ks,vs,aA,ob,r1.mono x,r2.mono x⟩
 ·rw[KU (Ne.symm hk)] at h1;have ne:b≠a:=fun z=>hk ((List.getElem?_inj (KQ.mp h2).1 h.nd).mp (by rw[h2,e,z]));exact(h.at_ k c b h1 h2).mono x (ag ne)
structure Kw (X:Cx)(s:Shared)(iv:Value)(d:PyData):Prop where
 nk:isExactStrKey iv=false
 rd:∀s':Shared,s'.heap=s.heap->∃as,Reads s'.heap iv d as
 lay:PyData.canLay0 d=true
 ne:∀x:Str,PyData.eqv (.str x) d=false
 qt:∀s':Shared,s'.heap=s.heap->∀a,iv=.ref a->∀Q:Bool->Shared->Prop,Q true s'->wpAny (model X.prog X.w) X.A.in1 (eqIsQuiet 8 iv) Q X.xe s'
 hs:∀Q:Int->Shared->Prop,(∀n tk,Q n { s with toks:=tk })->wpAny (model X.prog X.w) X.A.in1 (pyHash iv) Q X.xe s
theorem J' {σ:L2.St}(hu:X.A.units+64<cLine)(I:L2.Inv X pins σ H s)(hi:R X.K m H i i')(ri:L2.RelV i' iv)(h:Gu i=true):∃d,Kw X s iv d:=by
 cases i with
 | non=>rw[R_non] at hi;subst hi;cases ri;exact⟨.none,rfl,fun s' e=>⟨_,.none⟩,rfl,fun x=>rfl,fun _ _ a e=>(nomatch e),fun Q q=>xJ q⟩
 | bl b=>rw[R_bl] at hi;subst hi;cases ri;exact⟨.bool b,rfl,fun s' e=>⟨_,.bool b⟩,rfl,fun x=>rfl,fun _ _ a e=>(nomatch e),fun Q q=>yM q⟩
 | int j=>rw[R_int] at hi;subst hi;obtain⟨t,rfl⟩:=ri;exact⟨.int j,rfl,fun s' e=>⟨_,.int j t⟩,rfl,fun x=>rfl,fun _ _ a e=>(nomatch e),fun Q q=>BO q⟩
 | tup xs =>
  have hx:∃z,xs=[.str z]/\PyData.strOk z=true:=by
   match xs,h with
   | [.str z],h=>exact⟨z,rfl,h⟩
  obtain⟨z,rfl,hz⟩:=hx;rw[R_tup] at hi;obtain⟨a,ys,rfl,g,r⟩:=hi;cases ri;obtain⟨y,rfl,hy⟩:=r.one';rw[R_str] at hy;subst hy;obtain⟨its,rv,pl,_⟩:=I.tuple g;obtain⟨u,rfl,t,rfl⟩:=cR rv;obtain⟨o,ho,hcl,k,hd⟩:=pl;have key:∀h:Heap,h=s.heap->(tupleKind (aF X.prog X.w)).is h [.inr z] a:=fun h e=>by subst e;exact⟨o,_,k,ho,hcl,hd,.cons (kQ X.prog X.w z t) .nil⟩
  refine⟨.tuple [.str z],rfl,fun s' e=>⟨[],.tuple (by rw[e];exact ho) hcl hd (.cons (as:=[]) (.str z t) .nil)⟩,by simp[PyData.canLay0,PyData.canLayAll0,hz],fun x=>by simp[PyData.eqv],fun s' e b eb Q q=>?_,fun Q q=>AU (ks:=[.inr z]) (by show X.A.units+1<cLine;omega) (key _ rfl) q⟩;exact wpAny_eqIsQuiet_tuple (key _ e) q
 | _=>cases h
noncomputable def Ig (K:W.Frag):V->V->V->Hp->(Hp->Prop)->Prop:=fun o' i' v' H Q=>∃m st n i v,RH K m H st/\R K m H (.ref n) o'/\R K m H i i'/\R K m H v v'/\sv n i v st fun st'=>∀H',Ext K m H m H'->RH K m H' st'->Q H'
theorem rW:∀ {ss:List Str}{us:List Value},Vals (ss.map V.str) us->(∀z∈ss,PyData.strOk z=true)->∀u∈us,∃x t,u=.str x t/\PyData.strOk x=true
 | [],_,h,_,u,hu=>by cases h;cases hu
 | z::ss,_,h,k,u,hu=>by
  cases h with
  | cons r t =>
   rcases K8.mp hu with rfl|hu
   ·obtain⟨t',rfl⟩:=r;exact⟨z,t',rfl,k z KP⟩
   ·exact rW t (fun z hz=>k z (KN _ hz)) u hu
theorem C_ (hu:X.A.units+64<cLine):DJ X (Ig X.K):=by
 intro pins s σ H o' i' v' ov iv u Q I ro ri rv h;obtain⟨m,st,n,i,v,rh,ho,hi,hv,kvs,h1,h2,w⟩:=h;by_cases hs:∃z,i=.str z
 ·obtain⟨z,rfl⟩:=hs;exact zH hu pins s σ H o' i' v' ov iv u Q I ro ri rv ⟨m,st,.ref n,.str z,v,rh,ho,hi,hv,kvs,h1,h2,w⟩
 ·have w:Gu i=true/\Hi kvs/\∀H',Ext X.K m H m H'->RH X.K m H' (st.set n (.od (bp kvs++[(i,v)])))->Q H':=by
   cases i with
   | str z=>exact absurd ⟨z,rfl⟩ hs
   | _=>exact w
  obtain⟨w1,⟨ss,hss,hok⟩,w⟩:=w;obtain⟨a,ys,rfl,e,g,r1,r2⟩:=rh.dkat h1 ho;cases ro;obtain⟨_,lo,vs,rel,o,es,ep,hob,hx,hd,hko,hp,_⟩:=gu I.hok g;obtain⟨k1,k2⟩:=pG hp rel;obtain⟨d,O⟩:=J' hu I hi ri w1;have l1:ys.length=kvs.length:=by simpa using LP List.length r1
  have les:es.size<=1000:=by have:=hp.length;have q:=rel.length;simp at this;omega
  have hst:∀en∈es,∃x t,en.key=.str x t/\PyData.strOk x=true:=fun en he=>by
   have hk:en.key∈es.toList.map (·.key):=K7.mpr ⟨en,by simpa using he,rfl⟩;have e5:(ys.map fun p=>kV p.1)=ss.map V.str:=by have:=LP (List.map kV) (r1.trans hss);rw[MA,MA] at this;exact this
   rw[e5] at k1;exact rW k1 hok _ hk
  refine D7 hob hx hd (K_ les (by rw[sizeLine_eq];omega)) (fun en he=>by obtain⟨x,t,q,_⟩:=hst en he;rw[q];rfl) O.nk (fun b eb en he=>by obtain⟨x,t,q,_⟩:=hst en he;rw[q,eb];rfl)
   (fun tk b eb Q q=>O.qt { s with toks:=tk } rfl b eb Q q) O.hs (fun tk en he Q q=>?_) fun h' tk nn hob' hsb=>?_
  ·obtain⟨x,t,ek,okx⟩:=hst en he;rw[ek];obtain⟨as,rd⟩:=O.rd { s with toks:=tk } rfl;refine SeqAt.eqBoolOverData _ _ _ _ _ _ _ (.str x) d [] as _ (.str x t) rd (by simpa[PyData.canLay0] using okx) O.lay ?_ (by rw[O.ne];exact q);show X.A.units+1+min _ _<cLine;have:min (PyData.str x).depth d.depth<=0:=Nat.min_le_left _ _;omega
  ·have he:∃q,h'.get? a=some q:=⟨_,hob'⟩;refine⟨_,qN (t':=tk) (ob:=.frz (o.mapDictKeys (·.push ⟨nn,iv,u⟩)) (.own 0)) I (by rw[g];exact True.intro) hsb he ⟨hob',he⟩,w _ (Ext.set (ys:=[]) rh e (nfD g)) (rh.setOd (ks:=(ys.map fun p=>kV p.1)++[i']) (vs:=ys.map (·.2)++[v']) e (nfD g) ⟨lo,hx.mapDictKeys _,_,_,Obj.data_mapDictKeys hd _,?_,?_⟩ ?_ ?_)⟩
   ·simpa using k1.snoc ri
   ·simpa using k2.snoc rv
   ·rw[L8];refine Rs.app ?_ (Rs.one hi);have:(bp kvs).map (·.1)=kvs.map fun p=>kP p.1:=by simp[bp]
    rw[this];have e5:(ys.map fun p=>kV p.1)=kvs.map fun p=>kV p.1:=by have:=LP (List.map kV) r1;rw[MA,MA] at this;exact this
    rw[e5];exact vX
   ·rw[L8];refine Rs.app ?_ (Rs.one hv);have:(bp kvs).map (·.2)=kvs.map (·.2):=by simp[bp]
    rw[this];exact r2
noncomputable def Kq (K:W.Frag):V->Hp->(Bool->Hp->Prop)->Prop:=fun x' H Q=>∃m st x,RH K m H st/\R K m H x x'/\fc x st (postB K m H Q)
theorem sO:∀ {x':V}{H:Hp}{Q:Bool->Hp->Prop},Kq X.K x' H Q->∃k,GF X.K x' H k/\Q k H:=by
 intro x' H Q h;obtain⟨m,st,x,rh,hx,w⟩:=h;unfold fc at w;split at w
 ·rw[R_bl] at hx;subst hx;exact⟨_,rfl,w m H (Ext.refl _ _ _) rh⟩
 ·rw[R_non] at hx;subst hx;exact⟨_,rfl,w m H (Ext.refl _ _ _) rh⟩
 ·rw[R_int] at hx;subst hx;exact⟨_,rfl,w m H (Ext.refl _ _ _) rh⟩
 ·exact w.elim
 ·obtain⟨xs,h1,w⟩:=w;obtain⟨a,ys,rfl,g,r⟩:=gM rh hx h1;have e:(!xs.isEmpty)=!ys.isEmpty:=by have:=r.len;cases xs <;> cases ys <;> first|rfl|(simp at this)
  refine⟨_,?_,w m H (Ext.refl _ _ _) rh⟩;rw[e];rcases g with g|g
  ·exact .inl ⟨ys,g,rfl⟩
  ·exact .inr (.inl ⟨ys,g,rfl⟩)
theorem GJ (op:Operator):PIp X op (Ao X.K (n6 op)):=by
 intro pins s σ H x' y' v u Q I rx ry h;obtain⟨m,st,x,y,rh,hx,hy,w⟩:=h;unfold n6 at w;split at w
 ·rw[R_int] at hx hy;subst hx hy;exact GA pins s σ H _ _ v u Q I rx ry ⟨_,_,rfl,rfl,w.here rh (R_int.mpr rfl)⟩
 ·rw[R_int] at hx hy;subst hx hy;exact Gi pins s σ H _ _ v u Q I rx ry ⟨_,_,rfl,rfl,w.here rh (R_int.mpr rfl)⟩
 ·obtain⟨xs,zs,h1,h2,h3,w⟩:=w;obtain⟨a,ys,rfl,e,g,r⟩:=rh.lst h1 hx;obtain⟨b,ys2,rfl,e2,g2,r2⟩:=rh.lst h2 hy;exact Hs pins s σ H _ _ v u Q I rx ry ⟨a,b,ys,ys2,rfl,rfl,g,g2,by rw[<-r.len,<-r2.len];exact f9 h3,w.setL rh e (nfL g) (r.app r2) hx⟩
 ·exact w.elim
end
end FW
namespace FW
open L2 HX
mutual
noncomputable def PV.same:PV->PV->Bool
 | .non,y=>match y with | .non=>true|_=>false
 | .bl a,y=>match y with | .bl b=>a == b|_=>false
 | .int a,y=>match y with | .int b=>a == b|_=>false
 | .str a,y=>match y with | .str b=>a == b|_=>false
 | .tup xs,y=>match y with | .tup ys=>PV.sames xs ys|_=>false
 | .ref a,y=>match y with | .ref b=>a == b|_=>false
 | .rdl xs,y=>match y with | .rdl ys=>PV.sames xs ys|_=>false
 | .fn a,y=>match y with | .fn b=>a == b|_=>false
noncomputable def PV.sames:List PV->List PV->Bool
 | [],y=>y.isEmpty
 | x::xs,y=>match y with|y::ys=>x.same y && PV.sames xs ys | []=>false
end
mutual
theorem PV.same_eq:∀ {x y:PV},x.same y=true->x=y
 | .non,y,h=>by cases y with|non=>rfl|_=>exact Bool.noConfusion (show false=true from h)
 | .bl a,y,h=>by cases y with|bl b=>rw[eq_of_beq (show (a == b)=true from h)] | _=>exact Bool.noConfusion (show false=true from h)
 | .int a,y,h=>by cases y with|int b=>rw[eq_of_beq (show (a == b)=true from h)] | _=>exact Bool.noConfusion (show false=true from h)
 | .str a,y,h=>by cases y with|str b=>rw[eq_of_beq (show (a == b)=true from h)] | _=>exact Bool.noConfusion (show false=true from h)
 | .ref a,y,h=>by cases y with|ref b=>rw[eq_of_beq (show (a == b)=true from h)] | _=>exact Bool.noConfusion (show false=true from h)
 | .tup xs,y,h=>by cases y with|tup ys=>rw[PV.sames_eq (show PV.sames xs ys=true from h)] | _=>exact Bool.noConfusion (show false=true from h)
 | .rdl xs,y,h=>by cases y with|rdl ys=>rw[PV.sames_eq (show PV.sames xs ys=true from h)] | _=>exact Bool.noConfusion (show false=true from h)
 | .fn a,y,h=>by cases y with|fn b=>rw[eq_of_beq (show (a == b)=true from h)] | _=>exact Bool.noConfusion (show false=true from h)
theorem PV.sames_eq:∀ {x y:List PV},PV.sames x y=true->x=y
 | [],y,h=>by cases y with|nil=>rfl|cons a b=>exact Bool.noConfusion (show false=true from h)
 | x::xs,y,h=>by
  cases y with
  | nil=>exact Bool.noConfusion (show false=true from h)
  | cons y ys =>have h:=(KM _ _).mp (show (x.same y && PV.sames xs ys)=true from h);rw[PV.same_eq h.1,PV.sames_eq h.2]
end
structure Cfg where
 N:List Str
 names:List (Str × NameKind)
 fns:List Str
 lim:Nat
 blts:List Str
 gl:List (Str × PV)
 pc:Bool:=false
 hm:Option Nat:=none
noncomputable def Cfg.vis (c:Cfg)(x:Str):Bool:=(c.names.lookup x == some .local || c.names.lookup x == some .cell || c.names.lookup x == some .free) && !(x == ("__debug__":Str)) && !(x == ("__classdict__":Str))
noncomputable def Cfg.loc (c:Cfg)(x:Str):Bool:=c.names.lookup x == some .local || c.names.lookup x == some .cell
noncomputable def Cfg.glb (c:Cfg)(x:Str):Bool:=c.names.lookup x == some .globalImplicit && !(x == ("__debug__":Str)) && !(x == ("__name__":Str))
noncomputable def Cfg.blt (c:Cfg)(x:Str):Bool:=c.glb x && c.blts.contains x
noncomputable def Cfg.fn (c:Cfg)(f:Nat)(x:Str):Bool:=c.fns[f]? == some x && decide (f<c.lim) && c.glb x
noncomputable def lS:B->Str
 | .len=>"len"
 | .max2=>"max"
 | .min2=>"min"
 | .divmod=>"divmod"
 | .int1=>"int"
 | .str1=>"str"
 | .tuple1=>"tuple"
 | .list1=>"list"
 | .all1=>"all"
 | .any1=>"any"
 | .abs1=>"abs"
 | .sorted1=>"sorted"
 | .repr1=>"repr"
 | .sortS=>"sorted"
 | .max1=>"max"
 | .sortD=>"sorted"
 | .repr2=>"repr"
 | .listD=>"list"
noncomputable def q_:M->Str
 | .append=>"append"
 | .pop0=>"pop"
 | .extend=>"extend"
 | .insert=>"insert"
 | .count=>"count"
 | .index=>"index"
 | .popI=>"pop"
noncomputable def kinds:List String:=["int","bool","str","tuple","list","dict"]
noncomputable def nJ:Expr->Bool
 | .ListComp ..=>false
 | .SetComp ..=>false
 | .DictComp ..=>false
 | _=>true
noncomputable def vZ:Expr->Bool
 | .Name ..=>true
 | .Call ..=>true
 | .Subscript ..=>true
 | _=>false
mutual
noncomputable def Tg.low (n:Nat):Tg->Bool
 | .name i=>decide (i<n)
 | .tup ts=>Tgs.low n ts
 | .ltup ts=>Tgs.low n ts
 | .sub _ _=>false
 | .subO _ _=>false
noncomputable def Tgs.low (n:Nat):Tgs->Bool
 | .nil=>true
 | .cons t ts=>Tg.low n t && Tgs.low n ts
end
noncomputable def gy:Expr->Bool
 | .Set ..=>false
 | _=>true
noncomputable def Cfg.inner (c:Cfg)(nt:List Str)(caps:List Nat)(sc:Scope):Cfg:={ c with N:=nt++caps.filterMap (c.N[·]?),names:=sc.names,pc:=false,hm:=none }
noncomputable def yL (k:Option NameKind):Bool:=k == some .cell || k == some .free
noncomputable def Cfg.block (c:Cfg)(nt:List Str)(caps:List Nat)(sc:Scope):Bool :=
 sc.kind == .function && sc.names.all (fun y=>!(y.2 == .cell)) && sc.names.all (fun y=>!(y.2 == .local) || sc.names.lookup y.1 == some .local) && sc.names.all (fun y=>!(y.2 == .free) || yL (c.names.lookup y.1))
  && caps.all (fun i=>decide (i<c.N.length)) && (caps.filterMap (c.N[·]?)).all (fun x=>sc.names.lookup x == some .free && yL (c.names.lookup x)) && decide (nt++caps.filterMap (c.N[·]?)).Nodup
noncomputable def Bz:It->Expr->Bool
 | .zip _ _,.Tuple ..=>true
 | .zip _ _,_=>false
 | .zip3 _ _ _,.Tuple ..=>true
 | .zip3 _ _ _,_=>false
 | .enum _,.Tuple ..=>true
 | .enum _,_=>false
 | .seq _,_ | .range1 _,_ | .range2 _ _,_ | .chars _,_ | .range3 _ _ _,_=>true
noncomputable def cb:Expr->Bool
 | .Name ..=>true
 | .List ..=>true
 | .Subscript ..=>true
 | .ListComp ..=>true
 | _=>false
noncomputable def vE:Expr->Bool
 | .Constant (.str _) ..=>true
 | _=>false
noncomputable def Ah:SM->Str
 | .join=>"join"
noncomputable def aE (x:Expr)(f:Str->Pos->Bool):Bool:=match x with | .Name y p=>f y p|_=>false
theorem au (h:aE x f=true):∃y p,x=.Name y p/\f y p=true:=by cases x with|Name y p=>exact⟨y,p,rfl,h⟩|_=>exact Bool.noConfusion h
noncomputable def tR (x:Expr)(f:Int->Bool):Bool:=match x with | .Constant (.int j) _ _=>f j|_=>false
theorem p9 (h:tR x f=true):∃j k p,x=.Constant (.int j) k p/\f j=true:=by
 cases x with
 | Constant v k p=>cases v with|int j=>exact⟨j,k,p,rfl,h⟩|_=>exact Bool.noConfusion h
 | _=>exact Bool.noConfusion h
noncomputable def Hz (x:Expr)(f:Bool->Bool):Bool:=match x with | .Constant (.bool j) _ _=>f j|_=>false
theorem Ad (h:Hz x f=true):∃j k p,x=.Constant (.bool j) k p/\f j=true:=by
 cases x with
 | Constant v k p=>cases v with|bool j=>exact⟨j,k,p,rfl,h⟩|_=>exact Bool.noConfusion h
 | _=>exact Bool.noConfusion h
noncomputable def uz (x:Expr)(f:Str->Bool):Bool:=match x with | .Constant (.str j) _ _=>f j|_=>false
theorem yd (h:uz x f=true):∃j k p,x=.Constant (.str j) k p/\f j=true:=by
 cases x with
 | Constant v k p=>cases v with|str j=>exact⟨j,k,p,rfl,h⟩|_=>exact Bool.noConfusion h
 | _=>exact Bool.noConfusion h
noncomputable def En (x:Expr):Bool:=match x with | .Constant .none _ _=>true|_=>false
theorem xI (h:En x=true):∃k p,x=.Constant .none k p:=by
 cases x with
 | Constant v k p=>cases v with|none=>exact⟨k,p,rfl⟩|_=>exact Bool.noConfusion h
 | _=>exact Bool.noConfusion h
noncomputable def eV (x:Expr)(f:List Expr->Bool):Bool:=match x with | .Tuple xs _ _=>f xs|_=>false
theorem bE (h:eV x f=true):∃xs k p,x=.Tuple xs k p/\f xs=true:=by cases x with|Tuple xs k p=>exact⟨xs,k,p,rfl,h⟩|_=>exact Bool.noConfusion h
noncomputable def qz (x:Expr)(f:List Expr->Bool):Bool:=match x with | .List xs _=>f xs|_=>false
theorem i4 (h:qz x f=true):∃xs p,x=.List xs p/\f xs=true:=by cases x with|List xs p=>exact⟨xs,p,rfl,h⟩|_=>exact Bool.noConfusion h
noncomputable def on1 {α:Type}(xs:List α)(f:α->Bool):Bool:=match xs with | [a]=>f a|_=>false
theorem cD {α:Type}{xs:List α}{f:α->Bool}(h:on1 xs f=true):∃a,xs=[a]/\f a=true:=by
 cases xs with
 | nil=>exact Bool.noConfusion h
 | cons a t=>cases t with|nil=>exact⟨a,rfl,h⟩|cons _ _=>exact Bool.noConfusion h
noncomputable def on2 {α:Type}(xs:List α)(f:α->α->Bool):Bool:=match xs with | [a,b]=>f a b|_=>false
theorem h_ {α:Type}{xs:List α}{f:α->α->Bool}(h:on2 xs f=true):∃a b,xs=[a,b]/\f a b=true:=by
 cases xs with
 | nil=>exact Bool.noConfusion h
 | cons a t=>cases t with
  | nil=>exact Bool.noConfusion h
  | cons b t=>cases t with|nil=>exact⟨a,b,rfl,h⟩|cons _ _=>exact Bool.noConfusion h
noncomputable def on3 {α:Type}(xs:List α)(f:α->α->α->Bool):Bool:=match xs with | [a,b,c]=>f a b c|_=>false
noncomputable def m_ {α:Type}(xs:List α)(f:α->List α->Bool):Bool:=match xs with|a::t=>f a t | []=>false
theorem aS {α:Type}{xs:List α}{f:α->List α->Bool}(h:m_ xs f=true):∃a t,xs=a::t/\f a t=true:=by
 cases xs with
 | nil=>exact Bool.noConfusion h
 | cons a t=>exact⟨a,t,rfl,h⟩
noncomputable def i8 {α:Type}(x:Option α)(f:α->Bool):Bool:=match x with|some a=>f a|none=>false
theorem i9 {α:Type}{x:Option α}{f:α->Bool}(h:i8 x f=true):∃a,x=some a/\f a=true:=by
 cases x with
 | none=>exact Bool.noConfusion h
 | some a=>exact⟨a,rfl,h⟩
noncomputable def qp (x:Expr)(f:List (Option Expr)->List Expr->Bool):Bool:=match x with | .Dict ks vs _=>f ks vs|_=>false
theorem uG (h:qp x f=true):∃ks vs p,x=.Dict ks vs p/\f ks vs=true:=by cases x with|Dict ks vs p=>exact⟨ks,vs,p,rfl,h⟩|_=>exact Bool.noConfusion h
noncomputable def EO (x:Expr)(f:Expr->Operator->Expr->Bool):Bool:=match x with | .BinOp l o r _=>f l o r|_=>false
theorem ya (h:EO x f=true):∃l o r p,x=.BinOp l o r p/\f l o r=true:=by cases x with|BinOp l o r p=>exact⟨l,o,r,p,rfl,h⟩|_=>exact Bool.noConfusion h
noncomputable def wo (x:Expr)(f:Expr->Bool):Bool:=match x with | .UnaryOp .USub y _=>f y|_=>false
theorem p8 (h:wo x f=true):∃y p,x=.UnaryOp .USub y p/\f y=true:=by
 cases x with
 | UnaryOp o y p=>cases o with|USub=>exact⟨y,p,rfl,h⟩|_=>exact Bool.noConfusion h
 | _=>exact Bool.noConfusion h
noncomputable def Ax (x:Expr)(f:Expr->Bool):Bool:=match x with | .UnaryOp .Not y _=>f y|_=>false
theorem pX (h:Ax x f=true):∃y p,x=.UnaryOp .Not y p/\f y=true:=by
 cases x with
 | UnaryOp o y p=>cases o with|Not=>exact⟨y,p,rfl,h⟩|_=>exact Bool.noConfusion h
 | _=>exact Bool.noConfusion h
noncomputable def l9 (x:Expr)(f:Expr->CmpOp->Expr->Bool):Bool:=match x with | .Compare l os rs _=>on1 os fun o=>on1 rs fun r=>f l o r|_=>false
theorem dY (h:l9 x f=true):∃l o r p,x=.Compare l [o] [r] p/\f l o r=true:=by
 cases x with
 | Compare l os rs p =>obtain⟨o,rfl,h⟩:=cD h;obtain⟨r,rfl,h⟩:=cD h;exact⟨l,o,r,p,rfl,h⟩
 | _=>exact Bool.noConfusion h
noncomputable def AO (x:Expr)(f:PySem.BoolOp->List Expr->Bool):Bool:=match x with | .BoolOp o xs _=>f o xs|_=>false
theorem ip (h:AO x f=true):∃o xs p,x=.BoolOp o xs p/\f o xs=true:=by cases x with|BoolOp o xs p=>exact⟨o,xs,p,rfl,h⟩|_=>exact Bool.noConfusion h
noncomputable def Ec (x:Expr)(f:Expr->Expr->Expr->Bool):Bool:=match x with | .IfExp y l r _=>f y l r|_=>false
theorem xZ (h:Ec x f=true):∃y l r p,x=.IfExp y l r p/\f y l r=true:=by cases x with|IfExp y l r p=>exact⟨y,l,r,p,rfl,h⟩|_=>exact Bool.noConfusion h
noncomputable def kZ (x:Expr)(f:Expr->Expr->Bool):Bool:=match x with | .Subscript l r _=>f l r|_=>false
theorem cA (h:kZ x f=true):∃l r p,x=.Subscript l r p/\f l r=true:=by cases x with|Subscript l r p=>exact⟨l,r,p,rfl,h⟩|_=>exact Bool.noConfusion h
noncomputable def xm (x:Expr)(f:Option Expr->Option Expr->Bool):Bool:=match x with | .Slice u v none _=>f u v|_=>false
theorem sQ (h:xm x f=true):∃u v p,x=.Slice u v none p/\f u v=true:=by
 cases x with
 | Slice u v w p=>cases w with|none=>exact⟨u,v,p,rfl,h⟩|some _=>exact Bool.noConfusion h
 | _=>exact Bool.noConfusion h
noncomputable def u7 (x:Expr)(f:Expr->Bool):Bool:=match x with | .Slice none none (some z) _=>f z|_=>false
theorem vk (h:u7 x f=true):∃z p,x=.Slice none none (some z) p/\f z=true:=by
 cases x with
 | Slice u v w p=>cases u with
  | none=>cases v with
   | none=>cases w with|none=>exact Bool.noConfusion h|some z=>exact⟨z,p,rfl,h⟩
   | some _=>exact Bool.noConfusion h
  | some _=>exact Bool.noConfusion h
 | _=>exact Bool.noConfusion h
noncomputable def aQ (x:Expr)(f:Expr->List Expr->Pos->Bool):Bool:=match x with | .Call g xs [] p=>f g xs p|_=>false
theorem aM (h:aQ x f=true):∃g xs p,x=.Call g xs [] p/\f g xs p=true:=by
 cases x with
 | Call g xs ks p=>cases ks with|nil=>exact⟨g,xs,p,rfl,h⟩|cons _ _=>exact Bool.noConfusion h
 | _=>exact Bool.noConfusion h
noncomputable def gi (x:Expr)(f:Expr->Str->Pos->Bool):Bool:=match x with | .Attribute y n p=>f y n p|_=>false
theorem gm (h:gi x f=true):∃y n p,x=.Attribute y n p/\f y n p=true:=by cases x with|Attribute y n p=>exact⟨y,n,p,rfl,h⟩|_=>exact Bool.noConfusion h
noncomputable def xH (x:Expr)(f:Expr->List Comprehension->Scope->Pos->Bool):Bool:=match x with | .ListComp e gs sc p=>f e gs sc p|_=>false
theorem gN (h:xH x f=true):∃e gs sc p,x=.ListComp e gs sc p/\f e gs sc p=true:=by cases x with|ListComp e gs sc p=>exact⟨e,gs,sc,p,rfl,h⟩|_=>exact Bool.noConfusion h
noncomputable def F' (x:Expr)(f:Expr->Expr->List Comprehension->Scope->Pos->Bool):Bool:=match x with | .DictComp k v gs sc p=>f k v gs sc p|_=>false
theorem B1 (h:F' x f=true):∃k v gs sc p,x=.DictComp k v gs sc p/\f k v gs sc p=true:=by cases x with|DictComp k v gs sc p=>exact⟨k,v,gs,sc,p,rfl,h⟩|_=>exact Bool.noConfusion h
noncomputable def qQ (wk:DW)(x:Expr)(f:Expr->Bool):Bool:=match wk with
 | .items=>aQ x fun g xs cp=>gi g fun y n ap=>n == ("items":Str) && ap.endLine == cp.line && xs.isEmpty && cb y && f y
 | .values=>aQ x fun g xs cp=>gi g fun y n ap=>n == ("values":Str) && ap.endLine == cp.line && xs.isEmpty && cb y && f y
theorem mx (h:qQ .items x f=true):∃y ap cp,x=.Call (.Attribute y "items" ap) [] [] cp/\(ap.endLine == cp.line)=true/\cb y=true/\f y=true:=by
 unfold qQ at h;replace h:=aM h;obtain⟨g,xs,cp,rfl,h⟩:=h;replace h:=gm h;obtain⟨y,n,ap,rfl,h⟩:=h;simp only[Bool.and_eq_true,beq_iff_eq] at h;obtain⟨⟨⟨⟨h1,h2⟩,h3⟩,h4⟩,h5⟩:=h;subst h1;cases xs with
 | nil=>exact⟨y,ap,cp,rfl,by rw[h2];simp,h4,h5⟩
 | cons _ _=>cases h3
theorem sJ (h:qQ .values x f=true):∃y ap cp,x=.Call (.Attribute y "values" ap) [] [] cp/\(ap.endLine == cp.line)=true/\cb y=true/\f y=true:=by
 unfold qQ at h;replace h:=aM h;obtain⟨g,xs,cp,rfl,h⟩:=h;replace h:=gm h;obtain⟨y,n,ap,rfl,h⟩:=h;simp only[Bool.and_eq_true,beq_iff_eq] at h;obtain⟨⟨⟨⟨h1,h2⟩,h3⟩,h4⟩,h5⟩:=h;subst h1;cases xs with
 | nil=>exact⟨y,ap,cp,rfl,by rw[h2];simp,h4,h5⟩
 | cons _ _=>cases h3
noncomputable def A4:DW->Expr->Bool
 | .items,.Tuple ..=>true
 | .items,_=>false
 | .values,_=>true
theorem Hc {α β:Type}{xs:List α}{ys:List β}(h:(xs.isEmpty && ys.isEmpty)=true):xs=[]/\ys=[]:=by
 cases xs with
 | nil=>cases ys with|nil=>exact⟨rfl,rfl⟩|cons _ _=>exact Bool.noConfusion h
 | cons _ _=>exact Bool.noConfusion h
theorem ze {α:Type}{x:Option α}(h:x.isNone=true):x=none:=by cases x with|none=>rfl|some _=>exact Bool.noConfusion h
noncomputable def HF (x:Expr)(f:Arguments->Expr->Scope->Bool):Bool:=match x with | .Lambda a b sc _=>f a b sc|_=>false
noncomputable def IE (x:Arguments)(f:Str->Bool):Bool:=x.posonlyargs.isEmpty && x.vararg.isNone && x.kwonlyargs.isEmpty && x.kw_defaults.isEmpty && x.kwarg.isNone && x.defaults.isEmpty && on1 x.args fun a=>f a.arg
noncomputable def Cfg.lam (c:Cfg)(k:Nat)(y:Str)(caps:List Nat)(sc:Scope):Cfg:={ c with N:=y::caps.filterMap (c.N[·]?),names:=sc.names,lim:=k,pc:=false,hm:=none }
noncomputable def Cfg.lamOk (c:Cfg)(k:Nat)(y:Str)(caps:List Nat)(sc:Scope):Bool :=
 sc.kind == .function && !sc.isCoroutine && !sc.isGenerator && sc.names.all (fun y=>!(y.2 == .cell)) && sc.names.lookup y == some .local && sc.names.all (fun y=>!(y.2 == .local) || sc.names.lookup y.1 == some .local) && sc.names.all (fun y=>!(y.2 == .free) || yL (c.names.lookup y.1))
  && decide (k+1<c.lim) && caps.all (fun i=>decide (i<c.N.length)) && (caps.filterMap (c.N[·]?)).all (fun x=>sc.names.lookup x == some .free && yL (c.names.lookup x)) && decide (y::caps.filterMap (c.N[·]?)).Nodup
mutual
noncomputable def ay (c:Cfg):E->Expr->Bool
 | .var i,x=>aE x fun y _=>c.N[i]? == some y && c.vis y
 | .int i,x=>tR x fun j=>i == j
 | .bl i,x=>Hz x fun j=>i == j
 | .non,x=>En x
 | .str i,x=>uz x fun j=>i == j
 | .gv y v,x=>aE x fun z _=>z == y && c.glb y && i8 (c.gl.lookup y) fun w=>w.same v
 | .tup es,x=>eV x fun xs=>eW c es xs
 | .lst es,x=>qz x fun xs=>eW c es xs
 | .dct1 k i,x=>qp x fun ks vs=>on1 ks fun ok=>i8 ok fun kx=>uz kx fun k'=>on1 vs fun vx=>tR vx fun i'=>k == k' && i == i'
 | .dct0,x=>qp x fun ks vs=>ks.isEmpty && vs.isEmpty
 | .bin op a b,x=>EO x fun l o r=>o == op && ay c a l && ay c b r
 | .neg a,x=>wo x fun y=>ay c a y
 | .not a,x=>Ax x fun y=>ay c a y
 | .cmp op a b,x=>l9 x fun l o r=>o == op && !behindInMarks o r && ay c a l && ay c b r
 | .bop k es,x=>AO x fun o xs=>(o == if k then .And else .Or) && eW c es xs && !xs.isEmpty
 | .ite t a b,x=>Ec x fun y l r=>xF c t y && ay c a l && ay c b r
 | .ix a b,x=>kZ x fun l r=>g9 r && ay c a l && ay c b r
 | .sl a lo hi,x=>kZ x fun l r=>xm r fun u v=>ay c a l && GV c lo u && GV c hi v
 | .call f es,x=>aQ x fun g xs _=>aE g fun y _=>c.fn f y && xs.all aj && eW c es xs
 | .blt b es,x=>aQ x fun g xs _=>aE g fun y _=>y == lS b && c.blt y && xs.all aj && !xs.isEmpty && eW c es xs
 | .inst a t,x=>aQ x fun g xs _=>aE g fun y _=>on2 xs fun l r=>aE r fun z _=>y == ("isinstance":Str) && c.blt y && aj l && z == (t:Str) && c.blt z && kinds.contains t && ay c a l
 | .met m o es,x=>aQ x fun g xs cp=>gi g fun y n ap=>n == q_ m && ap.endLine == cp.line && xs.all aj && decide (xs.length<=2) && cb y && ay c o y && eW c es xs
 | .comp elt tg it ifs nt caps,x=>xH x fun ex gs sc _=>on1 gs fun g=>g.is_async == 0 && Bz it g.target && gy g.iter && tg.low nt.length && c.block nt caps sc && B5 c it g.iter && gL (c.inner nt caps sc) tg g.target && jP (c.inner nt caps sc) ifs g.ifs && ay (c.inner nt caps sc) elt ex
 | .tmp a,x=>ay c a x
 | .compK elt tg wk e ifs nt caps,x=>xH x fun ex gs sc _=>on1 gs fun g=>g.is_async == 0 && A4 wk g.target && gy g.iter && tg.low nt.length && c.block nt caps sc && qQ wk g.iter (fun y=>ay c e y) && gL (c.inner nt caps sc) tg g.target && jP (c.inner nt caps sc) ifs g.ifs && ay (c.inner nt caps sc) elt ex
 | .compD kx vx tg wk e ifs nt caps,x=>F' x fun ek ev gs sc _=>on1 gs fun g=>g.is_async == 0 && A4 wk g.target && gy g.iter && tg.low nt.length && c.block nt caps sc && qQ wk g.iter (fun y=>ay c e y) && gL (c.inner nt caps sc) tg g.target && jP (c.inner nt caps sc) ifs g.ifs && ay (c.inner nt caps sc) kx ek && ay (c.inner nt caps sc) vx ev
 | .dct2 k v,x=>qp x fun ks vs=>on1 ks fun ok=>i8 ok fun kx=>on1 vs fun vx=>ay c k kx && ay c v vx
 | .dcl a,x=>aQ x fun g xs _=>aE g fun y _=>on1 xs fun u=>y == ("dict":Str) && c.blt y && aj u && ay c a u
 | .eqd ne a b,x=>l9 x fun l o r=>(o == if ne then .NotEq else .Eq) && !behindInMarks o r && ay c a l && ay c b r
 | .bad,_=>true
 | .un .rev a,x=>kZ x fun l r=>u7 r fun z=>wo z fun z1=>tR z1 fun i=>i == 1 && ay c a l
 | .un .ssT a,x=>aQ x fun g xs _=>aE g fun y _=>on1 xs fun l=>aQ l fun g2 ys _=>aE g2 fun z _=>on1 ys fun u=>y == ("sorted":Str) && c.blt y && z == ("set":Str) && c.blt z && aj l && aj u && ay c a u
 | .un .isE a,x=>l9 x fun l o r=>qz r fun xs=>o == .Eq && xs.isEmpty && ay c a l
 | .compO elt tg e ifs nt caps,x=>xH x fun ex gs sc _=>on1 gs fun g=>g.is_async == 0 && A4 .items g.target && gy g.iter && tg.low nt.length && c.block nt caps sc && qQ .items g.iter (fun y=>ay c e y) && gL (c.inner nt caps sc) tg g.target && jP (c.inner nt caps sc) ifs g.ifs && ay (c.inner nt caps sc) elt ex
 | .dget a b,x=>aQ x fun g xs cp=>gi g fun y n ap=>on1 xs fun u=>n == ("get":Str) && ap.endLine == cp.line && aj u && cb y && ay c a y && ay c b u
 | .dcp a,x=>aQ x fun g xs _=>aE g fun y _=>on1 xs fun u=>y == ("dict":Str) && c.blt y && aj u && ay c a u
 | .clr a,x=>aQ x fun g xs cp=>gi g fun y n ap=>n == ("clear":Str) && ap.endLine == cp.line && xs.isEmpty && cb y && ay c a y
 | .sset a,x=>aQ x fun g xs _=>aE g fun y _=>on1 xs fun l=>aQ l fun g2 ys _=>aE g2 fun z _=>on1 ys fun u=>y == ("sorted":Str) && c.blt y && z == ("set":Str) && c.blt z && aj l && aj u && ay c a u
 | .jrev a,x=>aQ x fun g xs cp=>gi g fun y n ap=>uz y fun j=>on1 xs fun l=>kZ l fun u r=>u7 r fun z=>wo z fun z1=>tR z1 fun i=>n == ("join":Str) && ap.endLine == cp.line && j == ("":Str) && i == 1 && ay c a u
 | .smx k a b,x=>aQ x fun g xs cp=>gi g fun y n ap=>on1 xs fun l=>n == Ah k && ap.endLine == cp.line && (cb y || vE y) && aj l && ay c a y && ay c b l
 | .part a s,x=>aQ x fun g xs cp=>gi g fun y n ap=>on1 xs fun l=>uz l fun j=>n == ("partition":Str) && ap.endLine == cp.line && j == s && !(s.length == 0) && cb y && ay c a y
 | .pcall i e,x=>c.pc && aQ x fun g xs _=>aE g fun y _=>on1 xs fun l=>c.N[i]? == some y && c.vis y && aj l && ay c e l
 | .hm e be caps,x=>i8 c.hm fun k=>aQ x fun g xs _=>aE g fun y _=>on2 xs fun l r=>HF r fun as b sc=>IE as fun z=>y == ("how_many":Str) && c.glb y && aj l && c.lamOk k z caps sc && ay c e l && ay (c.lam k z caps sc) be b
termination_by structural e=>e
noncomputable def eW (c:Cfg):Es->List Expr->Bool
 | .nil,xs=>xs.isEmpty
 | .cons e es,xs=>m_ xs fun y ys=>aj y && ay c e y && eW c es ys
termination_by structural e=>e
noncomputable def GV (c:Cfg):O->Option Expr->Bool
 | .no,x=>x.isNone
 | .yes e,x=>i8 x fun y=>ay c e y
termination_by structural e=>e
noncomputable def xF (c:Cfg):E->Expr->Bool
 | .not a,x=>Ax x fun y=>xF c a y
 | .bop k es,x=>AO x fun o xs=>(o == if k then .And else .Or) && !xs.isEmpty && jP c es xs
 | .cmp op a b,x=>l9 x fun l o r=>o == op && !behindInMarks o r && ay c a l && ay c b r
 | .var i,x=>aE x fun y _=>c.N[i]? == some y && c.vis y
 | .call f es,x=>aQ x fun g xs _=>aE g fun y _=>c.fn f y && xs.all aj && eW c es xs
 | .blt b es,x=>aQ x fun g xs _=>aE g fun y _=>y == lS b && c.blt y && xs.all aj && !xs.isEmpty && eW c es xs
 | .inst a t,x=>aQ x fun g xs _=>aE g fun y _=>on2 xs fun l r=>aE r fun z _=>y == ("isinstance":Str) && c.blt y && aj l && z == (t:Str) && c.blt z && kinds.contains t && ay c a l
 | .tmp a,x=>vZ x && ay c a x
 | .ix a b,x=>kZ x fun l r=>g9 r && ay c a l && ay c b r
 | .pcall i e,x=>c.pc && aQ x fun g xs _=>aE g fun y _=>on1 xs fun l=>c.N[i]? == some y && c.vis y && aj l && ay c e l
 | .eqd ne a b,x=>l9 x fun l o r=>(o == if ne then .NotEq else .Eq) && !behindInMarks o r && ay c a l && ay c b r
 | .un .isE a,x=>l9 x fun l o r=>qz r fun xs=>o == .Eq && xs.isEmpty && ay c a l
 | .un .rev _,_=>false
 | .un .ssT _,_=>false
 | .compO _ _ _ _ _ _,_ | .compK _ _ _ _ _ _ _,_ | .compD _ _ _ _ _ _ _ _,_ | .dcl _,_ | .dct2 _ _,_ | .hm _ _ _,_ | .bl _,_ | .int _,_ | .non,_ | .str _,_ | .gv _ _,_ | .tup _,_ | .lst _,_ | .dct0,_ | .dct1 _ _,_ | .bin _ _ _,_ | .neg _,_ | .ite _ _ _,_ | .sl _ _ _,_ | .met _ _ _,_ | .comp _ _ _ _ _ _,_ | .bad,_ | .jrev _,_ | .sset _,_ | .clr _,_ | .dcp _,_ | .dget _ _,_ | .part _ _,_ | .smx _ _ _,_=>true
termination_by structural e=>e
noncomputable def jP (c:Cfg):Es->List Expr->Bool
 | .nil,xs=>xs.isEmpty
 | .cons e es,xs=>m_ xs fun y ys=>xF c e y && jP c es ys
termination_by structural e=>e
noncomputable def B5 (c:Cfg):It->Expr->Bool
 | .seq e,x=>gy x && ay c e x
 | .range1 a,x=>aQ x fun g xs _=>aE g fun y _=>on1 xs fun l=>y == ("range":Str) && c.blt y && aj l && ay c a l
 | .range2 a b,x=>aQ x fun g xs _=>aE g fun y _=>on2 xs fun l r=>y == ("range":Str) && c.blt y && aj l && aj r && ay c a l && ay c b r
 | .zip a b,x=>aQ x fun g xs _=>aE g fun y _=>on2 xs fun l r=>y == ("zip":Str) && c.blt y && aj l && aj r && ay c a l && ay c b r
 | .zip3 a b d,x=>aQ x fun g xs _=>aE g fun y _=>on3 xs fun l r u=>y == ("zip":Str) && c.blt y && aj l && aj r && aj u && ay c a l && ay c b r && ay c d u
 | .enum a,x=>aQ x fun g xs _=>aE g fun y _=>on1 xs fun l=>y == ("enumerate":Str) && c.blt y && aj l && ay c a l
 | .chars e,x=>gy x && ay c e x
 | .range3 a b d,x=>aQ x fun g xs _=>aE g fun y _=>on3 xs fun l r u=>y == ("range":Str) && c.blt y && aj l && aj r && aj u && ay c a l && ay c b r && ay c d u
termination_by structural e=>e
noncomputable def gL (c:Cfg):Tg->Expr->Bool
 | .name i,x=>aE x fun y _=>c.N[i]? == some y && c.loc y
 | .tup ts,x=>eV x fun xs=>mZ c ts xs
 | .ltup ts,x=>eV x fun xs=>mZ c ts xs
 | .sub o i,x=>kZ x fun l r=>g9 r && ay c o l && ay c i r
 | .subO o i,x=>kZ x fun l r=>g9 r && ay c o l && ay c i r
termination_by structural e=>e
noncomputable def mZ (c:Cfg):Tgs->List Expr->Bool
 | .nil,xs=>xs.isEmpty
 | .cons t ts,xs=>m_ xs fun y ys=>aj y && gL c t y && mZ c ts ys
termination_by structural e=>e
end
end FW
namespace FW
open L2 HX
noncomputable def eC (K:W.Frag)(sp:FSp):Sp:=fun vs H Q _=>∃m st as,Rs K m H as vs/\RH K m H st/\sp as st (post K m H Q)
def GE (P:Program)(w:World)(K:W.Frag)(mg:Str->Option Value)(base:Heap)(k:Nat)(outer:List Env)(s:Shared)(H:Hp)(a:Addr)(L:FSp):Prop :=
 ∀(A':Around) (outer':List Env) (s':Shared) (H':Hp) (u:Value) (v:V) (Q':VK),Room k A'->yG P w K mg base A' outer' s' H'->Un (frs outer) [] H H' s.heap s'.heap->RelV v u->eC K L [v] H' Q' E0 ->
  W.FnAt a s'.heap/\codeAny (model P w) A' (.call (.ref a) ⟨[u],[]⟩) (CR CX0 outer' P w H' s' Q' E0) s'
def Ii (L:FSp):Prop:=∀as st Q Q',(∀v st,Q v st->Q' v st)->L as st Q->L as st Q'
def J_ (a:Nat)(L:FSp):FSp:=fun as st Q=>∃(xs:List PV) (g:PV->Bool),as=[.tup xs,.fn a]/\xs.length<=100000/\(∀y∈xs,∀Q':EK,Q' (.bl (g y)) st->L [y] st Q')/\Q (.int (bsr g xs)) st
structure JU (P:Program)(w:World)(K:W.Frag)(mg:Str->Option Value)(base:Heap)(k:Nat):Prop where
 ex:∃f fd,mg "how_many"=some (.ref f)/\W.keepIn K (.ref f)=true/\Binds K fd ["stair","holds"] [] /\
  ∀(a:Addr) (L:FSp),Ii L->∀(A:Around) (outer:List Env) (s:Shared) (H:Hp) (args:Args) (us:List Value) (vs:List V) (Q:VK),Room (k+1) A->yG P w K mg base A outer s H->BindsTo s fd args ((["stair","holds"]:List Str).zip us)->Vals vs us ->
   GE P w K mg base k outer s H a L->eC K (J_ a L) vs H Q E0->codeAny (model P w) A (.call (.ref f) args) (CR CX0 outer P w H s Q E0) s
structure HmX (X:Cx)(k:Nat):Prop where
 ok:JU X.prog X.w X.K X.mg X.base (k+1)
 cd:∃x c0 T,x∈bg/\W.tabIn X.K x=some (c0,T)/\X.env.code=.ref c0/\X.env.qual=x++".<locals>."/\W.CodeHd X.base c0 T
 bm:∃bm ob,X.mg "__builtins__"=some (.ref bm)/\bm≠builtinsNs/\X.base.get? bm=some ob/\ob.cls=.type "module"/\ob.dict=some builtinsNs/\ob.data=.plain
structure COk (X:Cx)(c:Cfg)(Γ:Nat->FSp):Prop where
 calm:X.calm=true
 pass:PassesOwn (model X.prog X.w) X.A X.env X.xe
 N:X.N=c.N
 nd:c.N.Nodup
 vis:∀x,c.names.lookup x=some .local\/c.names.lookup x=some .cell\/c.names.lookup x=some .free->Vis X.env.scope x
 loc:∀x,c.names.lookup x=some .local\/c.names.lookup x=some .cell->Loc X.env.scope x/\(X.fn x=true\/X.env.scope.names.lookup x=some .local)
 lcl:∀x,c.names.lookup x=some .local->X.env.scope.names.lookup x=some .local
 glb:∀x,c.names.lookup x=some .globalImplicit->Gl X x
 bk:X.env.blockKind=.function
 cel:∀x,c.names.lookup x=some .cell\/c.names.lookup x=some .free->X.env.kindOf x=some .cell\/X.env.kindOf x=some .free
 room:Room c.lim X.A
 fn:∀f x,f<c.lim->c.fns[f]?=some x->∃ps,Has X.prog X.w X.K X.mg X.base (f+1) x ps (eC X.K (Γ f))
 blt:∀x∈c.blts,X.mg x=none
 gl:∀x v,c.gl.lookup x=some v->∃u y,X.mg x=some u/\RelV y u/\∀m H,R X.K m H v y
 mono:bD Γ
 lam:c.pc=true->∀ {pins:List (Addr × Obj)}{σ:L2.St}{H:Hp}{s:Shared}{b:Addr}{u:Value}{v:V}{Q:VK},L2.Inv X pins σ H s->RelV v u->eC X.K (Γ 1000) [.ref b,v] H Q E0 ->
  W.FnAt b s.heap/\wpAny (model X.prog X.w) X.A (call (.ref b) [u]) (EP X pins σ Q) X.xe s
 hmo:∀k,c.hm=some k->HmX X k
section
variable {X:Cx}{c:Cfg}{Γ:Nat->FSp}
theorem COk.visx (C:COk X c Γ)(h:c.vis x=true):Vis X.env.scope x/\(x == ("__debug__":Str))=false/\(x == ("__classdict__":Str))=false:=by unfold Cfg.vis at h;simp only[Bool.and_eq_true,Bool.or_eq_true,beq_iff_eq,Bool.not_eq_true'] at h;exact⟨C.vis x (by rcases h.1.1 with (h|h)|h <;> simp[h]),h.1.2,h.2⟩
theorem COk.glbx (C:COk X c Γ)(h:c.glb x=true):Gl X x/\(x == ("__debug__":Str))=false/\x≠"__name__":=by unfold Cfg.glb at h;simp only[Bool.and_eq_true,beq_iff_eq,Bool.not_eq_true'] at h;exact⟨C.glb x h.1.1,h.1.2,fun z=>by rw[z] at h;exact absurd h.2 (by decide)⟩
theorem COk.bltx (C:COk X c Γ)(h:c.blt x=true):Gl X x/\(x == ("__debug__":Str))=false/\x≠"__name__"/\X.mg x=none:=by unfold Cfg.blt at h;rw[KM] at h;obtain⟨h1,h2,h3⟩:=C.glbx h.1;exact⟨h1,h2,h3,C.blt x (List.contains_iff_mem.mp h.2)⟩
theorem COk.fnx (C:COk X c Γ)(h:c.fn f x=true):Gl X x/\(x == ("__debug__":Str))=false/\Room (f+1) X.A/\∃ps,Has X.prog X.w X.K X.mg X.base (f+1) x ps (eC X.K (Γ f)):=by unfold Cfg.fn at h;simp only[Bool.and_eq_true,beq_iff_eq,decide_eq_true_eq] at h;obtain⟨h1,h2,h3⟩:=C.glbx h.2;exact⟨h1,h2,C.room.mono h.1.2,C.fn f x h.1.2 h.1.1⟩
theorem HD:∀b:B,bootBuiltins (lS b)=some (HH b):=by intro b;cases b <;> decide +kernel
theorem vY:∀t∈kinds,bootBuiltins (t:Str)=some (.type t):=by decide +kernel
theorem uC:bootBuiltins ("isinstance":Str)=some (.builtin "isinstance"):=by decide +kernel
theorem u6 (h:vZ x=true)(env:Env):∀whole,isTrue x env whole=(do let v <-whole;standAt x.pos;holding [v] (truthy v)):=by cases x <;> first|(intro _;rfl)|cases h
theorem uF (h:Rs K m H as vs):Rs K m H as (vs++[]):=by rw[M8];exact h
theorem ur (C:COk X c Γ){xs:List Expr}(hf:c.fn f y=true)(hn:xs.all aj=true)(hc:eW c es xs=true)(ha:PA X xs (TAx X.K (cC Γ es))) :
  PE X (.Call (.Name y p) xs [] pos) (TEx X.K fun ρ st Q=>cC Γ es ρ st fun vs st1=>Γ f vs st1 Q):=by
 obtain⟨h1,h2,hr,ps,F⟩:=C.fnx hf;have key:∀ {σ:L2.St}{H:Hp}{Q:VK},TEx X.K (fun ρ st Q=>cC Γ es ρ st fun vs st1=>Γ f vs st1 Q) σ H Q->pP (eC X.K (Γ f)) [] E0 (TAx X.K (cC Γ es)) σ H Q:=by rintro σ H Q ⟨m,ρ,st,rf,rh,w⟩;exact⟨m,ρ,st,rf,rh,aN C.mono es (fun vs st1 k m1 H1 xs1 e1 r1 r2=>⟨m1,st1,vs,uF r2,r1,C.mono _ _ _ _ _ (fun _ _ q=>q.ext e1) k⟩) w⟩
 intro pins s σ H Q I h;cases xs with
 | nil =>
  refine DB F hr h1 h2 pins s σ H Q I ?_;obtain⟨m,ρ,st,rf,rh,w⟩:=h;cases es with
  | nil=>exact⟨m,st,[],Rs_nil.mpr rfl,rh,w⟩
  | cons e es=>exact Bool.noConfusion (show false=true from hc)
 | cons x xs =>rw[MD,KM] at hn;exact CM F hr ha h1 h2 hn.1 hn.2 pins s σ H Q I (key h)
theorem tj (C:COk X c Γ){y:Str}{xs:List Expr}(hy:y=lS b)(hb:c.blt y=true)(hn:xs.all aj=true)(hne:xs.isEmpty=false)(ha:PA X xs (TAx X.K (cC Γ es))) :
  PE X (.Call (.Name y p) xs [] pos) (TEx X.K fun ρ st Q=>cC Γ es ρ st fun vs st1=>cP b vs st1 Q):=by
 obtain⟨h1,h2,h3,h4⟩:=C.bltx hb;have hv:=HD b;rw[<-hy] at hv;have key:∀ {σ:L2.St}{H:Hp}{Q:VK},TEx X.K (fun ρ st Q=>cC Γ es ρ st fun vs st1=>cP b vs st1 Q) σ H Q->tCB (Js X.K (cP b)) (TAx X.K (cC Γ es)) σ H Q:=by rintro σ H Q ⟨m,ρ,st,rf,rh,w⟩;exact⟨m,ρ,st,rf,rh,aN C.mono es (fun vs st1 k m1 H1 xs1 e1 r1 r2=>⟨m1,st1,vs,r1,r2,hV (fun _ _ q=>q.ext e1) k⟩) w⟩
 have hc:=GY C.calm C.room.gd C.room.units b;cases xs with
 | nil=>cases hne
 | cons x xs =>
  rw[MD,KM] at hn;intro pins s σ H Q I h;cases b <;> first
   | exact j8 hc h1 h4 hv ha h3 h2 hn.1 hn.2 pins s σ H Q I (key h)
   | exact i5 hc h1 h4 hv ha h3 h2 hn.1 hn.2 pins s σ H Q I (key h)
theorem xS (m:M):PlainAttrs "list"/\Slot "list" (q_ m) (xk m)/\typeOf (.builtin (xk m))=pure (.type "method_descriptor"):=by
 cases m
 ·exact⟨MC,PySem.F.slot_list_append,PySem.F.type_list_append⟩
 ·exact⟨MC,PySem.F.slot_list_pop,PySem.F.type_list_pop⟩
 ·exact⟨MC,PySem.F.slot_list_extend,PySem.F.type_list_extend⟩
 ·exact⟨MC,PySem.F.slot_list_insert,PySem.F.type_list_insert⟩
 ·exact⟨MC,PySem.F.slot_list_count,PySem.F.type_list_count⟩
 ·exact⟨MC,PySem.F.slot_list_index,PySem.F.type_list_index⟩
 ·exact⟨MC,PySem.F.slot_list_pop,PySem.F.type_list_pop⟩
theorem d_ (h:cb y=true):attributeBase y n env w=w:=by cases y <;> first|rfl|cases h
theorem AV (C:COk X c Γ){n:Str}{ap cp:Pos}{xs:List Expr}(hn:n=q_ m)(hl:(ap.endLine == cp.line)=true)(hs:xs.all aj=true)(h2:xs.length<=2)(hy:cb y=true)(ho:PE X y (TEx X.K (wpE Γ o)))(ha:PA X xs (TAx X.K (cC Γ es)))(hc:eW c es xs=true) :
  PE X (.Call (.Attribute y n ap) xs [] cp) (TEx X.K (wpE Γ (.met m o es))):=by
 obtain⟨pa,slot,ty⟩:=xS m;rw[<-hn] at slot;have hm:MtR X (xk m) (Ip X.K (sg m)):=Gk m;intro pins s σ H Q I h;obtain⟨mm,ρ,st,rf,rh,w⟩:=h
 skip
 have tyv:∀ {m1:List Addr} {H1:Hp} {st1:AH} {v:PV} {x:V},RH X.K m1 H1 st1->R X.K m1 H1 v x->(∃xs,aT st1 v=some xs)->tyV X.K "list" x H1:=by rintro m1 H1 st1 v x r1 r2 ⟨xs,e⟩;obtain⟨a,ys,rfl,g,_⟩:=bX r1 r2 e;exact .inl ⟨rfl,ys,g⟩
 match xs,hs,h2,ha,hc with
 | [],hs,h2,ha,hc =>
  refine vR pa slot ty hm ho (d_ hy) hl pins s σ H Q I ?_;refine⟨mm,ρ,st,rf,rh,ae C.mono o (fun v st1 k m1 H1 x1 e1 r1 r2=>⟨tyv r1 r2 k.1,?_⟩) w⟩;cases es with
  | nil =>
   have k2:=k.2
   skip
   exact⟨m1,st1,v,[],r1,r2,Rs_nil.mpr rfl,ig (fun _ _ q=>q.ext e1) k2⟩
  | cons e es=>exact Bool.noConfusion (show false=true from hc)
 | [a],hs,h2,ha,hc =>simp only[List.all_cons,List.all_nil,Bool.and_true] at hs;have st1:starEach [a] X.env=[(false,eval a X.env)]:=bO hs;refine Cq pa slot ty hm ho ha (d_ hy) (by rw[st1];rfl) hl st1 rfl pins s σ H Q I ?_;refine⟨mm,ρ,st,rf,rh,ae C.mono o (fun v st1 k m1 H1 x1 e1 r1 r2=>⟨tyv r1 r2 k.1,?_⟩) w⟩;exact⟨m1,ρ,st1,rf.mono e1,r1,aN C.mono es (fun vs st2 k m2 H2 xs2 e2 r3 r4=>⟨m2,st2,v,vs,r3,r2.mono e2,r4,ig (fun _ _ q=>q.ext (e1.trans e2)) k⟩) k.2⟩
 | [a,b],hs,h2,ha,hc =>simp only[List.all_cons,List.all_nil,Bool.and_true,Bool.and_eq_true] at hs;have stb:starEach [b] X.env=[(false,eval b X.env)]:=bO hs.2;have st1:starEach [a,b] X.env=(false,eval a X.env)::starEach [b] X.env:=bO hs.1;refine Cq pa slot ty hm ho ha (d_ hy) (by rw[st1,stb];rfl) hl st1 (by rw[stb];rfl) pins s σ H Q I ?_;refine⟨mm,ρ,st,rf,rh,ae C.mono o (fun v st1 k m1 H1 x1 e1 r1 r2=>⟨tyv r1 r2 k.1,?_⟩) w⟩;exact⟨m1,ρ,st1,rf.mono e1,r1,aN C.mono es (fun vs st2 k m2 H2 xs2 e2 r3 r4=>⟨m2,st2,v,vs,r3,r2.mono e2,r4,ig (fun _ _ q=>q.ext (e1.trans e2)) k⟩) k.2⟩
 | _::_::_::_,hs,h2,ha,hc=>simp at h2
mutual
theorem PV.bel_le {i j:Nat}(h:i<=j):∀ {v:PV},v.bel i=true->v.bel j=true
 | .non,_=>by rw[PV.bel]
 | .bl _,_=>by rw[PV.bel]
 | .int _,_=>by rw[PV.bel]
 | .str _,_=>by rw[PV.bel]
 | .ref n,z=>by rw[PV.bel] at z |-;have:=LL z;exact LF (by omega)
 | .tup xs,z=>by rw[PV.bel] at z |-;exact PV.bels_le h z
 | .rdl xs,z=>by rw[PV.bel] at z |-;exact PV.bels_le h z
 | .fn _,z=>by rw[PV.bel] at z;cases z
theorem PV.bels_le {i j:Nat}(h:i<=j):∀ {vs:List PV},PV.bels i vs=true->PV.bels j vs=true
 | [],_=>by rw[PV.bels]
 | v::vs,z=>by rw[PV.bels,KM] at z |-;exact⟨PV.bel_le h z.1,PV.bels_le h z.2⟩
end
theorem wK (C:COk X c Γ){t:String}{y:Str}(h:(y == ("isinstance":Str) && c.blt y && aj l && z == (t:Str) && c.blt z && kinds.contains t)=true)(ha:PE X l (TEx X.K (wpE Γ a))) :
  PE X (.Call (.Name y p) [l,.Name z q] [] pos) (TEx X.K (wpE Γ (.inst a t))):=by
 simp only[Bool.and_eq_true,beq_iff_eq] at h;obtain⟨⟨⟨⟨⟨h1,h2⟩,h3⟩,h4⟩,h5⟩,h6⟩:=h;subst h1 h4;have ht:t∈kinds:=List.contains_iff_mem.mp h6;obtain⟨g1,g2,g3,g4⟩:=C.bltx h2;obtain⟨k1,k2,k3,k4⟩:=C.bltx h5;rintro pins s σ H Q I ⟨m,ρ,st,rf,rh,w⟩
 skip
 have pt:PE X (.Name (t:Str) q) (tC (.ty t)):=Do k1 k4 (vY t ht) rfl k3 k2;have hA:PA X [l,.Name (t:Str) q] (lg (TEx X.K (wpE Γ a)) (lg (tC (.ty t)) tU)):=pac ha (pac pt eI) h3;have hC:dj X (.builtin "isinstance") (fun xs H Q=>∃m st x y n,RH X.K m H st/\R X.K m H x y/\xs=[y,.ty t]/\bc st x=some n/\Q (.bl (aH t n)) H):=by rintro pins s σ H xs us Q I r ⟨m,st,x,y,n,r1,r2,rfl,e,q⟩;obtain⟨u,v,rfl,ru,rv⟩:=ug r;cases (show v=Value.type t from rv);exact DV (K:=X.K) I r1 r2 ru e ht fun tk=>⟨.bl _,H,I.tok tk,rfl,q⟩
 refine j8 hC g1 g4 uC hA g3 g2 h3 rfl pins s σ H Q I ?_;refine⟨m,ρ,st,rf,rh,ae C.mono a (fun v st1 k m1 H1 x1 e1 r1 r2=>?_) w⟩;obtain⟨n,e,k⟩:=k;exact⟨m1,st1,v,x1,n,r1,r2,rfl,e,(k.ext e1).here r1 (R_bl.mpr rfl)⟩
theorem AG (C:COk X c Γ){i:Nat}(h:(c.N[i]? == some y && c.vis y)=true):PE X (.Name y p) (TEx X.K (wpE Γ (.var i))):=by simp only[Bool.and_eq_true,beq_iff_eq] at h;obtain⟨h1,h2,h3⟩:=C.visx h.2;rintro pins s σ H Q I ⟨m,ρ,st,rf,rh,w⟩;obtain⟨v,e,w⟩:=js w;obtain⟨y,e2,r⟩:=rf.at_ i v e;exact Ho (by rw[C.N];exact h.1) h1 h2 h3 pins s σ H Q I ⟨y,e2,w.here rh r⟩
theorem qH (rh:RH K m H st)(e:Ext K m H m' H')(rh':RH K m' H' st')(r:R K m' H' v x)(q:Tmp st Q v st') :
  ∃st1,Q v st1/\Ext K m H m H'/\RH K m H' st1/\R K m H' v x:=by
 obtain⟨st1,g,rfl,hl,hs,hb,q⟩:=q;have hm:m'.take m.length=m:=by obtain⟨t,ht⟩:=e.pre;rw[<-ht,List.take_left]
 have hlen:m.length=st.length:=rh.len;refine⟨st1,q,⟨NZ _,fun _ z=>.inl z,e.fr,e.tup,e.rdf,e.tbs,e.tb,e.frz⟩,⟨by rw[hl,hlen],rh.nd,fun n c a h1 h2=>?_,e.tb rh.tb⟩,?_⟩
 ·have hn:n<st1.length:=(KQ.mp h1).1;have c1:CellR K m' H' c a:=rh'.at_ n c a (by rw[K9 hn];exact h1) (eU e.pre h2);have hc:c.bec m.length=true:=by
   rcases hs n (by omega) with z|⟨c',z,zb⟩
   ·rw[h1] at z;exact(rh.at_ n c a z.symm h2).bel
   ·rw[h1] at z;cases z;have zb':∀ {c:Cell},c.bel 0=true->c.bec m.length=true:=by
     have b0:∀(xs:List PV),PV.bels 0 xs=true->PV.becs m.length xs=true:=fun xs h=>PV.bels_becs (LS _) h;intro c h;cases c with
     | lst xs=>exact b0 _ h
     | dk kvs=>exact b0 _ h
     | fz kvs=>cases h
     | od kvs=>cases h
    exact zb' zb
  have:=c1.cut hc;rw[hm] at this;exact this
 ·have:=r.cut (k:=m.length) (by rw[hlen];exact PV.bel_bec (KJ _) hb);rw[hm] at this;exact this
noncomputable def postF (K:W.Frag)(m:List Addr)(H:Hp)(Q:L2.St->Hp->Prop):Fr->AH->Prop:=fun ρ' st'=>∀m' H' σ',Ext K m H m' H'->RH K m' H' st'->RF K m' H' ρ' σ'->Q σ' H'
theorem postF.ext (x:Ext K m H m1 H1)(q:postF K m H Q ρ st):postF K m1 H1 Q ρ st:=fun m' H' σ' e r s=>q m' H' σ' (x.trans e) r s
theorem postF.here (q:postF K m H Q ρ st)(h:RH K m H st)(r:RF K m H ρ σ):Q σ H:=q m H σ (Ext.refl _ _ _) h r
noncomputable def TGx (K:W.Frag)(w:PV->Fr->AH->(Fr->AH->Prop)->Prop):TG:=fun v' σ H Q=>∃m ρ st v,RF K m H ρ σ/\RH K m H st/\R K m H v v'/\w v ρ st (postF K m H Q)
noncomputable def Kd (K:W.Frag)(w:List PV->Fr->AH->(Fr->AH->Prop)->Prop):TGs:=fun v' σ H Q=>∃m ρ st v,RF K m H ρ σ/\RH K m H st/\Rs K m H v v'/\w v ρ st (postF K m H Q)
theorem COk.locx (C:COk X c Γ)(h:c.loc x=true):Loc X.env.scope x/\(X.fn x=true\/X.env.scope.names.lookup x=some .local):=by unfold Cfg.loc at h;simp only[Bool.or_eq_true,beq_iff_eq] at h;exact C.loc x h
theorem COk.ndX (C:COk X c Γ):X.N.Nodup:=by rw[C.N];exact C.nd
theorem iI {es:List Expr}(h:aj e=true):assignEach (e::es) env=(false,assign e env)::assignEach es env:=by cases e <;> first|rfl|cases h
theorem nH:∀ {ts:Tgs}{xs:List Expr}{env:Env},mZ c ts xs=true->(assignEach xs env).length=ts.size/\(assignEach xs env).findIdx? (·.1)=none
 | .nil,xs,env,h=>by
  have h:xs.isEmpty=true:=h;cases xs with
  | nil=>exact⟨rfl,rfl⟩
  | cons _ _=>cases h
 | .cons t ts,xs,env,h=>by
  replace h:=aS h;obtain⟨y,ys,rfl,h⟩:=h
  ·simp only[Bool.and_eq_true] at h;obtain⟨⟨h1,h2⟩,h3⟩:=h;obtain⟨g1,g2⟩:=nH (env:=env) h3;rw[iI h1];exact⟨by simp[g1,Tgs.size],by simp[List.findIdx?_cons,g2]⟩
structure lJ (K:W.Frag)(J:L2.It)(xs:List PV)(chk:AH->Prop)(m0:List Addr)(H0:Hp):Prop where
 stop:∀m H st,Ext K m0 H0 m H->RH K m H st->chk st->J.stop xs.length H
 item:∀(i:Nat) v m H st,Ext K m0 H0 m H->RH K m H st->chk st->xs[i]?=some v->J.go i H/\∀x H',J.yld i H x H'->Ext K m H m H'/\RH K m H' st/\R K m H' v x
noncomputable def TIx (K:W.Frag)(w:Fr->AH->(List PV->(AH->Prop)->AH->Prop)->Prop):TI:=fun σ H Rr=>∃m ρ st,RF K m H ρ σ/\RH K m H st /\
 w ρ st fun xs chk st1=>∀m1 H1 J,Ext K m H m1 H1->RH K m1 H1 st1->lJ K J xs chk m1 H1->Rr J H1
theorem mj (h:gy x=true):∀v,foldedSetIterable x env v=pure v:=by cases x <;> first|(intro _;rfl)|cases h
theorem F3 {tl:TE}(hl:PE X l tl):PI X tg l (fun σ H Rr=>tl σ H fun x H1=>∃a,x=.ref a/\((∃xs,SqL X.K H1 a xs)/\Rr (Itl X.K a) H1\/(∃xs,SqT X.K H1 a xs)/\Rr (Itt X.K a) H1)):=by
 intro pins s σ H Rr I h;refine thn (hl pins s σ H _ I h) fun v s1 ⟨x,H1,I1,r1,q1⟩=>?_;obtain⟨a,e,q1⟩:=q1;subst e;cases r1;rcases q1 with⟨⟨xs,hq⟩,q⟩|⟨⟨xs,hq⟩,q⟩
 ·obtain⟨its,rv,p,hz⟩:=I1.list hq;refine wpAny_pyIter_list p.isList ?_;refine⟨s1.heap.objs.size,[s1.heap.objs.size],_,_,H1,rfl,I1.kept (t':=s1.toks) fun b o e=>KH _ e,yE a _,⟨_,KL _ rfl,rfl,rfl⟩,fun b hb=>?_,q⟩;have e:b=s1.heap.objs.size:=by simpa using hb
  subst e;exact I1.fpOk (KJ _) (I1.hok.fresh (KJ _))
 ·obtain⟨its,rv,p,hz⟩:=I1.tuple hq;refine wpAny_pyIter_tuple (show s1.heap.IsTuple a its.toArray from p) ?_;refine⟨s1.heap.objs.size,[s1.heap.objs.size],_,_,H1,rfl,I1.kept (t':=s1.toks) fun b o e=>KH _ e,vK a _,⟨_,KL _ rfl,rfl,rfl⟩,fun b hb=>?_,q⟩;have e:b=s1.heap.objs.size:=by simpa using hb
  subst e;exact I1.fpOk (KJ _) (I1.hok.fresh (KJ _))
theorem yP {n:Nat}(rh:RH K m0 H0 st0)(e:st0[n]?=some (.lst xs))(ea:m0[n]?=some a):lJ K (Itl K a) xs (fun st'=>st'[n]?=st0[n]?) m0 H0:=by
 have get:∀m H st,Ext K m0 H0 m H->RH K m H st->st[n]?=st0[n]?->∃ys,H a=some (.lst ys)/\Rs K m H xs ys:=fun m H st x r q=>by rw[e] at q;exact r.at_ n _ a q (eU x.pre ea)
 refine⟨fun m H st x r q=>?_,fun i v m H st x r q ev=>?_⟩
 ·obtain⟨ys,h1,h2⟩:=get m H st x r q;exact⟨ys,SqL.of h1,by rw[h2.len];exact KJ _⟩
 ·obtain⟨ys,h1,h2⟩:=get m H st x r q;obtain⟨y,e1,r1⟩:=h2.get ev;refine⟨⟨ys,y,SqL.of h1,e1⟩,fun z H' ⟨e2,e3⟩=>?_⟩;subst e2;have:=e3 ys (SqL.of h1);rw[e1] at this;cases this;exact⟨Ext.refl _ _ _,r,r1⟩
theorem Aa (h:RdF K H0 a ys)(r0:Rs K m0 H0 xs ys):lJ K (Itl K a) xs (fun _=>True) m0 H0:=by refine⟨fun m H st x r q=>⟨ys,(x.rdf _ _ h).sq,by rw[r0.len];exact KJ _⟩,fun i v m H st x r q ev=>?_⟩;obtain⟨y,e1,r1⟩:=(r0.mono x).get ev;refine⟨⟨ys,y,(x.rdf _ _ h).sq,e1⟩,fun z H' ⟨e2,e3⟩=>?_⟩;subst e2;have:=e3 ys (x.rdf _ _ h).sq;rw[e1] at this;cases this;exact⟨Ext.refl _ _ _,r,r1⟩
theorem B' (h:SqT K H0 a ys)(r0:Rs K m0 H0 xs ys):lJ K (Itt K a) xs (fun _=>True) m0 H0:=by refine⟨fun m H st x r q=>⟨ys,x.tup _ _ h,by rw[r0.len];exact KJ _⟩,fun i v m H st x r q ev=>?_⟩;obtain⟨y,e1,r1⟩:=(r0.mono x).get ev;refine⟨⟨ys,y,x.tup _ _ h,e1⟩,fun z H' ⟨e2,e3⟩=>?_⟩;subst e2;have:=e3 ys (x.tup _ _ h);rw[e1] at this;cases this;exact⟨Ext.refl _ _ _,r,r1⟩
theorem vt:lJ K (Itr lo n) (bU lo n) (fun _=>True) m0 H0:=by
 refine⟨fun m H st x r q=>by show n<=_;simp[bU],fun i v m H st x r q ev=>?_⟩;unfold bU at ev;rw[K2] at ev;have hi:i<n:=by
  by_cases hi:i<n
  ·exact hi
  ·rw[L4 (by simp;omega)] at ev;cases ev
 rw[List.getElem?_range hi] at ev;cases ev;refine⟨hi,fun z H' ⟨e2,e3⟩=>?_⟩;subst e2 e3;exact⟨Ext.refl _ _ _,r,R_int.mpr rfl⟩
end
end FW
namespace FW
open L2 HX
section
variable {X:Cx}{c:Cfg}{Γ:Nat->FSp}
theorem y7 {σ:L2.St}(I:L2.Inv X pins σ H s)(d:Drawn):L2.Inv X pins σ H { s with drawn:=d } :=
 ⟨I.ok,I.os,I.bare,I.base,I.loc,I.cell,I.free,I.freeC,I.pin,I.hok,I.len⟩
noncomputable def KD (prog:Program)(w:World)(a:Addr)(ns:List Int):HO:=.ext fun h=>SetZ (Kr prog w) (!(byT w)) h a ns
noncomputable def DC (prog:Program)(w:World)(a:Addr)(ns:List Str):HO:=.ext fun h=>SetZ (t8 prog w) (!(byT w)) h a ns
theorem wZ:∀ {us:List Value}{ns:List Str},Vals (ns.map V.str) us->∀(i:Nat) v,us[i]?=some v->∃t,v=.str (ns.getD i Str.empty) t
 | _,[],h,i,v,e=>by cases h;simp at e
 | _,n::ns,h,i,v,e=>by
  cases h with
  | cons r1 r2 =>
   cases i with
   | zero=>simp at e;subst e;obtain⟨t,rfl⟩:=r1;exact⟨t,rfl⟩
   | succ i=>obtain⟨t,q⟩:=wZ r2 i v (by simpa using e);exact⟨t,by simpa using q⟩
theorem yk (hcalm:X.calm=true):dj X (.type "set") (fun xs H Q=>∃p ns,xs=[V.ref p]/\(SqL X.K H p (ns.map V.str)\/SqT X.K H p (ns.map V.str))/\ns.length<60/\∀a,H a=none->Q (.ref a) (upd H a (DC X.prog X.w a ns))):=by
 rintro pins s σ H xs us Q I r ⟨p,ns,rfl,hp,hn,q⟩;obtain⟨u,rfl,ru⟩:=cR r;cases ru;have fin:∀ {h':Heap}{tk:Nat},SetZ (t8 X.prog X.w) (!(byT X.w)) h' s.heap.objs.size ns->(∀b o,b<s.heap.objs.size->s.heap.get? b=some o->h'.get? b=some o)->EP X pins σ Q (.ref s.heap.objs.size) { s with heap:=h',toks:=tk }:=fun {h' tk} hZ k=>by refine⟨.ref s.heap.objs.size,_,I.laid (t':=tk) (fun b u e=>k b u (KS e) e) (KJ _) (show ObjOk X.prog X.w _ _ _ (DC X.prog X.w s.heap.objs.size ns) from ⟨hZ,?_,fun h1 h2 z e=>z.at e⟩),rfl,q _ (I.hok.fresh (KJ _))⟩;obtain⟨es,ep,t,ho,_⟩:=hZ;exact⟨_,ho⟩
 have val:∀ {its:List Value},Vals (ns.map V.str) its->(∀(i:Nat) (v:Value),its.toArray[i]?=some v->(t8 X.prog X.w).knd.is ((fun i=>ns.getD i Str.empty) i) v=true)/\(List.range its.toArray.size).map (fun i=>ns.getD i Str.empty)=ns/\its.toArray.size<900:=fun {its} ri=>by
  have ln:ns.length=its.length:=by simpa using ri.length
  refine⟨fun i v hv=>?_,?_,by rw[K3];omega⟩
  ·obtain⟨t,rfl⟩:=wZ ri i v (by simpa using hv);exact(beq_self_eq_true _:(ns.getD i Str.empty == ns.getD i Str.empty)=true)
  ·refine NG (by simp[ln]) fun i h1 h2=>?_;simp[List.getElem?_eq_getElem h2]
 rcases hp with hp|hp
 ·obtain⟨its,ri,pl,_⟩:=I.list hp;obtain⟨v1,v2,v3⟩:=val ri;exact yW (SS:=t8 X.prog X.w) (I.ok.hd hcalm) pl.isList _ v1 v2 v3 fun h' tk hZ k=>fin hZ k
 ·obtain⟨its,ri,pl,_⟩:=I.tuple hp;obtain⟨v1,v2,v3⟩:=val ri;exact vm (SS:=t8 X.prog X.w) (I.ok.hd hcalm) pl _ v1 v2 v3 fun h' tk hZ k=>fin hZ k
theorem rV (hcalm:X.calm=true):dj X (.builtin "sorted") (fun xs H Q=>∃p ns,xs=[V.ref p]/\H p=some (DC X.prog X.w p ns)/\ns.length<60/\∀ns':List Str,sortedS ns'=true->ns'.Nodup->(∀i,i∈ns'↔i∈ns)->ns'.length<=ns.length->∀l,H l=none->Q (.ref l) (upd H l (.lst (ns'.map V.str)))):=by rintro pins s σ H xs us Q I r ⟨p,ns,rfl,hp,hn,q⟩;obtain⟨u,rfl,ru⟩:=cR r;cases ru;have hZ:SetZ (t8 X.prog X.w) (!(byT X.w)) s.heap p ns:=(I.hok p _ hp).1;refine uQ (I.ok.hd hcalm) hZ (by omega) fun h' tk d l out e ns' k zl he a1 a2 a2' a3 a4=>?_;refine⟨.ref l,_,(y7 I d).laid (t':=tk) (fun b u e=>k b u (KS e) e) zl (show ObjOk X.prog X.w _ _ _ (.lst (ns'.map V.str)) from ⟨?_,out.toList,e,fA a1,he⟩),rfl,q ns' a2 a2' a3 a4 _ (I.hok.fresh zl)⟩;rw[LA];exact L0 (cZ (by omega))
theorem jb:∀ {ns:List Str}{ys:List V},Rs K m H (ns.map PV.str) ys->ys=ns.map V.str
 | [],ys,h=>by rw[L6,Rs_nil] at h;exact h
 | n::ns,ys,h=>by rw[KO,Rs_cons] at h;obtain⟨y,r,rfl,h1,h2⟩:=h;rw[R_str] at h1;rw[h1,jb h2];rfl
theorem GO (C:COk X c Γ){y z:Str}{u:Expr}(h1:y="sorted")(h2:c.blt y=true)(h3:z="set")(h4:c.blt z=true)(h5:aj (.Call (.Name z p4) [u] [] p3)=true)(h6:aj u=true)(ha:PE X u (TEx X.K (wpE Γ a))) :
  PE X (.Call (.Name y p2) [.Call (.Name z p4) [u] [] p3] [] p) (TEx X.K (wpE Γ (.un .ssT a))):=by
 obtain⟨a1,a2,a3,a4⟩:=C.bltx h2;obtain⟨b1,b2,b3,b4⟩:=C.bltx h4;have v1:bootBuiltins y=some (.builtin "sorted"):=by rw [h1];decide +kernel
 have v2:bootBuiltins z=some (.type "set"):=by rw [h3];decide +kernel
 have inner:=i5 (pos:=p3) (p:=p4) (yk C.calm) b1 b4 v2 (pac ha eI h6) b3 b2 h6 rfl;intro pins s σ H Q I h;refine j8 (pos:=p) (p:=p2) (rV C.calm) a1 a4 v1 (pac inner eI h5) a3 a2 h5 rfl pins s σ H Q I ?_;obtain⟨m,ρ,st,rf,rh,w⟩:=h;refine⟨m,ρ,st,rf,rh,ae C.mono a (fun v st1 k m1 H1 x1 e1 r1 r2=>?_) w⟩;obtain⟨ns,hq,h2,k⟩:=k;have src:∃b,x1=.ref b/\(SqL X.K H1 b (ns.map V.str)\/SqT X.K H1 b (ns.map V.str)):=by
  cases v with
  | ref n =>
   have hq:aT st1 (.ref n)=some (ns.map PV.str):=hq;have:st1[n]?=some (.lst (ns.map PV.str)):=by
    unfold aT at hq;simp only at hq;split at hq
    ·rename_i xs e;cases hq;exact e
    ·cases hq
   obtain⟨b,ys,rfl,eb,gg,ry⟩:=r1.lst this r2;rw[jb ry] at gg;exact⟨b,rfl,.inl (SqL.of gg)⟩
  | tup xs =>cases hq;rw[R_tup] at r2;obtain⟨b,ys,rfl,gg,ry⟩:=r2;rw[jb ry] at gg;exact⟨b,rfl,.inr gg⟩
  | rdl xs =>cases hq;obtain⟨b,ys,rfl,gg,ry⟩:=R_rdl.mp r2;rw[jb ry] at gg;exact⟨b,rfl,.inl gg.sq⟩
  | _=>cases hq
 obtain⟨b,rfl,gg⟩:=src;refine⟨b,ns,rfl,gg,h2,fun q hq=>⟨q,ns,rfl,aA,h2,fun ns' p0 p1 p2 p3 l hl=>?_⟩⟩;have rr:=r1.newT (o:=DC X.prog X.w q ns) hq;exact k ns' p0 p1 p2 p3 _ _ _ ((e1.trans (Ext.newT r1 hq)).trans (Ext.new1 rr hl)) (rr.newL hl rB) (R.last rr.len)
theorem uL:dj X (.type "dict") (fun xs H Q=>∃p kvs,xs=[V.ref p]/\H p=some (.dK kvs)/\∀a,H a=none->Q (.ref a) (upd H a (.dK kvs))):=by rintro pins s σ H xs us Q I r ⟨p,kvs,rfl,hp,q⟩;obtain⟨u,rfl,ru⟩:=cR r;cases ru;exact zE I (.inl hp) fun a s' ha I'=>⟨.ref a,_,I',rfl,q a ha⟩
theorem F7 (C:COk X c Γ){y:Str}(h1:y="dict")(h2:c.blt y=true)(h6:aj u=true)(ha:PE X u (TEx X.K (wpE Γ a))):PE X (.Call (.Name y p2) [u] [] p) (TEx X.K (wpE Γ (.dcp a))):=by
 obtain⟨a1,a2,a3,a4⟩:=C.bltx h2;have v1:bootBuiltins y=some (.type "dict"):=by rw [h1];decide +kernel
 intro pins s σ H Q I h;refine i5 (pos:=p) (p:=p2) uL a1 a4 v1 (pac ha eI h6) a3 a2 h6 rfl pins s σ H Q I ?_;obtain⟨m,ρ,st,rf,rh,w⟩:=h;refine⟨m,ρ,st,rf,rh,ae C.mono a (fun v st1 k m1 H1 x1 e1 r1 r2=>?_) w⟩;obtain⟨n,rfl,kvs,h1,k⟩:=k;obtain⟨b,ys,rfl,eb,g,r3,r4⟩:=r1.dkat h1 r2;refine⟨b,ys,rfl,g,fun q hq=>?_⟩;exact k _ _ _ (e1.trans (Ext.new1 r1 hq)) (r1.new1 hq ⟨ys,aA,r3,r4.mono (Ext.new1 r1 hq)⟩) (R.last r1.len)
end
end FW
namespace FW
open L2 HX
section
variable {X:Cx}{pins:List (Addr × Obj)}{σ:L2.St}{H:Hp}{s:Shared}{h':Heap}
theorem CU {t':Nat}{wr:List Addr}(I:L2.Inv X pins σ H s)(k:∀b o,b ∉ wr->s.heap.get? b=some o->h'.get? b=some o)(hf:∀b∈wr,kn X pins H b):L2.Inv X pins σ H { s with heap:=h',toks:=t' }:=by
 have nit:∀b u,H b=some u->b ∉ wr:=fun b u e z=>by rw[(hf b z).1] at e;cases e
 refine I.step (g':=s.gens) (d':=s.drawn) (ch:=wr) (fun b hb=>⟨(hf b hb).2.2.2.1,(hf b hb).2.1,(hf b hb).2.2.2.2.1,(hf b hb).2.2.2.2.2⟩) (fun b o _ _ hc e _=>k b o hc e) (fun b o _ _ hc e _=>⟨o.slots,k b o hc e⟩) (fun _ _ _ _ n=>n)
  (fun b o hc e=>⟨o,k b o hc e⟩) (fun _ _ e=>e) (fun _ _ _ e=>e) (fun b ps e=>⟨#[],by rw[e];simp⟩) (fun m hm=>?_) (fun b u e=>?_) I.bare
 ·obtain⟨o,es,ep,ho,r⟩:=hm;exact⟨o,es,ep,k _ o (fun z=>(hf _ z).2.1 rfl) ho,r⟩
 ·refine(I.hok b u e).stay (fun c v hc q=>k c v ?_ q) (fun _ q=>q) fun _ _ q=>q;rcases hc with z|z
  ·rw[z];exact nit b u e
  ·exact nit c _ z
theorem rP {t':Nat}{wr:List Addr}{T:Addr}{xs:List V}{its:List Value}(I:L2.Inv X pins σ H s)(k:∀b o,b ∉ wr->s.heap.get? b=some o->h'.get? b=some o)(hf:∀b∈wr,kn X pins H b)
  (hT:s.heap.objs.size<=T) (hx:Vals xs its) (hz:xs.length<=sizeLine) (ht:h'.IsTuple T its.toArray):L2.Inv X pins σ (upd H T (.tup xs)) { s with heap:=h',toks:=t' }:=by
 have nit:∀b u,H b=some u->b ∉ wr:=fun b u e z=>by rw[(hf b z).1] at e;cases e
 have hn:H T=none:=I.hok.fresh hT;have up:∀b u,H b=some u->upd H T (.tup xs) b=some u:=fun b u e=>by rw[ag (ao e hn)];exact e
 refine I.step (g':=s.gens) (d':=s.drawn) (ch:=wr) (fun b hb=>⟨(hf b hb).2.2.2.1,(hf b hb).2.1,(hf b hb).2.2.2.2.1,(hf b hb).2.2.2.2.2⟩) (fun b o _ _ hc e _=>k b o hc e) (fun b o _ _ hc e _=>⟨o.slots,k b o hc e⟩)
  (fun b o _ e n=>by rw[ag (K0 (KZ (KS e) hT))];exact n)
  (fun b o hc e=>⟨o,k b o hc e⟩) (fun b _ e=>up b _ e) (fun b _ _ e=>up b _ e) (fun b ps e=>⟨#[],by rw[up b _ e];simp⟩) (fun m hm=>?_) (fun b u e=>?_) I.bare
 ·obtain⟨o,es,ep,ho,r⟩:=hm;exact⟨o,es,ep,k _ o (fun z=>(hf _ z).2.1 rfl) ho,r⟩
 ·by_cases hb:b=T
  ·subst hb;rw[aA] at e;cases e;exact⟨hz,its,hx,ht⟩
  ·rw[ag hb] at e;refine(I.hok b u e).stay (fun c v hc q=>k c v ?_ q) (fun c q=>up c _ q) fun c _ q=>up c _ q;rcases hc with z|z
   ·rw[z];exact nit b u e
   ·exact nit c _ z
end
theorem sS:∀ {xs ys:List PV},(dO xs ys).length=min xs.length ys.length
 | [],ys=>by simp[dO]
 | x::xs,[]=>by simp[dO]
 | x::xs,y::ys=>by simp only[dO,List.length_cons,sS (xs:=xs) (ys:=ys)];omega
theorem mh:∀ {xs ys:List PV}{i:Nat}{v:PV},(dO xs ys)[i]?=some v->∃x y,xs[i]?=some x/\ys[i]?=some y/\v=.tup [x,y]
 | [],ys,i,v,h=>by simp[dO] at h
 | x::xs,[],i,v,h=>by simp[dO] at h
 | x::xs,y::ys,0,v,h=>by simp[dO] at h;exact⟨x,y,rfl,rfl,h.symm⟩
 | x::xs,y::ys,i+1,v,h=>by
  simp only[dO,List.getElem?_cons_succ] at h |-
  exact mh h
end FW
namespace FW
open L2 HX
theorem CW {h:Heap}{i:Nat}(e:h.get? it=some o)(hc:o.cls=.type "tuple_iterator")(hd:o.data=.fields #[.ref t,.int (i:Int) 0]) :
  (h.update it (Obj.mapFields fun z=>z.setIfInBounds k x)).get? it=some (Obj.mapFields (fun z=>z.setIfInBounds k x) o):=by
 refine LO _ e ?_;obtain⟨c,d,da,sl⟩:=o;simp only at hc hd;subst hc hd;rfl
theorem tH (it t:Addr)(i:Nat)(items:Array Value)(x:Value):Meets (Builtin.«tuple_iterator.__next__» { pos:=[.ref it] }) fun _ R s =>
  s.heap.IsTupleIter it t i/\s.heap.IsTuple t items/\items[i]?=some x/\∀h',h'.IsTupleIter it t (i+1)->Heap.SameBut it s.heap h'->R (.ok (.ret x)) { s with heap:=h' }:=by
 intro prog w A R s ⟨⟨o,e,hc,hd⟩,⟨o2,e2,hc2,n,hd2⟩,hx,h⟩;refine KF (KG ?_);refine KF (wpAny_field (i:=0) e hd rfl ?_);refine KF (wpAny_field (i:=1) e hd rfl ?_);refine KF (wpAny_seqItems e2 hd2 ?_);show wpAny _ _ (match items[((i:Nat):Int).toNat]? with|some x=>_|none=>_) _ _ _;rw[LV,hx];refine KF (wpAny_setField e hd (M4 1) ?_);refine KG ?_;refine h _ ⟨_,CW e hc hd,?_,?_⟩ (LY _ _ _)
 ·obtain⟨c,d,da,sl⟩:=o;simp only at hc hd;subst hc hd;rfl
 ·obtain⟨c,d,da,sl⟩:=o;simp only at hc hd;subst hc hd;show Data.fields #[.ref t,rawInt ((i:Int)+1)]=Data.fields #[.ref t,.int ((i+1:Nat):Int) 0];rw[Int.natCast_add];rfl
theorem C6 {α:Type}{M:Model}{A:Around}{E:Value->Shared->Prop}{s:Shared}{Q:α->Shared->Prop}(hh:A.handled=none)(h:∀h' e,(∀b o,s.heap.get? b=some o->h'.get? b=some o)->(∃o,h'.get? e=some o/\o.cls=.type "StopIteration")->E (.ref e) { s with heap:=h' }) :
  wpAny M A (Builtin.SmallTypes.stopIteration:Sem α) Q E s:=by
 refine KF ?_;refine KF (wpAny_newTuple ?_);refine KF (KG ?_);refine wpAny_newObj_type (wpAny_raiseNew_none hh ?_);refine h _ _ (fun b o e=>KH _ (KH _ e)) ⟨_,KL _ rfl,rfl⟩
theorem u_ (it t:Addr)(i:Nat)(items:Array Value):Meets (Builtin.«tuple_iterator.__next__» { pos:=[.ref it] }) fun A R s =>
  A.handled=none/\s.heap.IsTupleIter it t i/\s.heap.IsTuple t items/\items[i]?=none/\∀h' e,Heap.ExtBut it s.heap h'->(∃o,h'.get? e=some o/\o.cls=.type "StopIteration")->R (.error (.ref e)) { s with heap:=h' }:=by
 intro prog w A R s ⟨hh,⟨o,e,hc,hd⟩,⟨o2,e2,hc2,n,hd2⟩,hx,h⟩;refine KF (KG ?_);refine KF (wpAny_field (i:=0) e hd rfl ?_);refine KF (wpAny_field (i:=1) e hd rfl ?_);refine KF (wpAny_seqItems e2 hd2 ?_);show wpAny _ _ (match items[((i:Nat):Int).toNat]? with|some x=>_|none=>_) _ _ _;rw[LV,hx];refine KF (wpAny_rule ?_);refine KF (wpAny_setField e hd (NH 1) ?_);refine C6 hh fun h' x k1 k2=>h h' x (fun b o' hb eb=>k1 b o' ?_) k2;show (s.heap.update it _).get? b=some o';rw[Heap.get?_update_ne _ _ _ _ hb];exact eb
section
variable {prog:Program}{w:World}{A:Around}{E:Value->Shared->Prop}{s:Shared}{it t:Addr}{i:Nat}{items:Array Value}
theorem qM {Q:Value->Shared->Prop}(hi:s.heap.IsTupleIter it t i)(ht:s.heap.IsTuple t items)(hx:items[i]?=some x)(h:∀h',h'.IsTupleIter it t (i+1)->Heap.SameBut it s.heap h'->Q x { s with heap:=h' }) :
  wpAny (model prog w) A (Builtin.SmallTypes.nextOf (.ref it)) Q E s:=by
 refine KF (wpAny_callSpecial?_slot hi.typeIs MT ?_);refine call_meets MT hi.typeIs F.entry_tuple_iterator_next (F.args_tuple_iterator_next_1 _) (tH it t i items x) ⟨hi,ht,hx,fun h' k1 k2=>KG (h h' k1 k2)⟩
theorem t6 (hh:A.handled=none)(hi:s.heap.IsTupleIter it t i)(ht:s.heap.IsTuple t items)(hx:items[i]?=none)(h:∀h' e,Heap.ExtBut it s.heap h'->(∃o,h'.get? e=some o/\o.cls=.type "StopIteration")->E (.ref e) { s with heap:=h' }) :
  wpAny (model prog w) A (Builtin.SmallTypes.nextOf (.ref it)) Q E s:=by
 refine KF (wpAny_callSpecial?_slot hi.typeIs MT ?_);exact call_meets MT hi.typeIs F.entry_tuple_iterator_next (F.args_tuple_iterator_next_1 _) (u_ it t i items) ⟨hh,hi,ht,hx,h⟩
end
theorem BJ {h h':Heap}(k:∀o,h.get? it=some o->h'.get? it=some o)(z:h.IsTupleIter it t i):h'.IsTupleIter it t i:=by obtain⟨o,e,r⟩:=z;exact⟨o,k o e,r⟩
theorem CL {h h':Heap}(k:∀o,h.get? t=some o->h'.get? t=some o)(z:h.IsTuple t items):h'.IsTuple t items:=by obtain⟨o,e,r⟩:=z;exact⟨o,k o e,r⟩
section
variable {X:Cx}
end
end FW
namespace FW
open L2 HX
structure Zs where
 it:Addr
 c:Bool × Addr
 xs:Array Value
noncomputable abbrev Zs.a (q:Zs):Addr:=q.c.2
def ItB (h:Heap)(it:Addr)(c:Bool × Addr)(i:Nat):Prop:=if c.1=true then h.IsListIter it c.2 i else h.IsTupleIter it c.2 i
def SeqB (h:Heap)(c:Bool × Addr)(xs:Array Value):Prop:=if c.1=true then h.IsList c.2 xs else h.IsTuple c.2 xs
theorem ItB.keep {h':Heap}(z:ItB h it c i)(k:∀o,h.get? it=some o->h'.get? it=some o):ItB h' it c i:=by
 obtain⟨b,a⟩:=c;cases b with
 | true=>exact(show h.IsListIter it a i from z).at k
 | false=>exact BJ k (show h.IsTupleIter it a i from z)
theorem ItB.obj (z:ItB h it c i):∃o vs,h.get? it=some o/\o.data=.fields vs:=by
 obtain⟨b,a⟩:=c;cases b with
 | true=>obtain⟨o,e,_,d⟩:=(show h.IsListIter it a i from z);exact⟨o,_,e,d⟩
 | false=>obtain⟨o,e,_,d⟩:=(show h.IsTupleIter it a i from z);exact⟨o,_,e,d⟩
theorem SeqB.keep {h':Heap}(z:SeqB h c xs)(k:∀o,h.get? c.2=some o->h'.get? c.2=some o):SeqB h' c xs:=by
 obtain⟨b,a⟩:=c;cases b with
 | true=>exact(show h.IsList a xs from z).at k
 | false=>exact CL k (show h.IsTuple a xs from z)
def SrcAt (h:Heap)(q:Zs)(i:Nat):Prop:=ItB h q.it q.c i/\SeqB h q.c q.xs
theorem SrcAt.keep {h':Heap}(z:SrcAt h q i)(k1:∀o,h.get? q.it=some o->h'.get? q.it=some o)(k2:∀o,h.get? q.a=some o->h'.get? q.a=some o):SrcAt h' q i:=⟨z.1.keep k1,z.2.keep k2⟩
theorem SrcAt.obj (z:SrcAt h q i):∃o vs,h.get? q.it=some o/\o.data=.fields vs:=z.1.obj
section
variable {prog:Program}{w:World}{A:Around}{E:Value->Shared->Prop}{s:Shared}{q:Zs}{i:Nat}
theorem tE {Q:Value->Shared->Prop}(hne:q.a≠q.it)(h:SrcAt s.heap q i)(hx:q.xs[i]?=some x)(hQ:∀h',SrcAt h' q (i+1)->Heap.SameBut q.it s.heap h'->Q x { s with heap:=h' }):wpAny (model prog w) A (Builtin.SmallTypes.nextOf (.ref q.it)) Q E s:=by
 obtain⟨it,⟨b,a⟩,xs⟩:=q;obtain⟨z1,z2⟩:=h;cases b with
 | true=>exact wpAny_nextOf_list_item (show s.heap.IsListIter it a i from z1) (show s.heap.IsList a xs from z2) hx fun h' k1 k2=>hQ h' ⟨k1,z2.keep fun o e=>by rw[k2.2 _ hne];exact e⟩ k2
 | false=>exact qM (show s.heap.IsTupleIter it a i from z1) (show s.heap.IsTuple a xs from z2) hx fun h' k1 k2=>hQ h' ⟨k1,z2.keep fun o e=>by rw[k2.2 _ hne];exact e⟩ k2
theorem Dz (hh:A.handled=none)(h:SrcAt s.heap q i)(hx:q.xs[i]?=none)(hE:∀h' e,Heap.ExtBut q.it s.heap h'->(∃o,h'.get? e=some o/\o.cls=.type "StopIteration")->E (.ref e) { s with heap:=h' }):wpAny (model prog w) A (Builtin.SmallTypes.nextOf (.ref q.it)) Q E s:=by
 obtain⟨it,⟨b,a⟩,xs⟩:=q;obtain⟨z1,z2⟩:=h;cases b with
 | true=>exact wpAny_nextOf_list_end hh (show s.heap.IsListIter it a i from z1) (show s.heap.IsList a xs from z2) hx hE
 | false=>exact t6 hh (show s.heap.IsTupleIter it a i from z1) (show s.heap.IsTuple a xs from z2) hx hE
theorem Da {Q:Value->Shared->Prop}(h:SeqB s.heap c xs)(hQ:∀o,ItB (s.heap.push o) s.heap.objs.size c 0->Q (.ref s.heap.objs.size) { s with heap:=s.heap.push o }):wpAny (model prog w) A (pyIter (.ref c.2)) Q E s:=by
 obtain⟨b,a⟩:=c;cases b with
 | true=>exact wpAny_pyIter_list (show s.heap.IsList a xs from h) (hQ _ ⟨_,KL _ rfl,rfl,rfl⟩)
 | false=>exact wpAny_pyIter_tuple (show s.heap.IsTuple a xs from h) (hQ _ ⟨_,KL _ rfl,rfl,rfl⟩)
end
noncomputable abbrev cS (xs:List Value):Obj:={ cls:=.type "tuple",data:=.seq xs.toArray }
structure ZA (z TI TO:Addr)(ss:List Zs):Prop where
 nd:(z::TI::TO::ss.map Zs.it).Nodup
 ap:∀q∈ss,q.a ∉ z::TI::TO::ss.map Zs.it
section
variable {prog:Program}{w:World}{A:Around}{E:Value->Shared->Prop}{z TI TO:Addr}{i:Nat}
def zA (prog:Program)(w:World)(A:Around)(z TI TO:Addr)(f:Value × Nat->Option Fin × Unit->Sem (ForInStep (Option Fin × Unit))):Prop :=
 ∀(it:Addr) (k:Nat) (s:Shared) (R:ForInStep (Option Fin × Unit)->Shared->Prop) (E:Value->Shared->Prop),
  wpAny (model prog w) A (Builtin.SmallTypes.nextOf (.ref it)) (fun x s1=>∃arr,s1.heap.get? TO=some (cS arr)/\arr.length<=sizeLine/\∀h',h'.get? TO=some (cS (arr.set k x))->Heap.SameBut TO s1.heap h'->R (.yield (none,())) { s1 with heap:=h' })
   (fun e s1=>IsZip s1.heap z TI TO .ellipsis/\∀h',IsZip h' z TI TO .none->Heap.SameBut z s1.heap h'->E e { s1 with heap:=h' }) s ->
  wpAny (model prog w) A (f (.ref it,k) (none,())) R E s
theorem Dk {f:Value × Nat->Option Fin × Unit->Sem (ForInStep (Option Fin × Unit))}(hf:zA prog w A z TI TO f):∀ {ss dn:List Zs}{dx xs arr:List Value}{s:Shared}{R:Option Fin × Unit->Shared->Prop},ZA z TI TO (dn++ss)->(dn++ss).length<=sizeLine ->
  Paired (fun (q:Zs) (x:Value)=>q.xs[i]?=some x) ss xs->dx.length=dn.length->arr.length=ss.length->IsZip s.heap z TI TO .ellipsis->s.heap.get? TO=some (cS (dx++arr))->(∀q∈dn,SrcAt s.heap q (i+1))->(∀q∈ss,SrcAt s.heap q i) ->
  (∀h',IsZip h' z TI TO .ellipsis->h'.get? TO=some (cS (dx++xs))->(∀q∈dn++ss,SrcAt h' q (i+1))->h'.objs.size=s.heap.objs.size->(∀c o,c ∉ TO::(dn++ss).map Zs.it->s.heap.get? c=some o->h'.get? c=some o)->R (none,()) { s with heap:=h' }) ->
  wpAny (model prog w) A (forIn ((ss.map fun q=>Value.ref q.it).zipIdx dn.length) (none,()) f) R E s:=by
 intro ss
 induction ss with
 | nil =>intro dn dx xs arr s R ap hsz hp hl ha hz hTO h1 h2 hR;cases hp;have:arr=[]:=NP.mp ha;subst this;exact KG (hR s.heap hz hTO (by simpa using h1) rfl fun c o _ e=>e)
 | cons q ss ih =>
  intro dn dx xs arr s R ap hsz hp hl ha hz hTO h1 h2 hR;cases hp with
  | @cons _ x _ xs hx hp =>
  cases arr with
  | nil=>simp at ha
  | cons b arr =>
  rw[KO,List.zipIdx_cons,M9];have nd:=ap.nd;have qm:q∈dn++q::ss:=by simp
  have im:q.it∈(dn++q::ss).map Zs.it:=K7.mpr ⟨q,qm,rfl⟩;have zi:z≠q.it:=fun e=>by have:=(KY.mp nd).1;exact this (by simp[e])
  have ti:TO≠q.it:=fun e=>by have:=(KY.mp (KY.mp (KY.mp nd).2).2).1;exact this (by rw[e];exact im)
  have zt:z≠TO:=fun e=>by have:=(KY.mp nd).1;exact this (by simp[e])
  have ni:=(KY.mp (KY.mp (KY.mp nd).2).2).2;have oth:∀p,p∈dn\/p∈ss->p.it≠q.it:=fun p hp e=>by
   rw[L8,KO] at ni;rcases hp with hp|hp
   ·have:=(MY.mp ni).2.2 p.it (K7.mpr ⟨p,hp,rfl⟩) q.it (by simp);exact this e
   ·have:=(KY.mp (MY.mp ni).2.1).1;exact this (by rw[<-e];exact K7.mpr ⟨p,hp,rfl⟩)
  have apa:∀p∈dn++q::ss,p.a≠q.it/\p.a≠TO:=fun p hp=>⟨fun e=>ap.ap p hp (by rw[e];simp),fun e=>ap.ap p hp (by rw[e];simp)⟩;have tot:∀p∈dn++q::ss,p.it≠TO:=fun p hp e=>by have:=(KY.mp (KY.mp (KY.mp nd).2).2).1;exact this (by rw[<-e];exact K7.mpr ⟨p,hp,rfl⟩)
  refine KF (hf q.it dn.length s _ _ ?_);refine tE (apa q qm).1 (h2 q (by simp)) hx fun h' k1 k2=>⟨dx++b::arr,by show h'.get? TO=_;rw[k2.2 TO ti];exact hTO,by rw[LJ,hl,ha,<-LJ];exact hsz,fun h'' k3 k4=>?_⟩;have both:∀c o,c≠q.it->c≠TO->s.heap.get? c=some o->h''.get? c=some o:=fun c o c1 c2 e=>by rw[k4.2 c c2];show h'.get? c=some o;rw[k2.2 c c1];exact e
  have e3:(dx++b::arr).set dn.length x=(dx++[x])++arr:=by rw[<-hl,List.set_append_right _ _ (KJ _),OS];simp
  rw[e3] at k3;have ea:dn++q::ss=(dn++[q])++ss:=by simp
  have el:dn.length+1=(dn++[q]).length:=by simp
  show wpAny _ _ (forIn ((ss.map fun q=>Value.ref q.it).zipIdx (dn.length+1)) (none,()) f) R E _;rw[el];refine ih (dn:=dn++[q]) (dx:=dx++[x]) (xs:=xs) (arr:=arr) (by rw[<-ea];exact ap) (by rw[<-ea];exact hsz) hp (by simp[hl]) (by simpa using ha) (both z _ zi zt hz) k3 (fun p hp=>?_) (fun p hp=>?_) fun h3 j1 j2 j3 j4 j5=>?_
  ·rcases LC.mp hp with hp|hp
   ·exact(h1 p hp).keep (fun o e=>both _ o (oth p (.inl hp)) (tot p (by simp[hp])) e) fun o e=>both _ o (apa p (by simp[hp])).1 (apa p (by simp[hp])).2 e
   ·rw[K4] at hp;subst hp;exact k1.keep (fun o e=>by rw[k4.2 _ (Ne.symm ti)];exact e) fun o e=>by rw[k4.2 _ (apa p qm).2];exact e
  ·exact(h2 p (by simp[hp])).keep (fun o e=>both _ o (oth p (.inr hp)) (tot p (by simp[hp])) e) fun o e=>both _ o (apa p (by simp[hp])).1 (apa p (by simp[hp])).2 e
  ·refine hR h3 j1 (by rw[j2];simp) (by rw[ea];exact j3) (by rw[j4,k4.1];exact k2.1) fun c o hc e=>?_;rw[ea] at hc;refine j5 c o hc (both c o (fun z=>hc ?_) (fun z=>hc ?_) e)
   ·rw[z];simp
   ·rw[z];simp
theorem zm {f:Value × Nat->Option Fin × Unit->Sem (ForInStep (Option Fin × Unit))}(hf:zA prog w A z TI TO f)(hh:A.handled=none):∀ {ss dn:List Zs}{dx arr:List Value}{s:Shared}{R:Option Fin × Unit->Shared->Prop},ZA z TI TO (dn++ss)->(dn++ss).length<=sizeLine ->
  (∃q∈ss,q.xs[i]?=none)->dx.length=dn.length->arr.length=ss.length->IsZip s.heap z TI TO .ellipsis->s.heap.get? TO=some (cS (dx++arr))->(∀q∈ss,SrcAt s.heap q i) ->
  (∀h' e,(∀c o,c ∉ z::TO::(dn++ss).map Zs.it->s.heap.get? c=some o->h'.get? c=some o)->(∃o,h'.get? e=some o/\o.cls=.type "StopIteration")->E (.ref e) { s with heap:=h' }) ->
  wpAny (model prog w) A (forIn ((ss.map fun q=>Value.ref q.it).zipIdx dn.length) (none,()) f) R E s:=by
 intro ss
 induction ss with
 | nil =>intro dn dx arr s R ap hsz hq;obtain⟨q,hq,_⟩:=hq;cases hq
 | cons q ss ih =>
  intro dn dx arr s R ap hsz hq hl ha hz hTO h2 hE;cases arr with
  | nil=>simp at ha
  | cons b arr =>
  rw[KO,List.zipIdx_cons,M9];have nd:=ap.nd;have qm:q∈dn++q::ss:=by simp
  have im:q.it∈(dn++q::ss).map Zs.it:=K7.mpr ⟨q,qm,rfl⟩;have zi:z≠q.it:=fun e=>(KY.mp nd).1 (by simp[e]);have ti:TO≠q.it:=fun e=>(KY.mp (KY.mp (KY.mp nd).2).2).1 (by rw[e];exact im);have zt:z≠TO:=fun e=>(KY.mp nd).1 (by simp[e]);have ni:=(KY.mp (KY.mp (KY.mp nd).2).2).2;have oth:∀p,p∈ss->p.it≠q.it:=fun p hp e=>by rw[L8,KO] at ni;exact(KY.mp (MY.mp ni).2.1).1 (by rw[<-e];exact K7.mpr ⟨p,hp,rfl⟩)
  have apa:∀p∈dn++q::ss,p.a≠q.it/\p.a≠TO:=fun p hp=>⟨fun e=>ap.ap p hp (by rw[e];simp),fun e=>ap.ap p hp (by rw[e];simp)⟩;have tot:∀p∈dn++q::ss,p.it≠TO:=fun p hp e=>(KY.mp (KY.mp (KY.mp nd).2).2).1 (by rw[<-e];exact K7.mpr ⟨p,hp,rfl⟩);refine KF (hf q.it dn.length s _ _ ?_);cases hx:q.xs[i]? with
  | none =>
   refine Dz hh (h2 q (by simp)) hx fun h' e k1 k2=>?_;have hz2:IsZip h' z TI TO .ellipsis:=k1 _ _ zi hz;obtain⟨oe,he,hc⟩:=k2;have ez:e≠z:=fun z=>by subst z;rw[hz2] at he;cases he;simp at hc
   refine⟨hz2,fun h'' _ k4=>hE h'' e (fun c o hc e=>?_) ⟨oe,by rw[k4.2 e ez];exact he,hc⟩⟩;rw[k4.2 c (fun z=>hc (by rw[z];simp))];exact k1 c o (fun z=>hc (by rw[z];simp)) e
  | some x =>
   refine tE (apa q qm).1 (h2 q (by simp)) hx fun h' k1 k2=>⟨dx++b::arr,by show h'.get? TO=_;rw[k2.2 TO ti];exact hTO,by rw[LJ,hl,ha,<-LJ];exact hsz,fun h'' k3 k4=>?_⟩;have both:∀c o,c≠q.it->c≠TO->s.heap.get? c=some o->h''.get? c=some o:=fun c o c1 c2 e=>by rw[k4.2 c c2];show h'.get? c=some o;rw[k2.2 c c1];exact e
   have e3:(dx++b::arr).set dn.length x=(dx++[x])++arr:=by rw[<-hl,List.set_append_right _ _ (KJ _),OS];simp
   rw[e3] at k3;have ea:dn++q::ss=(dn++[q])++ss:=by simp
   have el:dn.length+1=(dn++[q]).length:=by simp
   show wpAny _ _ (forIn ((ss.map fun q=>Value.ref q.it).zipIdx (dn.length+1)) (none,()) f) R E _;rw[el];obtain⟨p,hp,hn⟩:=hq;have hp':p∈ss:=by
    rcases K8.mp hp with rfl|h
    ·rw[hx] at hn;cases hn
    ·exact h
   refine ih (dn:=dn++[q]) (dx:=dx++[x]) (arr:=arr) (by rw[<-ea];exact ap) (by rw[<-ea];exact hsz) ⟨p,hp',hn⟩ (by simp[hl]) (by simpa using ha) (both z _ zi zt hz) k3 (fun p hp=>?_) fun h3 e j1 j2=>hE h3 e (fun c o hc e=>?_) j2
   ·exact(h2 p (by simp[hp])).keep (fun o e=>both _ o (oth p hp) (tot p (by simp[hp])) e) fun o e=>both _ o (apa p (by simp[hp])).1 (apa p (by simp[hp])).2 e
   ·rw[ea] at hc;refine j1 c o hc (both c o (fun z=>hc ?_) (fun z=>hc ?_) e)
    ·rw[z];simp
    ·rw[z];simp
theorem FY {s:Shared}{Q:Unit->Shared->Prop}(hT:s.heap.get? TO=some (cS xs))(hs:xs.length<=sizeLine)(h:∀h',h'.get? TO=some (cS (xs.set k x))->Heap.SameBut TO s.heap h'->Q () { s with heap:=h' }) :
  wpAny (model prog w) A (updateSeq TO fun v=>v.setIfInBounds k x) Q E s:=by
 refine wpAny_updateSeq hT rfl (h _ ?_ (LY _ _ _)) (by simpa using hs) (by simp;omega);rw[LO _ hT rfl];simp[Obj.mapSeq]
theorem B0 {s:Shared}{T:Addr}{Q:Unit->Shared->Prop}(hz:IsZip s.heap z TI TO .ellipsis)(h:∀h',IsZip h' z TI TO (rawInt T)->Heap.SameBut z s.heap h'->Q () { s with heap:=h' }):wpAny (model prog w) A (Builtin.SmallTypes.ownedTupleHandOut (.ref z) (.ref T)) Q E s:=by refine KF (wpAny_setField_rec hz (NH _) fun h1 k1 k2=>?_);have k1:IsZip h1 z TI TO (rawInt T):=k1;refine wpAny_setField_rec k1 (Nat.succ_lt_succ (NH _)) fun h2 k3 k4=>?_;exact h h2 k3 ⟨k4.1.trans k2.1,fun c hc=>(k4.2 c hc).trans (k2.2 c hc)⟩
theorem tw {s:Shared}{ss:List Zs}{Q:Fin->Shared->Prop}(hz:IsZip s.heap z TI TO .none)(hTI:s.heap.get? TI=some (cS (ss.map fun q=>Value.ref q.it)))(hTO:s.heap.get? TO=some (cS arr))(hne:ss≠[])(h:∀f h',zA prog w A z TI TO f->IsZip h' z TI TO .ellipsis->Heap.SameBut z s.heap h'->wpAny (model prog w) A (forIn ((ss.map fun q=>Value.ref q.it).zipIdx 0) (none,()) f) (fun r s1=>r.1=none/\IsZip s1.heap z TI TO .ellipsis/\∃xs,s1.heap.get? TO=some (cS xs)/\xs.length<=sizeLine /\
   ∀h2,IsZip h2 z TI TO (rawInt s1.heap.objs.size)->h2.get? s1.heap.objs.size=some (cS xs)->h2.objs.size=s1.heap.objs.size+1->(∀c o,c≠z->s1.heap.get? c=some o->h2.get? c=some o)->Q (.done (.ret (.ref s1.heap.objs.size))) { s1 with heap:=h2 }) E { s with heap:=h' }) :
  wpAny (model prog w) A (Builtin.«zip.__next__» ⟨[.ref z],[]⟩) Q E s:=by
 have hemp:(ss.map fun q=>Value.ref q.it).toArray.isEmpty=false:=by
  cases ss with
  | nil=>exact absurd rfl hne
  | cons a b=>rfl
 refine KF (KG ?_);refine KF (wpAny_field (i:=2) hz rfl rfl ?_);refine KF (wpAny_field (i:=3) hz rfl rfl ?_);refine KF (wpAny_seqItems hTI rfl ?_);dsimp only;rw[hemp];simp only[Bool.false_eq_true,if_false];refine KF (KF (wpAny_field (i:=0) hz rfl rfl (KG ?_)));rw[K1 rfl];refine KF (wpAny_rule ?_);refine KF (wpAny_field (i:=4) hz rfl rfl ?_);refine KF (wpAny_setField_rec hz (NH _) fun h1 k1 k2=>?_);refine KF (wpAny_mono (h _ h1 ?_ k1 k2) (fun r s1 hr=>?_) fun _ _ e=>e)
 ·intro it k s2 R E2 hw;refine KF (wpAny_onRaise ?_);refine KF (m:=Builtin.SmallTypes.nextOf (.ref it)) (wpAny_mono hw (fun x s3 hx=>?_) fun e s3 he=>?_)
  ·obtain⟨arr,e1,e0,e2⟩:=hx;refine KG ?_;refine KF (wpAny_seqItems e1 rfl ?_);refine KF (FY e1 e0 fun h' q1 q2=>?_);exact KF (wpAny_letGo (KG (e2 h' q1 q2)))
  ·exact wpAny_setField_rec he.1 (NH _) fun h' q1 q2=>he.2 h' q1 q2
 ·obtain⟨hn,z1,xs,t1,lx,q⟩:=hr;rw[hn];refine KF (wpAny_seqItems t1 rfl ?_);refine KF (wpAny_newTuple ?_ lx);have z2:IsZip (s1.heap.push (cS xs)) z TI TO .ellipsis:=KH _ z1;refine KF (B0 (s:={ s1 with heap:=s1.heap.push (cS xs) }) z2 fun h' q1 q2=>KG ?_);have nz:s1.heap.objs.size≠z:=fun e=>absurd (KS z1) (by rw[<-e];exact MR _);refine q h' q1 (by rw[q2.2 _ nz];exact KL _ rfl) (q2.1.trans (MK _ _)) fun c o hc e=>?_;rw[q2.2 c hc];exact KH _ e
def ZSt (z TI TO:Addr)(its:List Addr)(h:Heap):Prop:=IsZip h z TI TO .none/\h.get? TI=some (cS (its.map Value.ref))/\∃arr,arr.length=its.length/\h.get? TO=some (cS arr)
theorem As {ss:List Zs}:(ss.map fun q=>Value.ref q.it)=(ss.map Zs.it).map Value.ref:=by rw[MA];rfl
theorem BN {s:Shared}{Q:Option Value->Shared->Prop}(ap:ZA z TI TO ss)(hne:ss≠[])(hs:ss.length<=sizeLine)(hz:ZSt z TI TO (ss.map Zs.it) s.heap)(h1:∀q∈ss,SrcAt s.heap q i)(hp:Paired (fun (q:Zs) (x:Value)=>q.xs[i]?=some x) ss xs)(hQ:∀h' T,s.heap.objs.size<=T->IsZip h' z TI TO (rawInt T)->h'.get? TI=some (cS ((ss.map Zs.it).map Value.ref))->h'.get? TO=some (cS xs)->(∀q∈ss,SrcAt h' q (i+1))->h'.get? T=some (cS xs)->T ∉ z::TI::TO::ss.map Zs.it->(∀c o,c ∉ z::TI::TO::ss.map Zs.it->s.heap.get? c=some o->h'.get? c=some o)->Q (some (.ref T)) { s with heap:=h' }) :
  wpAny (model prog w) A (pyNext (.ref z)) Q E s:=by
 obtain⟨z1,t1,arr,la,t2⟩:=hz;have hT:s.TypeIs (.ref z) "zip":=⟨_,z1,rfl⟩;have nd:=ap.nd;have TIz:TI≠z:=fun e=>(KY.mp nd).1 (by simp[e]);have TOz:TO≠z:=fun e=>(KY.mp nd).1 (by simp[e]);have itz:∀q∈ss,q.it≠z:=fun q hq e=>(KY.mp nd).1 (by rw[<-e];simp;exact .inr (.inr ⟨q,hq,rfl⟩));have az:∀q∈ss,q.a≠z:=fun q hq e=>ap.ap q hq (by rw[e];simp);have TIn:=(KY.mp (KY.mp nd).2).1;refine KF (wpAny_attempt (wpAny_callSpecial?_slot hT N5 (wpAny_call_entry N5 hT F.entry_zip_next ?_ (F.args_zip_next_1 _))));refine tw (arr:=arr) z1 (by rw[As];exact t1) t2 hne fun f h1' hf k1 k2=>?_;have src:∀q∈ss,SrcAt h1' q i:=fun q hq=>(h1 q hq).keep (fun o e=>by rw[k2.2 _ (itz q hq)];exact e) fun o e=>by rw[k2.2 _ (az q hq)];exact e
 have lp:=hp.length;refine Dk (dn:=[]) (dx:=[]) (s:={ s with heap:=h1' }) hf ap hs hp rfl (by rw[la,LA]) k1 (by rw[k2.2 _ TOz];exact t2) (fun q hq=>nomatch hq) src fun h2 j1 j2 j3 j4 j5=>?_;refine⟨rfl,j1,xs,j2,by rw[<-lp];exact hs,fun h3 m1 m2 m3 m4=>⟨_,rfl,KG ?_⟩⟩;have big:∀c o,s.heap.get? c=some o->c≠h2.objs.size:=fun c o e z=>by have:=KS e;rw[z,j4,k2.1] at this;exact absurd this (MR _)
 have all:∀c o,c ∉ z::TI::TO::ss.map Zs.it->s.heap.get? c=some o->h3.get? c=some o:=fun c o hc e=>by
  refine m4 c o (fun z=>hc (by rw[z];simp)) (j5 c o (fun z=>hc ?_) ?_)
  ·rcases K8.mp z with z|z
   ·rw[z];simp
   ·exact KN _ (KN _ (KN _ z))
  ·show h1'.get? c=some o;rw[k2.2 c (fun z=>hc (by rw[z];simp))];exact e
 refine hQ h3 _ (by rw[j4,k2.1];exact KJ _) m1 ?_ (m4 _ _ TOz j2) (fun q hq=>(j3 q hq).keep (fun o e=>m4 _ o (itz q hq) e) fun o e=>m4 _ o (az q hq) e) m2 (fun hm=>?_) all
 ·refine m4 _ _ TIz (j5 _ _ (fun z=>TIn ?_) ?_)
  ·exact z
  ·show h1'.get? TI=_;rw[k2.2 _ TIz];exact t1
 ·simp only[List.mem_cons] at hm;rcases hm with e|e|e|e
  ·exact big z _ z1 e.symm
  ·exact big TI _ t1 e.symm
  ·exact big TO _ t2 e.symm
  ·obtain⟨q,hq,e⟩:=K7.mp e;obtain⟨o,_,eo,_⟩:=(h1 q hq).obj;exact big _ _ eo e
theorem Az {s:Shared}{Q:Option Value->Shared->Prop}(hh:A.handled=none)(ap:ZA z TI TO ss)(hs:ss.length<=sizeLine)(hz:ZSt z TI TO (ss.map Zs.it) s.heap)(h1:∀q∈ss,SrcAt s.heap q i)(hn:∃q∈ss,q.xs[i]?=none)(hQ:∀h',(∀c o,c ∉ z::TI::TO::ss.map Zs.it->s.heap.get? c=some o->h'.get? c=some o)->Q none { s with heap:=h' }):wpAny (model prog w) A (pyNext (.ref z)) Q E s:=by
 obtain⟨z1,t1,arr,la,t2⟩:=hz;have hT:s.TypeIs (.ref z) "zip":=⟨_,z1,rfl⟩;have nd:=ap.nd;have TOz:TO≠z:=fun e=>(KY.mp nd).1 (by simp[e]);have itz:∀q∈ss,q.it≠z:=fun q hq e=>(KY.mp nd).1 (by rw[<-e];simp;exact .inr (.inr ⟨q,hq,rfl⟩));have az:∀q∈ss,q.a≠z:=fun q hq e=>ap.ap q hq (by rw[e];simp);have hne:ss≠[]:=fun e=>by obtain⟨q,hq,_⟩:=hn;rw[e] at hq;cases hq
 refine KF (wpAny_attempt (wpAny_callSpecial?_slot hT N5 (wpAny_call_entry N5 hT F.entry_zip_next ?_ (F.args_zip_next_1 _))));refine tw (arr:=arr) z1 (by rw[As];exact t1) t2 hne fun f h1' hf k1 k2=>?_;have src:∀q∈ss,SrcAt h1' q i:=fun q hq=>(h1 q hq).keep (fun o e=>by rw[k2.2 _ (itz q hq)];exact e) fun o e=>by rw[k2.2 _ (az q hq)];exact e
 refine zm (A:=A.in1) (dn:=[]) (dx:=[]) (s:={ s with heap:=h1' }) hf hh ap hs hn rfl (by rw[la,LA]) k1 (by rw[k2.2 _ TOz];exact t2) src fun h2 e j1 j2=>?_;refine KF (wpAny_isInstance (T:="StopIteration") (b:=true) j2 isSubtype_stop (KG (hQ h2 fun c o hc e=>?_)));refine j1 c o (fun z=>hc ?_) ?_
 ·rcases K8.mp z with z|z
  ·rw[z];simp
  ·rcases K8.mp z with z|z
   ·rw[z];simp
   ·exact KN _ (KN _ (KN _ z))
 ·show h1'.get? c=some o;rw[k2.2 c (fun z=>hc (by rw[z];simp))];exact e
end
def SqB (K:W.Frag)(H:Hp)(c:Bool × Addr)(xs:List V):Prop:=if c.1=true then SqL K H c.2 xs else SqT K H c.2 xs
noncomputable def Itn (K:W.Frag)(cs:List (Bool × Addr)):L2.It :=
 ⟨fun i H=>∃xss ys,Paired (SqB K H) cs xss/\Paired (fun (xs:List V) (y:V)=>xs[i]?=some y) xss ys,
  fun i H v H'=>∃T,v=.ref T/\H T=none/\∀xss ys,Paired (SqB K H) cs xss->Paired (fun (xs:List V) (y:V)=>xs[i]?=some y) xss ys->H'=upd H T (.tup ys),
  fun i H=>∃xss,Paired (SqB K H) cs xss/\∃xs∈xss,xs.length=i⟩
theorem rg {α β:Type}{F:α->β->Prop}:∀ {l:List α}{r:List β}{a:α},Paired F l r->a∈l->∃b∈r,F a b
 | _,_,_,.nil,h=>nomatch h
 | _,_,_,.cons f t,h=>by
  rcases K8.mp h with rfl|h
  ·exact⟨_,by simp,f⟩
  ·obtain⟨b,h1,h2⟩:=rg t h;exact⟨b,by simp[h1],h2⟩
theorem uP {σ:L2.St}(I:L2.Inv X pins σ H s):∀ {its:List Addr}{cs:List (Bool × Addr)}{xss:List (List V)},Paired (fun it c=>ItB s.heap it c i) its cs->Paired (SqB X.K H) cs xss ->
  ∃ss:List Zs,ss.map Zs.it=its/\ss.map Zs.c=cs/\(∀q∈ss,SrcAt s.heap q i)/\Paired (fun (q:Zs) (xs:List V)=>Vals xs q.xs.toList) ss xss
 | _,_,_,.nil,.nil=>⟨[],rfl,rfl,fun q hq=>(nomatch hq),.nil⟩
 | _,_,_,.cons (a:=it) (b:=c) h1 t1,.cons (b:=xs) h2 t2=>by
  obtain⟨ss,e1,e2,e3,e4⟩:=uP I t1 t2;obtain⟨b,a⟩:=c;cases b with
  | true =>
   obtain⟨its1,rv1,p1,hz1⟩:=I.list (show SqL X.K H a xs from h2);refine⟨⟨it,(true,a),its1.toArray⟩::ss,by rw[KO,e1],by rw[KO,e2],fun q hq=>?_,.cons (by simpa using rv1) e4⟩;rcases K8.mp hq with rfl|hq
   ·exact⟨h1,p1.isList⟩
   ·exact e3 q hq
  | false =>
   obtain⟨its1,rv1,p1,hz1⟩:=I.tuple (show SqT X.K H a xs from h2);refine⟨⟨it,(false,a),its1.toArray⟩::ss,by rw[KO,e1],by rw[KO,e2],fun q hq=>?_,.cons (by simpa using rv1) e4⟩;rcases K8.mp hq with rfl|hq
   ·exact⟨h1,p1⟩
   ·exact e3 q hq
theorem tm {i:Nat}:∀ {ss:List Zs}{xss:List (List V)}{ys:List V},Paired (fun (q:Zs) (xs:List V)=>Vals xs q.xs.toList) ss xss->Paired (fun (xs:List V) (y:V)=>xs[i]?=some y) xss ys->∃us,Paired (fun (q:Zs) (x:Value)=>q.xs[i]?=some x) ss us/\Vals ys us
 | _,_,_,.nil,.nil=>⟨[],.nil,.nil⟩
 | _,_,_,.cons h1 t1,.cons h2 t2=>by obtain⟨us,e1,e2⟩:=tm t1 t2;obtain⟨u,e3,e4⟩:=h1.get h2;exact⟨u::us,.cons (by simpa using e3) e1,.cons e4 e2⟩
theorem SqB.inj {σ:L2.St}(I:L2.Inv X pins σ H s):∀ {cs:List (Bool × Addr)}{xss yss:List (List V)},Paired (SqB X.K H) cs xss->Paired (SqB X.K H) cs yss->xss=yss
 | _,_,_,.nil,.nil=>rfl
 | _,_,_,.cons (a:=c) h1 t1,.cons h2 t2=>by
  rw[SqB.inj I t1 t2];obtain⟨b,a⟩:=c;cases b with
  | true=>rw[I.list_inj (show SqL X.K H a _ from h1) h2]
  | false=>rw[I.tuple_inj (show SqT X.K H a _ from h1) h2]
theorem By {i:Nat}:∀ {xss:List (List V)}{ys zs:List V},Paired (fun (xs:List V) (y:V)=>xs[i]?=some y) xss ys->Paired (fun (xs:List V) (y:V)=>xs[i]?=some y) xss zs->ys=zs
 | _,_,_,.nil,.nil=>rfl
 | _,_,_,.cons h1 t1,.cons h2 t2=>by rw[By t1 t2];rw[h1] at h2;cases h2;rfl
theorem xU {P:Program}{w:World}{K:W.Frag}{elts:List Expr}{kt:Nat}{pt:Pos}{z TI TO:Addr}{its:List Addr}{cs:List (Bool × Addr)}(nd:(z::TI::TO::its).Nodup)(ap:∀c∈cs,c.2 ∉ z::TI::TO::its)(hne:its≠[])(hs:its.length<=100) :
  rj P w K (.Tuple elts kt pt) (Itn K cs) (z::TI::TO::its) z (fun i h=>ZSt z TI TO its h/\Paired (fun it c=>ItB h it c i) its cs) where
 mem:=by simp
 obj:=fun i h st c hc=>by
  obtain⟨⟨h1,h2,arr,la,h3⟩,h4⟩:=st;simp only[List.mem_cons] at hc;rcases hc with rfl|rfl|rfl|hc
  ·exact⟨_,h1,fun v z=>nomatch z⟩
  ·exact⟨_,h2,fun v z=>nomatch z⟩
  ·exact⟨_,h3,fun v z=>nomatch z⟩
  ·obtain⟨d,_,e⟩:=rg h4 hc;obtain⟨o,vs,e1,e2⟩:=e.obj;exact⟨o,e1,fun v z=>by rw[e2] at z;cases z⟩
 keep:=fun i h h' st k=>by
  obtain⟨⟨h1,h2,arr,la,h3⟩,h4⟩:=st;refine⟨⟨k z (by simp) _ h1,k TI (by simp) _ h2,arr,la,k TO (by simp) _ h3⟩,?_⟩;have:∀ {l:List Addr}{r:List (Bool × Addr)},(∀x∈l,x∈its)->Paired (fun it c=>ItB h it c i) l r->Paired (fun it c=>ItB h' it c i) l r:=by
   intro l r hl hp
   induction hp with
   | nil=>exact .nil
   | cons f t ih=>exact .cons (f.keep fun o e=>k _ (by simp[hl _ List.mem_cons_self]) o e) (ih fun x hx=>hl x (KN _ hx))
  exact this (fun x hx=>hx) h4
 item:=by
  intro X hP hw hK hc i pins s σ H E I hf st hg;subst hP hw hK;obtain⟨xss,ys,g1,g2⟩:=hg;obtain⟨hz,h4⟩:=st;obtain⟨ss,e1,e2,e3,e4⟩:=uP I h4 g1;obtain⟨us,f1,f2⟩:=tm e4 g2;have za:ZA z TI TO ss:=⟨by rw[e1];exact nd,fun q hq=>by rw[e1];exact ap q.c (by rw[<-e2];exact K7.mpr ⟨q,hq,rfl⟩)⟩
  have ssl:ss.length=its.length:=by rw[<-e1,LA]
  have line:(100:Nat)<=sizeLine:=by decide
  refine BN (i:=i) (ss:=ss) (xs:=us) za (fun e=>hne (by rw[<-e1,e];rfl)) (by rw[ssl];exact K_ hs line) (by rw[e1];exact hz) e3 f1 fun h' T lT z1 t1 t2 s1 tT nT kk=>?_;rw[e1] at t1 nT kk;refine⟨_,rfl,wpAny_letOwnedTupleGo_zip (s:={ s with heap:=h' }) z1 fun h'' z2 sb=>?_⟩;have nz:∀ {c:Addr},c∈TI::TO::its->c≠z:=fun hc e=>(KY.mp nd).1 (by rw[<-e];exact hc);have Tz:T≠z:=fun e=>nT (by rw[e];simp);have yl:ys.length<=100:=by rw[<-g2.length,<-g1.length,<-h4.length];exact hs
  have I2:L2.Inv X pins σ (upd H T (.tup ys)) { s with heap:=h'' }:=rP (t':=s.toks) (its:=us) (wr:=z::TI::TO::its) I (fun b o hb e=>by rw[sb.2 b (fun q=>hb (by rw[q];simp))];exact kk b o hb e) (fun b hb=>hf b hb) lT f2 (K_ yl line) ⟨_,by rw[sb.2 T Tz];exact tT,rfl,0,rfl⟩
  refine⟨.ref T,_,I2,rfl,⟨T,rfl,I.hok.fresh lT,fun xss' ys' k1 k2=>?_⟩,⟨⟨z2,by rw[sb.2 TI (nz (by simp))];exact t1,us,?_,by rw[sb.2 TO (nz (by simp))];exact t2⟩,?_⟩,fun b hb=>?_⟩
  ·have:=SqB.inj I k1 g1;subst this;rw[By k2 g2]
  ·rw[<-f1.length];exact ssl
  ·have go:∀ {l:List Zs},(∀q∈l,SrcAt h' q (i+1))->(∀q∈l,q.it≠z)->Paired (fun it c=>ItB h'' it c (i+1)) (l.map Zs.it) (l.map Zs.c):=by
    intro l
    induction l with
    | nil=>intro _ _;exact .nil
    | cons q l ih =>intro k1 k2;exact .cons ((k1 q KP).1.keep fun o e=>by rw[sb.2 _ (k2 q KP)];exact e) (ih (fun p hp=>k1 p (KN _ hp)) fun p hp=>k2 p (KN _ hp))
   have:=go s1 fun q hq=>nz (KN _ (KN _ (by rw[<-e1];exact K7.mpr ⟨q,hq,rfl⟩)));rw[e1,e2] at this;exact this
  ·have hlt:b<s.heap.objs.size:=by
    obtain⟨h1,h2,arr,la,h3⟩:=hz;simp only[List.mem_cons] at hb;rcases hb with rfl|rfl|rfl|hb
    ·exact KS h1
    ·exact KS h2
    ·exact KS h3
    ·obtain⟨d,_,e⟩:=rg h4 hb;obtain⟨o,_,e,_⟩:=e.obj;exact KS e
   rw[ag (K0 (KZ hlt lT))];exact(hf b hb).1
 done:=by
  intro X hP hw hK hc i pins s σ H E I hf st hg;subst hP hw hK;obtain⟨xss,g1,xs,gx,gl⟩:=hg;obtain⟨hz,h4⟩:=st;obtain⟨ss,e1,e2,e3,e4⟩:=uP I h4 g1;have za:ZA z TI TO ss:=⟨by rw[e1];exact nd,fun q hq=>by rw[e1];exact ap q.c (by rw[<-e2];exact K7.mpr ⟨q,hq,rfl⟩)⟩
  have ssl:ss.length=its.length:=by rw[<-e1,LA]
  have line:(100:Nat)<=sizeLine:=by decide
  have hn:∃q∈ss,q.xs[i]?=none:=by
   have:∀ {l:List Zs}{r:List (List V)},Paired (fun (q:Zs) (xs:List V)=>Vals xs q.xs.toList) l r->xs∈r->∃q∈l,q.xs[i]?=none:=by
    intro l r hp hx
    induction hp with
    | nil=>cases hx
    | @cons q ys l r f t ih =>
     rcases K8.mp hx with rfl|hx
     ·refine⟨q,KP,?_⟩;have:=f.length;exact M6 (by rw[<-gl,this];simp)
     ·obtain⟨p,h1,h2⟩:=ih hx;exact⟨p,KN _ h1,h2⟩
   exact this e4 gx
  refine Az (i:=i) (ss:=ss) (I.ok.hd hc) za (by rw[ssl];exact K_ hs line) (by rw[e1];exact hz) e3 hn fun h' kk=>?_;rw[e1] at kk;exact⟨rfl,CU (t':=s.toks) I kk fun b hb=>hf b hb⟩
 self:=fun _ _ _ _ _ st h=>wpAny_pyIter_zip st.1.1 h
section
variable {prog:Program}{w:World}{A:Around}{E:Value->Shared->Prop}
theorem I0 {R:Array Value->Shared->Prop}:∀ {cs:List (Bool × Addr)}{acc:Array Value}{s:Shared},(∀c∈cs,∃xs,SeqB s.heap c xs) ->
  (∀h',h'.objs.size=s.heap.objs.size+cs.length->(∀b o,s.heap.get? b=some o->h'.get? b=some o)->Paired (fun it c=>ItB h' it c 0) (List.range' s.heap.objs.size cs.length) cs->R (acc++((List.range' s.heap.objs.size cs.length).map Value.ref).toArray) { s with heap:=h' }) ->
  wpAny (model prog w) A (forIn (cs.map fun c=>Value.ref c.2) acc fun x r=>do
   let v <-holding r.toList (pyIter x)
   pure (ForInStep.yield (r.push v))) R E s:=by
 intro cs
 induction cs with
 | nil =>intro acc s _ hR;exact KG (by simpa using hR s.heap rfl (fun _ _ e=>e) .nil)
 | cons c cs ih =>
  intro acc s hs hR;rw[KO,M9];obtain⟨xs,hx⟩:=hs c KP;refine KF (KF (LU (Da hx fun o ho=>KG ?_)));refine ih (acc:=acc.push (.ref s.heap.objs.size)) (s:={ s with heap:=s.heap.push o }) (fun d hd=>?_) fun h' k1 k2 k3=>?_
  ·obtain⟨ys,hy⟩:=hs d (KN _ hd);exact⟨ys,hy.keep fun o e=>KH _ e⟩
  ·have sz:(s.heap.push o).objs.size=s.heap.objs.size+1:=MK _ _;have k1:h'.objs.size=(s.heap.push o).objs.size+cs.length:=k1;have k3:Paired (fun it c=>ItB h' it c 0) (List.range' (s.heap.push o).objs.size cs.length) cs:=k3;rw[sz] at k1 k3;have:=hR h' (by rw[k1,LZ];omega) (fun b u e=>k2 b u (KH _ e)) (by rw[LZ,List.range'_succ];exact .cons (ho.keep fun u e=>k2 _ u e) k3)
   rw[LZ,List.range'_succ] at this;show R (acc.push (Value.ref s.heap.objs.size)++((List.range' (s.heap.push o).objs.size cs.length).map Value.ref).toArray) _;rw[sz];simpa using this
theorem vU (cs:List (Bool × Addr))(hl:cs.length<=100):Meets (Builtin.«zip.__new__» ⟨.type "zip"::cs.map (fun c=>Value.ref c.2),[]⟩) fun _ R s=>(∀c∈cs,∃xs,SeqB s.heap c xs) /\
  ∀h',ZSt (s.heap.objs.size+cs.length+2) (s.heap.objs.size+cs.length) (s.heap.objs.size+cs.length+1) (List.range' s.heap.objs.size cs.length) h'->Paired (fun it c=>ItB h' it c 0) (List.range' s.heap.objs.size cs.length) cs->(∀b o,s.heap.get? b=some o->h'.get? b=some o)->R (.ok (.ret (.ref (s.heap.objs.size+cs.length+2)))) { s with heap:=h' }:=by
 intro prog w A R s ⟨h1,h⟩;have line:(100:Nat)<=sizeLine:=by decide
 refine KF ?_;refine KF (KG ?_);rw[sub_zip];refine KF (KG ?_);refine KG ?_;refine KF (m:=Builtin.SmallTypes.iterAll (cs.map fun c=>Value.ref c.2)) ?_;refine KF (I0 h1 fun h' k1 k2 k3=>KG ?_);have e0:(#[]++((List.range' s.heap.objs.size cs.length).map Value.ref).toArray:Array Value).toList=(List.range' s.heap.objs.size cs.length).map Value.ref:=by simp
 rw[e0];have ln:((List.range' s.heap.objs.size cs.length).map Value.ref).length=cs.length:=by simp
 refine KF (wpAny_newTuple ?_ (by rw[ln];exact K_ hl line));refine KF (wpAny_newTuple ?_ (by rw[LA,ln];exact K_ hl line));refine KF (wpAny_newObj_type (T:="zip") (data:=.fields #[.none,.bool false,.bool false,.ref h'.objs.size,.ref (h'.push (cS ((List.range' s.heap.objs.size cs.length).map Value.ref))).objs.size]) ?_);have s1:(h'.push (cS ((List.range' s.heap.objs.size cs.length).map Value.ref))).objs.size=s.heap.objs.size+cs.length+1:=(MK _ _).trans (by rw[k1]);have s2:((h'.push (cS ((List.range' s.heap.objs.size cs.length).map Value.ref))).push (cS (((List.range' s.heap.objs.size cs.length).map Value.ref).map fun _=>Value.none))).objs.size=s.heap.objs.size+cs.length+2:=(MK _ _).trans (by rw[s1]);refine KG ?_;show R (.ok (.ret (.ref ((h'.push (cS ((List.range' s.heap.objs.size cs.length).map Value.ref))).push (cS (((List.range' s.heap.objs.size cs.length).map Value.ref).map fun _=>Value.none))).objs.size))) _;rw[s2];refine h _ ⟨?_,?_,((List.range' s.heap.objs.size cs.length).map Value.ref).map fun _=>Value.none,by simp,?_⟩ ?_ fun b o e=>KH _ (KH _ (KH _ (k2 b o e)))
 ·rw[<-s2];have g:=KL ((h'.push (cS ((List.range' s.heap.objs.size cs.length).map Value.ref))).push (cS (((List.range' s.heap.objs.size cs.length).map Value.ref).map fun _=>Value.none))) (o:={ cls:=.type "zip",data:=.fields #[.none,.bool false,.bool false,.ref h'.objs.size,.ref (h'.push (cS ((List.range' s.heap.objs.size cs.length).map Value.ref))).objs.size] }) rfl;rw[k1,s1] at g;rw[k1,s1];exact g
 ·rw[<-k1];exact KH _ (KH _ (KL _ rfl))
 ·rw[<-s1];exact KH _ (KL _ rfl)
 ·have:∀ {l:List Addr}{r:List (Bool × Addr)},Paired (fun it c=>ItB h' it c 0) l r->∀ {g:Heap},(∀b o,h'.get? b=some o->g.get? b=some o)->Paired (fun it c=>ItB g it c 0) l r:=by
   intro l r hp g hg
   induction hp with
   | nil=>exact .nil
   | cons f t ih=>exact .cons (f.keep fun o e=>hg _ o e) ih
  exact this k3 fun b o e=>KH _ (KH _ (KH _ e))
end
section
variable {prog:Program}{w:World}{A:Around}{E:Value->Shared->Prop}{s:Shared}
def Jr (cs:List (Bool × Addr))(Q:Value->Shared->Prop)(s:Shared):Prop:=∀h',ZSt (s.heap.objs.size+cs.length+2) (s.heap.objs.size+cs.length) (s.heap.objs.size+cs.length+1) (List.range' s.heap.objs.size cs.length) h'->Paired (fun it c=>ItB h' it c 0) (List.range' s.heap.objs.size cs.length) cs->(∀b o,s.heap.get? b=some o->h'.get? b=some o) ->
 Q (.ref (s.heap.objs.size+cs.length+2)) { s with heap:=h' }
theorem xP {c1:Bool × Addr}(h1:∀c∈[c1,c2],∃xs,SeqB s.heap c xs)(h:Jr [c1,c2] Q s):wpAny (model prog w) A (call (.type "zip") [.ref c1.2,.ref c2.2]) Q E s:=by refine callType_new F.called_zip rfl (F.typeCall_zip_2 _ _) (F.newCall_zip_2 _ _) (fun obj=>?_) F.entry_zip_new (vU [c1,c2] (Nat.le_of_ble_eq_true rfl)) ⟨h1,fun h' k1 k2 k3=>⟨⟨_,k1.1,rfl⟩,h h' k1 k2 k3⟩⟩;exact F.args_object_init_3 _ _ _
end
section
variable {X:Cx}{pins:List (Addr × Obj)}{σ:L2.St}{H:Hp}{s:Shared}
theorem SqB.seq (I:L2.Inv X pins σ H s)(h:SqB X.K H c xs):∃ys,SeqB s.heap c ys:=by
 obtain⟨b,a⟩:=c;cases b with
 | true=>obtain⟨its,_,p,_⟩:=I.list (show SqL X.K H a xs from h);exact⟨_,p.isList⟩
 | false=>obtain⟨its,_,p,_⟩:=I.tuple (show SqT X.K H a xs from h);exact⟨_,p⟩
theorem SeqB.lt (z:SeqB h c ys):c.2<h.objs.size:=by
 obtain⟨b,a⟩:=c;cases b with
 | true=>obtain⟨_,e,_⟩:=(show h.IsList a ys from z);exact KS e
 | false=>obtain⟨_,e,_⟩:=(show h.IsTuple a ys from z);exact KS e
theorem DD {N n b:Nat}(h:b∈(N+n+2)::(N+n)::(N+n+1)::List.range' N n):N<=b:=by simp only[List.mem_cons,List.mem_range'_1] at h;omega
theorem F5 (N n:Nat):((N+n+2)::(N+n)::(N+n+1)::List.range' N n).Nodup:=by refine KY.mpr ⟨fun h=>?_,KY.mpr ⟨fun h=>?_,KY.mpr ⟨fun h=>?_,List.nodup_range'⟩⟩⟩ <;> (simp only[List.mem_cons,List.mem_range'_1] at h;omega)
theorem CV {cs:List (Bool × Addr)}{R:L2.It->Hp->Prop}(I:L2.Inv X pins σ H s)(hs:∀c∈cs,∃xs,SqB X.K H c xs)(hn:cs≠[])(hl:cs.length<=100)(q:R (Itn X.K cs) H) :
  Jr cs (fun v s1=>wpAny (model X.prog X.w) X.A (pyIter v) (PIE X pins σ (.Tuple elts kt pt) R) X.xe s1) s:=by
 intro h' k1 k2 kk;refine wpAny_pyIter_zip k1.1 ?_;have nd:=F5 s.heap.objs.size cs.length;have big:∀b,b∈(s.heap.objs.size+cs.length+2)::(s.heap.objs.size+cs.length)::(s.heap.objs.size+cs.length+1)::List.range' s.heap.objs.size cs.length->s.heap.objs.size<=b:=fun b hb=>DD hb;refine⟨_,_,_,_,H,rfl,I.kept (t':=s.toks) kk,xU nd (fun c hc hm=>?_) (fun e=>hn ?_) (by simpa using hl),⟨k1,k2⟩,fun b hb=>I.fpOk (big b hb) (I.hok.fresh (big b hb)),q⟩
 ·obtain⟨xs,hx⟩:=hs c hc;obtain⟨ys,hy⟩:=hx.seq I;exact absurd (KZ hy.lt (big _ hm)) (MR _)
 ·have:=LP List.length e;simp at this;exact this
end
section
variable {X:Cx}
noncomputable def HI (K:W.Frag)(ta:TA):TI:=fun σ H R=>ta σ H fun vs H1=>∃c d,vs=[.ref c.2,.ref d.2]/\(∀e∈[c,d],∃xs,SqB K H1 e xs)/\R (Itn K [c,d]) H1
theorem F0 {a:Expr}(hg:Gl X "zip")(hm:X.mg "zip"=none)(ha:PA X [a,b] ta)(hs:starEach [a,b] X.env=[(false,eval a X.env),(false,eval b X.env)])(hs2:starEach [b] X.env=[(false,eval b X.env)]) :
  PI X (.Tuple elts kt pt) (.Call (.Name "zip" p) [a,b] [] pos) (HI X.K ta):=by
 intro pins s σ H R I h;refine Call_ (l' I hg hm boot_zip (NC (thn (ha pos pins s σ H _ I h) fun us s1 ⟨vs,H1,I1,r1,q1⟩=>?_) (by rw[hs,hs2]) (by rw[hs2];rfl)));obtain⟨c,d,e,hq,q⟩:=q1;subst e;obtain⟨u,v,rfl,ru,rv⟩:=ug r1;cases ru;cases rv;exact xP (fun f hf=>let ⟨xs,hx⟩:=hq f hf;hx.seq I1) (CV I1 hq (by simp) (by simp) q)
end
def LB (K:W.Frag)(c:Bool × Addr)(xs:List PV)(chk:AH->Prop)(m0:List Addr)(H0:Hp):Prop:=∀m H st,Ext K m0 H0 m H->RH K m H st->chk st->∃ys,SqB K H c ys/\Rs K m H xs ys
theorem EJ (rh:RH K m H st)(r:R K m H v x)(e:bb st v=some xs):∃c:Bool × Addr,x=.ref c.2/\LB K c xs (gJ st v) m H/\∃ys,SqB K H c ys:=by
 cases v with
 | tup ys =>cases e;rw[R_tup] at r;obtain⟨a,zs,rfl,g,r3⟩:=r;exact⟨(false,a),rfl,fun m' H' st' x r q=>⟨zs,x.tup _ _ g,r3.mono x⟩,zs,g⟩
 | rdl ys =>cases e;rw[R_rdl] at r;obtain⟨a,zs,rfl,g,r3⟩:=r;exact⟨(true,a),rfl,fun m' H' st' x r q=>⟨zs,(x.rdf _ _ g).sq,r3.mono x⟩,zs,g.sq⟩
 | ref n =>
  unfold bb aT at e;simp only at e;split at e
  ·cases e;rename_i q;obtain⟨a,zs,rfl,ea,g,r3⟩:=rh.lst q r;refine⟨(true,a),rfl,fun m' H' st' x r' q'=>?_,zs,SqL.of g⟩;have q':st'[n]?=st[n]?:=q';rw[q] at q';obtain⟨ys,h1,h2⟩:=r'.at_ n _ a q' (eU x.pre ea);exact⟨ys,SqL.of h1,h2⟩
  ·cases e
 | _=>cases e
theorem AJ (h1:LB K a xs c1 m0 H0)(h2:LB K b ys c2 m0 H0):lJ K (Itn K [a,b]) (dO xs ys) (fun st=>c1 st/\c2 st) m0 H0:=by
 refine⟨fun m H st x r q=>?_,fun i v m H st x r q ev=>?_⟩
 ·obtain⟨as,g1,r1⟩:=h1 m H st x r q.1;obtain⟨bs,g2,r2⟩:=h2 m H st x r q.2;refine⟨[as,bs],.cons g1 (.cons g2 .nil),?_⟩;rw[sS,r1.len,r2.len];rcases Nat.le_total as.length bs.length with h|h
  ·exact⟨as,by simp,(Nat.min_eq_left h).symm⟩
  ·exact⟨bs,by simp,(Nat.min_eq_right h).symm⟩
 ·obtain⟨as,g1,r1⟩:=h1 m H st x r q.1;obtain⟨bs,g2,r2⟩:=h2 m H st x r q.2;obtain⟨u,v',e1,e2,rfl⟩:=mh ev;obtain⟨y1,f1,q1⟩:=r1.get e1;obtain⟨y2,f2,q2⟩:=r2.get e2;refine⟨⟨[as,bs],[y1,y2],.cons g1 (.cons g2 .nil),.cons f1 (.cons f2 .nil)⟩,?_⟩;rintro z H' ⟨T,rfl,hT,hh⟩;have:=hh _ _ (.cons g1 (.cons g2 .nil)) (.cons f1 (.cons f2 .nil));subst this;refine⟨Ext.newT r hT,r.newT hT,R_tup.mpr ⟨T,[y1,y2],rfl,SqT.of aA,?_⟩⟩;rw[Rs_cons',Rs_cons',Rs_nil];exact⟨q1.mono (Ext.newT r hT),q2.mono (Ext.newT r hT),rfl⟩
end FW
namespace FW
open L2 HX
noncomputable def Itc (z:Str):L2.It:=⟨fun i _=>i<z.cps.size,fun i H x H'=>H'=H/\∃c,z.cps[i]?=some c/\x=.str ⟨#[c]⟩,fun i _=>i=z.cps.size⟩
theorem mn {P:Program}{w:World}{K:W.Frag}{tg:Expr}{it:Addr}{z:Str}{t:Tok}{nm:String}(hW:∀A:Around,A.handled=none->Walks P w A it [it] [it] z.cps.size (SignAt z) (fun i h=>h.IsStrIter it nm z t i))
  (hn:["enumerate","zip","dict_itemiterator","dict_reverseitemiterator","odict_iterator","itertools.zip_longest","itertools.pairwise"].contains nm=false) (hS:∀(A:Around) (i:Nat) (s:Shared) (Q:Value->Shared->Prop) (E:Value->Shared->Prop),s.heap.IsStrIter it nm z t i->Q (.ref it) s->wpAny (model P w) A (pyIter (.ref it)) Q E s):rj P w K tg (Itc z) [it] it (fun i h=>h.IsStrIter it nm z t i) where
 mem:=by simp
 obj:=fun i h st b hb=>by
  have e:b=it:=by simpa using hb
  subst e;obtain⟨o,e,c,d⟩:=st;exact⟨o,e,fun v z=>by rw[d] at z;cases z⟩
 keep:=fun i h h' st k=>by obtain⟨o,e,r⟩:=st;exact⟨o,k it (by simp) o e,r⟩
 item:=by intro X hP hw hK hc i pins s σ H E I hf st hg;subst hP hw hK;obtain⟨f0,f1,f2,f3,f4,f5⟩:=hf it (by simp);refine(hW X.A (I.ok.hd hc)).item i s _ _ hg st fun v h' tk hv st' kk=>?_;obtain⟨c,u,ec,rfl⟩:=hv;have I1:L2.Inv X pins σ H { s with heap:=h',toks:=tk }:=I.turned (fun b o hb e=>kk b o (by simpa using hb) e) f0 f1 f3 f4 f5;obtain⟨o,e,cc,d⟩:=id st';exact⟨_,rfl,tZ (s:={ s with heap:=h',toks:=tk }) e cc d hn ⟨.str ⟨#[c]⟩,H,I1,⟨u,rfl⟩,⟨rfl,c,ec,rfl⟩,st',fun b hb=>(hf b hb).1⟩⟩
 done:=by intro X hP hw hK hc i pins s σ H E I hf st hg;subst hP hw hK;have hg:i=z.cps.size:=hg;subst hg;obtain⟨f0,f1,f2,f3,f4,f5⟩:=hf it (by simp);exact(hW X.A (I.ok.hd hc)).done s _ _ st fun h' tk kk=>⟨rfl,I.turned (fun b o hb e=>kk b o (by simpa using hb) e) f0 f1 f3 f4 f5⟩
 self:=hS
theorem u0:lJ K (Itc z) (bo z) (fun _=>True) m0 H0:=by
 refine⟨fun m H st x r q=>by show (bo z).length=z.cps.size;simp[bo],fun i v m H st x r q ev=>?_⟩;unfold bo at ev;rw[K2] at ev;cases e:z.cps.toList[i]? with
 | none=>rw[e] at ev;cases ev
 | some c =>
  rw[e] at ev;cases ev;have e':z.cps[i]?=some c:=by simpa using e
  refine⟨(Array.getElem?_eq_some_iff.mp e').1,?_⟩;rintro y H' ⟨rfl,c',e2,rfl⟩;rw[e'] at e2;cases e2;exact⟨Ext.refl _ _ _,r,R_str.mpr rfl⟩
section
variable {X:Cx}{tg:Expr}
noncomputable def Gh (te:TE):TI:=fun σ H R=>te σ H fun x H1=>∃z,x=.str z/\R (Itc z) H1
theorem zJ (he:PE X e te):PI X tg e (Gh te):=by
 intro pins s σ H R I h;refine thn (he pins s σ H _ I h) fun v s1 ⟨x,H1,I1,r1,q1⟩=>?_;obtain⟨z,e,q⟩:=q1;subst e;obtain⟨t,rfl⟩:=r1;have fin:∀b,b∈[s1.heap.objs.size]->kn X pins H1 b:=fun b hb=>by
  have e:b=s1.heap.objs.size:=by simpa using hb
  subst e;exact I1.fpOk (KJ _) (I1.hok.fresh (KJ _))
 cases ha:z.cps.all (·< 128)
 ·exact wpAny_pyIter_wide ha ⟨_,_,_,_,H1,rfl,I1.kept (t':=s1.toks) fun b o e=>KH _ e,mn (nm:="str_iterator") (fun A hA=>Walks.strWide hA _ z t) (by decide) (fun _ _ _ _ _ st h=>wpAny_pyIter_striter_wide st h),⟨_,KL _ rfl,rfl,rfl⟩,fin,q⟩
 ·exact wpAny_pyIter_ascii ha ⟨_,_,_,_,H1,rfl,I1.kept (t':=s1.toks) fun b o e=>KH _ e,mn (nm:="str_ascii_iterator") (fun A hA=>Walks.strAscii hA _ z t) (by decide) (fun _ _ _ _ _ st h=>wpAny_pyIter_striter_ascii st h),⟨_,KL _ rfl,rfl,rfl⟩,fin,q⟩
end
section
variable {X:Cx}
theorem oW:∀ {ss:List Str}{us:List Value},Vals (ss.map V.str) us->∃l:List (Str × Tok),us=strValues l/\l.map (·.1)=ss
 | [],us,r=>by cases r;exact⟨[],rfl,rfl⟩
 | z::ss,us,r=>by
  cases r with
  | cons a b =>obtain⟨t,rfl⟩:=a;obtain⟨l,rfl,e⟩:=oW b;exact⟨(z,t)::l,rfl,by rw[KO,e]⟩
theorem De:MtR X "str.join" (fun x vs H Q=>∃y l ss,x=.str y/\vs=[.ref l]/\SqL X.K H l (ss.map V.str)/\JoinOk y ss=true/\Q (.str (Txt.join y ss)) H):=by intro pins s σ H x vs v us Q I rx rv h;obtain⟨y,l,ss,rfl,rfl,h1,h2,q⟩:=h;obtain⟨t,rfl⟩:=rx;obtain⟨u,rfl,ru⟩:=cR rv;cases ru;obtain⟨its,ri,pl,_⟩:=I.list h1;obtain⟨ts,rfl,e⟩:=oW ri;exact SC.join pl.isList e h2 fun t' k=>⟨.str _,H,I.tok k,⟨t',rfl⟩,q⟩
end
end FW
namespace FW
open L2 HX
noncomputable def iY (env:Env):List (Str × NameKind)->List (Str × Addr)->List (Str × Addr)
 | [],cs=>cs
 | (x,k)::r,cs=>iY env r (if k == .free then (x,(env.cells.lookup x).getD 0)::cs else cs)
theorem ve {scope:Scope}{env:Env}(h:∀y∈scope.names,y.2=.free->∃c,env.cells.lookup y.1=some c):closureFor scope env=pure (iY env scope.names []):=by
 have key:∀(names:List (Str × NameKind)) (cs:List (Str × Addr)),(∀y∈names,y.2=.free->∃c,env.cells.lookup y.1=some c) ->
   (forIn names cs fun (x:Str × NameKind) (r:List (Str × Addr))=>(match x with
    | (name,kind)=>if (kind == NameKind.free)=true then (do let a <-cellOf env name;pure (ForInStep.yield ((name,a)::r)):Sem _) else pure (ForInStep.yield r)))=(pure (iY env names cs):Sem _):=by
  intro names
  induction names with
  | nil=>intro cs _;rfl
  | cons y r ih =>
   intro cs hy;obtain⟨x,k⟩:=y;rw[M9];by_cases hk:k=.free
   ·subst hk;obtain⟨c,e⟩:=hy _ KP rfl;have ec:cellOf env x=pure c:=by unfold cellOf;rw[e]
    simp only[beq_self_eq_true,if_true,ec];show (forIn r ((x,c)::cs) _:Sem _)=_;rw[ih _ fun y h=>hy y (KN _ h)];simp[iY,e]
   ·have hb:(k == NameKind.free)=false:=by simpa using hk
    simp only[hb,Bool.false_eq_true,if_false];show (forIn r cs _:Sem _)=_;rw[ih _ fun y h=>hy y (KN _ h)];simp[iY,hb]
 unfold closureFor;have:=key scope.names [] h;exact LP (fun z=>z >>= fun r=>pure r) this
theorem gD {env:Env}:∀ {names:List (Str × NameKind)}{cs:List (Str × Addr)}{x:Str}{c:Addr},(∀y∈names,y.2=.free->∃c,env.cells.lookup y.1=some c)->(∀x c,cs.lookup x=some c->env.cells.lookup x=some c) ->
  (iY env names cs).lookup x=some c->env.cells.lookup x=some c
 | [],cs,x,c,_,h,e=>h x c e
 | (y,k)::r,cs,x,c,hn,h,e=>by
  unfold iY at e;refine gD (fun z hz=>hn z (KN _ hz)) ?_ e;intro z d ez;by_cases hk:k=.free
  ·subst hk;obtain⟨c',ec⟩:=hn _ KP rfl;simp only[beq_self_eq_true,if_true,List.lookup_cons] at ez;by_cases q:z=y
   ·subst q;simp[ec] at ez;rw[ec,ez]
   ·have:(z == y)=false:=by simpa using q
    rw[this] at ez;exact h z d ez
  ·have hb:(k == NameKind.free)=false:=by simpa using hk
   rw[hb] at ez;exact h z d ez
theorem pF:∀ {names:List (Str × NameKind)}{cs:List (Str × Addr)}{x:Str},(∃c,cs.lookup x=some c)->∃c,(iY env names cs).lookup x=some c
 | [],cs,x,h=>h
 | (y,k)::r,cs,x,h=>by
  unfold iY;refine pF ?_;by_cases hk:k=.free
  ·subst hk;simp only[beq_self_eq_true,if_true,List.lookup_cons];by_cases q:x=y
   ·subst q;simp
   ·have:(x == y)=false:=by simpa using q
    rw[this];exact h
  ·have hb:(k == NameKind.free)=false:=by simpa using hk
   rw[hb];exact h
theorem nQ:∀ {names:List (Str × NameKind)}{cs:List (Str × Addr)}{x:Str},(x,NameKind.free)∈names->∃c,(iY env names cs).lookup x=some c
 | [],cs,x,h=>nomatch h
 | (y,k)::r,cs,x,h=>by
  unfold iY;rcases K8.mp h with e|h
  ·cases e;exact pF (by simp)
  ·exact nQ h
def PTs (X:Cx)(xs:List Expr)(t:TT):Prop :=
 ∀(pins:List (Addr × Obj)) (s:Shared) (σ:L2.St) (H:Hp) (Q:Bool->Hp->Prop),L2.Inv X pins σ H s->t σ H Q ->
  wpAny (model X.prog X.w) X.A (forIn xs true fun c r=>if r=true then do let ok <-isTrue c X.env (eval c X.env);pure (ForInStep.yield ok) else pure (ForInStep.yield r)) (TP X pins σ Q) X.xe s
theorem kO:∀xs:List Expr,(forIn xs false fun c r=>if r=true then do let ok <-isTrue c env (eval c env);pure (ForInStep.yield ok) else pure (ForInStep.yield r):Sem Bool)=pure false
 | []=>rfl
 | x::xs=>by rw[M9];simp only[Bool.false_eq_true,if_false];exact kO xs
theorem xf:PTs X [] (fun σ H Q=>Q true H):=fun pins s σ H Q I h=>KG ⟨H,I,h⟩
theorem sF (h1:PT X x t)(h2:PTs X xs u):PTs X (x::xs) (HV t u):=by
 intro pins s σ H Q I h;rw[M9];simp only[if_true];refine KF (KF (thn (h1 pins s σ H _ I h) fun b s1 ⟨H1,I1,q1⟩=>?_));refine KG ?_;cases b with
 | true =>rw[K1 rfl] at q1;exact h2 pins s1 σ H1 Q I1 q1
 | false =>rw[KW KI] at q1;show wpAny _ _ (forIn xs false _) _ _ _;rw[kO];exact KG ⟨H1,I1,q1⟩
theorem rR {R:Result->Shared->Prop}{s:Shared}{acc:Value}(I:Nat->Shared->Prop)(turn:∀n s,I n s->wpAny (model prog w) A (pyNext it) (fun r s₁=>match r with
   | none=>R (.ok .next) s₁
   | some v=>wpAny (model prog w) A (letOwnedTupleGo target it v) (fun _ s0=>wpAny (model prog w) A (assign target env v) (fun _ s₂ =>
     wpAny (model prog w) A (forIn ifs true fun c r=>if r=true then do let ok <-isTrue c env (eval c env);pure (ForInStep.yield ok) else pure (ForInStep.yield r)) (fun ok s₃ =>
      if ok=true then wpAny (model prog w) A (eval elt env) (fun x s₄ =>
       wpAny (model prog w) A (call (.builtin "list.append") [acc,x]) (fun _ s₅=>∃m,m<n/\I m s₅) (fun _ _=>False) s₄) (fun _ _=>False) s₃
      else ∃m,m<n/\I m s₃) (fun _ _=>False) s₂) (fun _ _=>False) s0) (fun _ _=>False) s₁) (fun _ _=>False) s)(n:Nat)(h:I n s):codeAny (model prog w) A (.compLoop (.ListComp elt [⟨target,iter,ifs,0⟩] scope pos) 0 it acc env) R s:=by
 refine codeAny_loop rfl I (fun n s hI=>?_) n h;show wpAny _ A ((compTurn (.ListComp elt [⟨target,iter,ifs,0⟩] scope pos) 0 it acc env).onRaise (fun x=>do noteFrame x env;theTreesLotGoes x)) _ _ s;refine wpAny_noted ?_;rw[compTurn_list];refine KF (wpAny_standAt (KF (wpAny_mono (turn n s hI) (fun r s₁ h₁=>?_) fun _ _ h'=>h'.elim)));cases r with
 | none=>exact KG h₁
 | some v =>
  refine KF (wpAny_mono h₁ (fun _ s0 h₁=>?_) fun _ _ h'=>h'.elim);refine KF (wpAny_mono h₁ (fun _ s₂ h₂=>KF (wpAny_mono h₂ (fun ok s₃ h₃=>?_) fun _ _ h'=>h'.elim)) fun _ _ h'=>h'.elim);cases ok with
  | false=>exact KG ⟨rfl,h₃⟩
  | true =>exact KF (KF (wpAny_mono h₃ (fun x s₄ h₄=>KF (wpAny_mono h₄ (fun _ s₅ h₅=>KG (KG ⟨rfl,h₅⟩)) fun _ _ h'=>h'.elim)) fun _ _ h'=>h'.elim))
noncomputable def cxC (X:Cx)(N:List Str)(s2:Shared)(H2:Hp)(fp:List Addr)(scope:Scope)(C:Addr):Cx :=
 { X with N:=N,s₀:=s2,H₀:=H2,env:=compEnvC scope (iY X.env scope.names []) C X.env,outer:=X.stack,stack:=X.stack,ex:=fp,fn:=fun _=>false,pn:=[],xe:=fun _ _=>False }
structure CScope (X:Cx)(scope:Scope):Prop where
 kind:scope.kind=.function
 nocell:∀y∈scope.names,y.2≠.cell
 nms:∀y∈scope.names,y.2=.local->scope.names.lookup y.1=some .local
 free:∀y∈scope.names,y.2=.free->X.env.kindOf y.1=some .cell\/X.env.kindOf y.1=some .free
theorem lh (h:(relabel scope env).names.lookup x=some k)(hk:k=.cell\/k=.free)(nc:∀y∈scope.names,y.2≠.cell):(x,NameKind.free)∈scope.names:=by
 have hm:=MG h;unfold relabel at hm;obtain⟨⟨n,k0⟩,hy,e⟩:=K7.mp hm;simp only at e;split at e
 ·rename_i hc;cases e;simp only[Bool.and_eq_true,beq_iff_eq] at hc;have:k0=.free:=hc.1.1;subst this;exact hy
 ·cases e;rcases hk with rfl|rfl
  ·exact absurd rfl (nc _ hy)
  ·exact hy
theorem jR {env:Env}:∀ {names:List (Str × NameKind)}{x:Str},names.lookup x=some .globalImplicit ->
  (names.map fun (n,k)=>if (k == NameKind.free && env.scope.kind == .function && env.kindOf n == some .cell) then (n,NameKind.cell) else (n,k)).lookup x=some .globalImplicit
 | [],_,h=>by simp at h
 | (n,k)::r,x,h=>by
  have ih:=@jR env r x;show List.lookup x ((if (k == NameKind.free && env.scope.kind == .function && env.kindOf n == some .cell)=true then (n,NameKind.cell) else (n,k))::_)=_;cases hx:x == n with
  | true =>simp only[List.lookup_cons,hx] at h;cases h;simp[List.lookup_cons,hx]
  | false =>
   simp only[List.lookup_cons,hx] at h;by_cases hc:(k == NameKind.free && env.scope.kind == .function && env.kindOf n == some .cell)=true
   ·rw[K1 hc];simp only[List.lookup_cons,hx];exact ih h
   ·rw[KW hc];simp only[List.lookup_cons,hx];exact ih h
theorem dW {env:Env}:∀ {names:List (Str × NameKind)}{x:Str},names.lookup x=some .free ->
  (names.map fun (n,k)=>if (k == NameKind.free && env.scope.kind == .function && env.kindOf n == some .cell) then (n,NameKind.cell) else (n,k)).lookup x=some .cell \/
  (names.map fun (n,k)=>if (k == NameKind.free && env.scope.kind == .function && env.kindOf n == some .cell) then (n,NameKind.cell) else (n,k)).lookup x=some .free
 | [],_,h=>by simp at h
 | (n,k)::r,x,h=>by
  have ih:=@dW env r x;show List.lookup x ((if (k == NameKind.free && env.scope.kind == .function && env.kindOf n == some .cell)=true then (n,NameKind.cell) else (n,k))::_)=_\/List.lookup x ((if (k == NameKind.free && env.scope.kind == .function && env.kindOf n == some .cell)=true then (n,NameKind.cell) else (n,k))::_)=_;cases hx:x == n with
  | true =>
   simp only[List.lookup_cons,hx] at h;cases h;by_cases hc:(NameKind.free == NameKind.free && env.scope.kind == .function && env.kindOf n == some .cell)=true
   ·rw[K1 hc];simp[List.lookup_cons,hx]
   ·rw[KW hc];simp[List.lookup_cons,hx]
  | false =>
   simp only[List.lookup_cons,hx] at h;by_cases hc:(k == NameKind.free && env.scope.kind == .function && env.kindOf n == some .cell)=true
   ·rw[K1 hc];simp only[List.lookup_cons,hx];exact ih h
   ·rw[KW hc];simp only[List.lookup_cons,hx];exact ih h
section
variable {X:Cx}{pins:List (Addr × Obj)}{σ:L2.St}{H2:Hp}{s2:Shared}{fp:List Addr}{scope:Scope}{C:Addr}{N:List Str}
theorem CScope.cells (S:CScope X scope)(I:L2.Inv X pins σ H2 s2):∀y∈scope.names,y.2=.free->∃c,X.env.cells.lookup y.1=some c:=fun y hy hf=>I.ok.has y.1 (S.free y hy hf)
theorem GS (S:CScope X scope)(I:L2.Inv X pins σ H2 s2)(f2:∀b∈fp,kn X pins H2 b)(fl:∀b∈fp,b<s2.heap.objs.size)(hC:s2.heap.objs.size<=C):(cxC X N s2 H2 fp scope C).Ok where
 mod:=I.ok.mod
 kind:=S.kind
 glob:=I.ok.glob
 blt:=I.ok.blt
 above:=hC
 inj:=fun x y c h1 h2=>I.ok.inj x y c (gD (S.cells I) (fun _ _ z=>by simp at z) h1) (gD (S.cells I) (fun _ _ z=>by simp at z) h2)
 has:=fun x hx=>by
  refine nQ (x:=x) ?_;rcases hx with h|h
  ·exact lh h (.inl rfl) S.nocell
  ·exact lh h (.inr rfl) S.nocell
 cab:=fun x c h=>by cases h
 hd:=I.ok.hd
 frames:=I.ok.frames
 stk:=.inl rfl
 exf:=fun b hb=>⟨K0 (KZ (fl b hb) hC),fun x c h=>(f2 b hb).2.2.2.2.1 x c (gD (S.cells I) (fun _ _ z=>by simp at z) h)⟩
 bs:=I.bs
 bsz:=K_ I.ok.bsz I.sz
 noex:=fun b o e hb=>by
  rcases (f2 b hb).2.2.2.1 with z|z
  ·exact I.ok.noex b o e z
  ·have:=KS e;exact absurd (KZ (KZ this I.ok.bsz) z) (MR _)
 exfs:=fun b hb hf=>by
  rcases K8.mp (I.stkSub b hf) with z|z
  ·exact(f2 b hb).2.1 z
  ·exact(f2 b hb).2.2.1 z
 funs:=I.stack
 frf:=I.stkFree
theorem zp {tk:Nat}{nt:List Str}{cn:List Str}{caps:List Nat}(S:CScope X scope)(I:L2.Inv X pins σ H2 s2)(f2:∀b∈fp,kn X pins H2 b)(fl:∀b∈fp,b<s2.heap.objs.size)(hC:s2.heap.objs.size<=C)(un:Un (frs X.stack) fp H2 H3 s2.heap h1)(hok:HOk X.prog X.w H3 h1)(ns:h1.Ns C (fun _=>none))(hn:H3 C=none)(keep:∀b o,s2.heap.get? b=some o->h1.get? b=some o)(free:∀b o,s2.heap.get? b=some o->H2 b=none->H3 b=none)(hcn:cn=caps.filterMap (X.N[·]?))(hcl:∀i∈caps,i<X.N.length)(hcf:∀x∈cn,scope.names.lookup x=some .free)(hce:∀x∈cn,X.env.kindOf x=some .cell\/X.env.kindOf x=some .free) :
  L2.Inv (cxC X (nt++cn) s2 H2 fp scope C) [] (nt.map (fun _=>none)++caps.map fun i=>(σ[i]?).join) H3 { s2 with heap:=h1,toks:=tk }:=by
 have cel:∀x c,(iY X.env scope.names []).lookup x=some c->X.env.cells.lookup x=some c:=fun x c h=>gD (S.cells I) (fun _ _ z=>by simp at z) h;have lenc:cn.length=caps.length:=by
  rw[hcn];clear hcf hce hcn
  induction caps with
  | nil=>rfl
  | cons i r ih =>have:X.N[i]?=some (X.N[i]'(hcl i KP)):=K6 (hcl i KP);rw[L5,this];simp only[List.length_cons];rw[ih fun j hj=>hcl j (KN _ hj)]
 have getc:∀(j i:Nat),caps[j]?=some i->∃x,cn[j]?=some x/\X.N[i]?=some x:=by
  rw[hcn];clear hcf hce hcn lenc
  induction caps with
  | nil=>intro j i h;simp at h
  | cons k r ih =>
   intro j i h;have hk:X.N[k]?=some (X.N[k]'(hcl k KP)):=K6 (hcl k KP);rw[L5,hk];cases j with
   | zero=>simp at h;subst h;exact⟨_,rfl,hk⟩
   | succ j=>exact ih (fun j hj=>hcl j (KN _ hj)) j i (by simpa using h)
 refine⟨GS S I f2 fl hC,rfl,I.bare,un,⟨_,ns,fun i x v e1 e2 e3=>?_⟩,fun x c e=>?_,hn,fun x c e=>?_,fun p hp=>absurd (show p∈([]:List (Addr × Obj)) from hp) (by simp),hok,?_⟩
 ·by_cases hi:i<nt.length
  ·rw[K9 (by simpa using hi),K2] at e2;cases q:nt[i]? with
   | none=>rw[q] at e2;cases e2
   | some z=>rw[q] at e2;cases e2
  ·rw[LH (by simpa using hi),LA,K2] at e2;have e1':(nt++cn)[i]?=some x:=e1;rw[LH (by omega)] at e1';cases q:caps[i-nt.length]? with
   | none=>rw[q] at e2;cases e2
   | some j =>
    rw[q] at e2;have e2':(σ[j]?).join=some v:=L7 e2;obtain⟨y,g1,g2⟩:=getc _ _ q;rw[e1'] at g1;cases g1;have e4:σ[j]?=some (some v):=by
     cases z:σ[j]? with
     | none=>rw[z] at e2';cases e2'
     | some w=>rw[z] at e2';rw[show w=some v from e2']
    obtain⟨m,hm,hl⟩:=I.loc;have kx:=hce x (K5 e1');obtain⟨u,ru,lk⟩:=hl j x v g2 e4 (.inr (by rcases kx with k|k;exact .inl k;exact .inr k));refine⟨u,ru,.inr ⟨dW (hcf x (K5 e1')),?_⟩⟩;rcases lk with⟨k,_⟩|⟨_,c,ec,hc⟩
    ·rcases kx with k' | k' <;> rw[k] at k' <;> cases k'
    ·obtain⟨c',ec'⟩:=nQ (env:=X.env) (names:=scope.names) (cs:=[]) (x:=x) (MG (hcf x (K5 e1')));have:=cel x c' ec';rw[ec] at this;cases this;obtain⟨o,ho,hd⟩:=hc;exact⟨c,ec',o,keep _ _ ho,hd⟩
 ·obtain⟨v,o,ho,hd⟩:=I.cell x c (cel x c e);exact⟨v,o,keep _ _ ho,hd⟩
 ·obtain⟨v,o,ho,hd⟩:=I.cell x c (cel x c e);exact free c o ho (I.freeC x c (cel x c e))
 ·show (nt.map (fun _=>(none:Option V))++caps.map fun i=>(σ[i]?).join).length=(nt++cn).length;simp[lenc]
end
end FW
namespace FW
open L2 HX
section
variable {Γ:Nat->FSp}
mutual
theorem pW (G:bD Γ):∀(t:Tg) {v:PV}{ρ:Fr}{st:AH}{Q:Fr->AH->Prop},t.low n=true->b7 Γ t v ρ st Q->b7 Γ t v ρ st fun ρ' st'=>Q ρ' st'/\∀i,n<=i->ρ'[i]?=ρ[i]?
 | .name i,v,ρ,st,Q,h,q=>by
  skip
  rw[Tg.low] at h;have:=LL h;exact⟨q,fun j hj=>KU (by omega)⟩
 | .tup ts,v,ρ,st,Q,h,q=>by
  skip
  rw[Tg.low] at h;obtain⟨xs,e,hl,q⟩:=q;exact⟨xs,e,hl,nB G ts h q⟩
 | .ltup ts,v,ρ,st,Q,h,q=>False.elim q
 | .sub _ _,v,ρ,st,Q,h,q=>by rw[Tg.low] at h;cases h
 | .subO _ _,v,ρ,st,Q,h,q=>by rw[Tg.low] at h;cases h
theorem nB (G:bD Γ):∀(t:Tgs) {v:List PV}{ρ:Fr}{st:AH}{Q:Fr->AH->Prop},t.low n=true->gE Γ t v ρ st Q->gE Γ t v ρ st fun ρ' st'=>Q ρ' st'/\∀i,n<=i->ρ'[i]?=ρ[i]?
 | .nil,v,ρ,st,Q,h,q=>by exact⟨q.1,q.2,fun _ _=>rfl⟩
 | .cons t ts,v,ρ,st,Q,h,q=>by
  skip
  rw[Tgs.low,KM] at h;obtain⟨x,r,e,q⟩:=q;refine⟨x,r,e,aO G t (fun ρ1 st1 k=>?_) (pW G t h.1 q)⟩;refine fV G ts (fun ρ2 st2 k2=>⟨k2.1,fun i hi=>(k2.2 i hi).trans (k.2 i hi)⟩) (nB G ts h.2 k.1)
end
end
mutual
theorem R.mono0 (ht:∀a ys,SqT K H a ys->SqT K H' a ys)(hr:∀a ys,RdF K H a ys->RdF K H' a ys):∀ {p:PV}{v:V},R K m H p v->R K m H' p v
 | .non,v,h=>by rw[R_non] at h |-;exact h
 | .bl b,v,h=>by rw[R_bl] at h |-;exact h
 | .int b,v,h=>by rw[R_int] at h |-;exact h
 | .str b,v,h=>by rw[R_str] at h |-;exact h
 | .ref n,v,h=>by rw[R_ref] at h |-;exact h
 | .tup xs,v,h=>by rw[R_tup] at h |-;obtain⟨a,ys,e,q,r⟩:=h;exact⟨a,ys,e,ht _ _ q,Rs.mono0 ht hr r⟩
 | .rdl xs,v,h=>by rw[R_rdl] at h |-;obtain⟨a,ys,e,q,r⟩:=h;exact⟨a,ys,e,hr _ _ q,Rs.mono0 ht hr r⟩
 | .fn a,v,h=>by rw[C9] at h |-;exact h
theorem Rs.mono0 (ht:∀a ys,SqT K H a ys->SqT K H' a ys)(hr:∀a ys,RdF K H a ys->RdF K H' a ys):∀ {ps:List PV}{vs:List V},Rs K m H ps vs->Rs K m H' ps vs
 | [],vs,h=>by rw[Rs_nil] at h |-;exact h
 | p::ps,vs,h=>by
  rw[Rs_cons] at h |-
  obtain⟨y,r,e,h1,h2⟩:=h;exact⟨y,r,e,R.mono0 ht hr h1,Rs.mono0 ht hr h2⟩
end
theorem eQ {H:Hp}{D:Addr}(hD:H D=some (.lst ys)):∀a us,SqT K H a us->SqT K (upd H D (.lst zs)) a us:=fun a us q=>by
 rcases q with (q|⟨w,q⟩)|q
 ·exact .inl (.inl (by rw[ag (fun z=>by subst z;rw[hD] at q;cases q)];exact q))
 ·exact .inl (.inr ⟨w,by rw[ag (fun z=>by subst z;rw[hD] at q;cases q)];exact q⟩)
 ·exact .inr q
theorem eO {H:Hp}{D:Addr}(hD:H D=some (.lst ys)):∀a us,RdF K H a us->RdF K (upd H D (.lst zs)) a us:=fun a us q=>by
 rcases q with⟨w,q⟩|q
 ·exact .inl ⟨w,by rw[ag (fun z=>by subst z;rw[hD] at q;cases q)];exact q⟩
 ·exact .inr q
theorem TB.away {D:Addr}(t:TB K H)(hD:H D=some (.lst ys)):TB K (upd H D (.lst zs)) :=
 t.keep (fun a ps q=>by rw[ag (fun z=>by subst z;rw[hD] at q;cases q)];exact q) fun a o q=>by rw[ag (fun z=>by subst z;rw[hD] at q;cases q)];exact q
theorem Ext.away {D:Addr}(x:Ext K m H m' H')(h0:H D=none)(hD:H' D=some (.lst ys)):Ext K m H m' (upd H' D (.lst zs)) :=
 ⟨x.pre,x.new,fun a o ha e n=>by rw[ag (ao e h0)];exact x.fr a o ha e n,fun a us q=>eQ hD a us (x.tup a us q),fun a us q=>eO hD a us (x.rdf a us q),fun a ps ha e=>let ⟨p1,e1⟩:=x.tbs a ps ha e;⟨p1,by rw[ag (ao e h0)];exact e1⟩,fun t=>(x.tb t).away hD,fun a o u e=>by rw[ag (ao e h0)];exact x.frz a o u e⟩
theorem RH.away {D:Addr}(h:RH K m H st)(hm:D ∉ m)(hD:H D=some (.lst ys)):RH K m (upd H D (.lst zs)) st:=by
 refine⟨h.len,h.nd,fun n c a h1 h2=>?_,h.tb.away hD⟩;have ha:a≠D:=fun z=>hm (z ▸ K5 h2);have hc:=h.at_ n c a h1 h2;cases c with
 | lst xs=>obtain⟨us,g1,g2⟩:=hc;exact⟨us,by rw[ag ha];exact g1,g2.mono0 (eQ hD) (eO hD)⟩
 | dk kvs=>obtain⟨us,g1,g2,g3⟩:=hc;exact⟨us,by rw[ag ha];exact g1,g2,g3.mono0 (eQ hD) (eO hD)⟩
 | fz kvs=>obtain⟨o,us,g1,g2,g3⟩:=hc;exact⟨o,us,by rw[ag ha];exact g1,g2,g3.mono0 (eQ hD) (eO hD)⟩
 | od kvs=>obtain⟨o,us,ws,g1,g2,g3,g4⟩:=hc;exact⟨o,us,ws,by rw[ag ha];exact g1,g2,g3.mono0 (eQ hD) (eO hD),g4.mono0 (eQ hD) (eO hD)⟩
theorem RF.away {D:Addr}(h:RF K m H ρ σ)(hD:H D=some (.lst ys)):RF K m (upd H D (.lst zs)) ρ σ :=
 ⟨h.len,fun i v e=>let ⟨y,e1,r⟩:=h.at_ i v e;⟨y,e1,r.mono0 (eQ hD) (eO hD)⟩⟩
theorem RF.less {ρ:Fr}{n:Nat}(h:RF K m H ρ' σ)(hl:ρ.length=ρ'.length)(hn:∀i v,ρ[i]?=some (some v)->n<=i)(hp:∀i,n<=i->ρ'[i]?=ρ[i]?):RF K m H ρ σ :=
 ⟨hl.trans h.len,fun i v e=>h.at_ i v (by rw[hp i (hn i v e)];exact e)⟩
theorem oR {nt:List Str}{f:Nat->Option PV}{caps:List Nat}:∀(i:Nat) (v:PV),(nt.map (fun _=>(none:Option PV))++caps.map f)[i]?=some (some v)->nt.length<=i:=fun i v e=>by
 by_cases hi:i<nt.length
 ·rw[K9 (by simpa using hi),K2] at e;cases q:nt[i]? with
  | none=>rw[q] at e;cases e
  | some z=>rw[q] at e;cases e
 ·omega
theorem DY {nt:List Str}{caps:List Nat}(h:RF K m H ρ σ) :
  RF K m H (nt.map (fun _=>none)++caps.map fun i=>(ρ[i]?).join) (nt.map (fun _=>none)++caps.map fun i=>(σ[i]?).join):=by
 refine⟨by simp,fun i v e=>?_⟩;have hi:=oR i v e;rw[LH (by simpa using hi),LA,K2] at e;rw[LH (by simpa using hi),LA,K2];cases q:caps[i-nt.length]? with
 | none=>rw[q] at e;cases e
 | some j =>
  rw[q] at e;have e':(ρ[j]?).join=some v:=L7 e;have e4:ρ[j]?=some (some v):=by
   cases z:ρ[j]? with
   | none=>rw[z] at e';cases e'
   | some w=>rw[z] at e';rw[show w=some v from e']
  obtain⟨y,e5,r⟩:=h.at_ j v e4;exact⟨y,by show some ((σ[j]?).join)=_;rw[e5];rfl,r⟩
section
variable {X:Cx}{Γ:Nat->FSp}{pins:List (Addr × Obj)}{σ:L2.St}{H:Hp}{s:Shared}
noncomputable def c5 (K:W.Frag)(m1:List Addr)(H1:Hp)(Fin:Addr->Hp->Prop):LK:=fun vs st2=>∀m2 H2 D ys,Ext K m1 H1 m2 H2->RH K m2 H2 st2->D ∉ m2->H1 D=none->H2 D=some (.lst ys)->Rs K m2 H2 vs ys->Fin D H2
noncomputable def di (Γ:Nat->FSp)(elt:E)(tg:Tg)(ifs:Es)(ρ:Fr):PV->AH->(Option PV->AH->Prop)->Prop:=fun x st2 k=>b7 Γ tg x ρ st2 fun ρ' st3=>gh Γ ifs ρ' st3 fun c st4=>if c=true then wpE Γ elt ρ' st4 fun v st5=>k (some v) st5 else k none st4
theorem ko (G:bD Γ)(hcalm:X.calm=true){tg:Tg}{nt:List Str}{caps:List Nat}{cn:List Str}{Fin:Addr->Hp->Prop}(S:CScope X scope)(hcn:cn=caps.filterMap (X.N[·]?))(hcl:∀i∈caps,i<X.N.length)(hcf:∀x∈cn,scope.names.lookup x=some .free)(hce:∀x∈cn,X.env.kindOf x=some .cell\/X.env.kindOf x=some .free)(hset:gy iterx=true)(hlow:tg.low nt.length=true)(hI:PI X tgx iterx wi)(hG:∀s2 H2 fp C,PG (cxC X (nt++cn) s2 H2 fp scope C) tgx (TGx X.K (b7 Γ tg)))(hT:∀s2 H2 fp C,PTs (cxC X (nt++cn) s2 H2 fp scope C) ifsx (TTx X.K (gh Γ ifs)))(hE:∀s2 H2 fp C,PE (cxC X (nt++cn) s2 H2 fp scope C) eltx (TEx X.K (wpE Γ elt)))(I:L2.Inv X pins σ H s)(h:wi σ H fun J H1=>∃m ρ st1 xs chk,RF X.K m H1 ρ σ/\RH X.K m H1 st1/\lJ X.K J xs chk m H1/\xs.length<100000/\cQ chk (di Γ elt tg ifs (nt.map (fun _=>none)++caps.map fun i=>(ρ[i]?).join)) xs [] st1 (c5 X.K m H1 Fin))(fin:∀C D H' s' m',L2.Inv X pins σ H' s'->s'.heap.Ns C m'->kn X pins H' C->Fin D H'->compPost (model X.prog X.w) X.A X.xe use Qf (.ref D) C (.ok .next) s') :
  wpAny (model X.prog X.w) X.A (comprehension (.ListComp eltx [⟨tgx,iterx,ifsx,0⟩] scope pos) scope X.env p0 (newList []) false (eval iterx X.env) use) Qf X.xe s:=by
 refine wpAny_comprehension_free (use:=use) rfl (mj hset) (ve (S.cells I)) S.kind S.nms ?_;refine thn (hI pins s σ H _ I h) fun v s1 h1=>thn h1 fun itv s2 h2=>?_;obtain⟨it,fp,tn,J,H2,e,I2,T,st2,f2,m,ρ,st1,xs,chk,rf,rh,W,hxs,w⟩:=h2;subst e;have fl:∀b∈fp,b<s2.heap.objs.size:=fun b hb=>by obtain⟨o,e,_⟩:=T.obj 0 _ st2 b hb;exact KS e
 refine wpAny_newObj_type (wpAny_newFunctionEnv S.nocell (by intro y hy;simp at hy) (fun h₁ hns₁ hsb₁=>?_) S.kind);dsimp only at hns₁ hsb₁ |-
 generalize hD:s2.heap.objs.size=D at *;generalize hH3:s2.heap.push { cls:=.type "list",dict:=none,data:=.seq ([]:List Value).toArray }=P3 at hns₁ hsb₁ |-
 generalize hCC:P3.objs.size=C at *;have hC1:C=D+1:=by rw[<-hCC,<-hH3,MK,hD]
 have ltDC:D<C:=by rw[hC1];exact M4 D
 have neC:∀b,b<D->b≠C:=fun b hb=>K0 (MX hb ltDC);have hDn:H2 D=none:=by rw[<-hD];exact I2.hok.fresh (KJ _)
 have hCn:H2 C=none:=I2.hok.fresh (by rw[hD];exact L0 ltDC);have old3:∀b o,s2.heap.get? b=some o->P3.get? b=some o:=fun b o e=>hH3 ▸ KH _ e;have old:∀b o,s2.heap.get? b=some o->h₁.get? b=some o:=fun b o e=>hsb₁.extBut b o (neC b (hD ▸ KS e)) (KH _ (old3 b o e));have newD:h₁.get? D=some { cls:=.type "list",data:=.seq #[] }:=hsb₁.extBut _ _ (K0 ltDC) (KH _ (by rw [<-hH3,<-hD];exact KL _ rfl));have un:Un (frs X.stack) fp H2 (upd H2 D (.lst [])) s2.heap h₁:=Un.laid old (by rw[hD];exact KJ _) hDn;have hok:HOk X.prog X.w (upd H2 D (.lst [])) h₁:=I2.hok.laid old (by rw[hD];exact KJ _) ⟨LS _,[],0,.nil,newD⟩;have I4:=zp (nt:=nt) (tk:=s2.toks+([]:List (Str × Value)).length) S I2 f2 (by rw[hD];exact fl) (C:=C) (by rw[hD];exact L0 ltDC) un hok (by simpa using hns₁) (by rw[ag (ME ltDC)];exact hCn) old
  (fun b o e n=>by rw[ag (K0 (hD ▸ KS e))];exact n) hcn hcl hcf hce
 generalize hρ0:(nt.map (fun _=>none)++caps.map fun i=>(ρ[i]?).join:Fr)=ρ0 at w;have hρn:∀i v,ρ0[i]?=some (some v)->nt.length<=i:=by rw[<-hρ0];exact oR
 have rf0:RF X.K m H2 ρ0 (nt.map (fun _=>none)++caps.map fun i=>(σ[i]?).join):=by rw[<-hρ0];exact DY rf
 generalize (nt.map (fun _=>none)++caps.map fun i=>(σ[i]?).join:L2.St)=σ0 at I4 rf0;have loop:codeAny (model X.prog X.w) X.A (.compLoop (.ListComp eltx [⟨tgx,iterx,ifsx,0⟩] scope pos) 0 (.ref it) (.ref D) (compEnvC scope (iY X.env scope.names []) C X.env)) (compPost (model X.prog X.w) X.A X.xe use Qf (.ref D) C)
   { s2 with heap:=h₁,toks:=s2.toks+([]:List (Str × Value)).length }:=by
  refine rR (fun n s'=>∃(i:Nat),∃σ' H' m' st' acc ys,n+i=xs.length/\L2.Inv (cxC X (nt++cn) s2 H2 fp scope C) [] σ' H' s'/\tn i s'.heap/\(∀b∈fp,H' b=none)/\Ext X.K m H2 m' H'/\RH X.K m' H' st'/\RF X.K m' H' ρ0 σ'/\D ∉ m'/\H' D=some (.lst ys)/\Rs X.K m' H' acc ys/\ys.length<=i /\
   cQ chk (di Γ elt tg ifs ρ0) (xs.drop i) acc st' (c5 X.K m H2 Fin)) ?_ xs.length
   ⟨0,σ0,_,m,st1,[],[],rfl,I4,T.keep 0 _ _ st2 (fun b _ o e=>old b o e),fun b hb=>by rw[ag (K0 (fl b hb))];exact(f2 b hb).1,Ext.newT rh hDn,rh.newT hDn,rf0.mono (Ext.newT rh hDn),rh.fresh hDn,aA,Rs_nil.mpr rfl,KJ _,by simpa using w⟩
  rintro n s' ⟨i,σ',H',m',st',acc,ys,hn,I',tni,fpn,x',rh',rf',Dm,hDl,rys,hly,k⟩;have stat:∀ {H'':Hp},(∀b∈fp,H'' b=none)->∀b∈fp,kn (cxC X (nt++cn) s2 H2 fp scope C) [] H'' b:=fun hz b hb=>⟨hz b hb,(I'.ok.exf b hb).1,I'.ok.exfs b hb,.inl hb,(I'.ok.exf b hb).2,fun p hp=>absurd (show p∈([]:List (Addr × Obj)) from hp) (by simp)⟩;cases q:xs.drop i with
  | nil =>
   rw[q] at k;have hi:i=xs.length:=by have:=LP List.length q;simp at this;omega
   subst hi;refine thn (T.done (cxC X (nt++cn) s2 H2 fp scope C) rfl rfl rfl hcalm _ [] s' σ' H' (fun _ _=>False) I' (stat fpn) tni (W.stop m' H' st' x' rh' k.1)) fun r s1 ⟨hr,I1⟩=>?_;subst hr;have IX:L2.Inv X pins σ H' s1:=I2.call' I1.os I1.base I1.hok I1.bare fun b hb=>⟨(f2 b hb).2.2.2.1,(f2 b hb).2.1,(f2 b hb).2.2.2.2.1,(f2 b hb).2.2.2.2.2⟩;obtain⟨mm,hns,_⟩:=I1.loc;exact fin C D H' s1 mm IX hns (I2.fpOk (by rw[hD];exact L0 ltDC) I1.free) (k.2 m' H' D ys x' rh' Dm hDn hDl rys)
  | cons v rest =>
   rw[q] at k;have hi:i<xs.length:=by have:=LP List.length q;simp at this;omega
   have ev:xs[i]?=some v:=by have:=LP List.head? q;rw[OF] at this;exact this
   have er:rest=xs.drop (i+1):=by have:=LP List.tail q;rw[OO] at this;exact this.symm
   subst er;obtain⟨kc,k⟩:=k;obtain⟨go,yl⟩:=W.item i v m' H' st' x' rh' kc ev;refine thn (T.item (cxC X (nt++cn) s2 H2 fp scope C) rfl rfl rfl hcalm i [] s' σ' H' (fun _ _=>False) I' (stat fpn) tni go) fun r s4 ⟨u,hr,h4⟩=>?_;subst hr;refine thn h4 fun _ s5 ⟨x,H5,I5,r5,y5,tn5,fr5⟩=>?_;obtain⟨x5,rh5,rv5⟩:=yl x H5 y5;have I5':=I5.pinned (stat fr5) (T.obj _ _ tn5);have again:∀ {σ7:L2.St}{H7:Hp}{s7:Shared}{m7:List Addr}{st7:AH}{acc7:List PV}{ys7:List V},L2.Inv (cxC X (nt++cn) s2 H2 fp scope C) ([]++mi fp s5.heap) σ7 H7 s7->Ext X.K m H2 m7 H7->RH X.K m7 H7 st7->RF X.K m7 H7 ρ0 σ7->D ∉ m7->H7 D=some (.lst ys7) ->
     Rs X.K m7 H7 acc7 ys7->ys7.length<=i+1->cQ chk (di Γ elt tg ifs ρ0) (xs.drop (i+1)) acc7 st7 (c5 X.K m H2 Fin) ->
     ∃n',n'<n/\∃(i:Nat),∃σ' H' m' st' acc ys,n'+i=xs.length/\L2.Inv (cxC X (nt++cn) s2 H2 fp scope C) [] σ' H' s7/\tn i s7.heap/\(∀b∈fp,H' b=none)/\Ext X.K m H2 m' H'/\RH X.K m' H' st'/\RF X.K m' H' ρ0 σ'/\D ∉ m'/\H' D=some (.lst ys)/\Rs X.K m' H' acc ys/\ys.length<=i /\
      cQ chk (di Γ elt tg ifs ρ0) (xs.drop i) acc st' (c5 X.K m H2 Fin):=fun {σ7 H7 s7 m7 st7 acc7 ys7} I7 g1 g2 g3 g4 g5 g6 g7 g8=>by
    refine⟨n-1,by omega,i+1,σ7,H7,m7,st7,acc7,ys7,by omega,I7.unpinned,T.keep _ _ _ tn5 fun b hb o e=>(I7.pin (b,o) (LX _ (LX _ (fS hb e)))).1,fun b hb=>?_,g1,g2,g3,g4,g5,g6,g7,g8⟩;obtain⟨o,e,d⟩:=T.obj _ _ tn5 b hb;exact(I7.pin (b,o) (LX _ (LX _ (fS hb e)))).2.1
   have k2:=pW (n:=nt.length) G tg hlow k;refine thn (hG s2 H2 fp C _ s5 σ' H5 x u (fun σ6 H6=>∃m6 ρ1 st6,Ext X.K m' H5 m6 H6/\RH X.K m6 H6 st6/\RF X.K m6 H6 ρ1 σ6/\(∀j,nt.length<=j->ρ1[j]?=ρ0[j]?) /\
    gh Γ ifs ρ1 st6 fun c st4=>if c=true then wpE Γ elt ρ1 st4 fun vv st5=>cQ chk (di Γ elt tg ifs ρ0) (xs.drop (i+1)) (acc++[vv]) st5 (c5 X.K m H2 Fin) else cQ chk (di Γ elt tg ifs ρ0) (xs.drop (i+1)) acc st4 (c5 X.K m H2 Fin)) I5' r5
    ⟨m',ρ0,st',v,rf'.mono x5,rh5,rv5,aO G tg (fun ρ1 st6 z m6 H6 σ6 x6 rh6 rf6=>⟨m6,ρ1,st6,x6,rh6,rf6,z.2,bC G ifs (fun c st4 zz=>by
     cases c with
     | true=>rw[K1 rfl] at zz |-;exact zz
     | false=>rw[KW KI] at zz |-;simpa using zz) z.1⟩) k2⟩) fun _ s6 ⟨σ6,H6,I6,m6,ρ1,st6,x6,rh6,rf6,pr,w6⟩=>?_
   have hlen:ρ0.length=ρ1.length:=by rw[rf6.len,I6.len,rf'.len,I'.len]
   refine thn (hT s2 H2 fp C _ s6 σ6 H6 (fun b H7=>∃m7 st7,Ext X.K m6 H6 m7 H7/\RH X.K m7 H7 st7/\if b=true then wpE Γ elt ρ1 st7 fun vv st5=>cQ chk (di Γ elt tg ifs ρ0) (xs.drop (i+1)) (acc++[vv]) st5 (c5 X.K m H2 Fin) else cQ chk (di Γ elt tg ifs ρ0) (xs.drop (i+1)) acc st7 (c5 X.K m H2 Fin)) I6
    ⟨m6,ρ1,st6,rf6,rh6,bC G ifs (fun b st7 z m7 H7 x7 rh7=>⟨m7,st7,x7,rh7,z⟩) w6⟩) fun b s7 ⟨H7,I7,m7,st7,x7,rh7,w7⟩=>?_
   have xx7:Ext X.K m' H' m7 H7:=(x5.trans x6).trans x7;cases b with
   | false =>
    rw[KW KI] at w7 |-
    refine again I7 (x'.trans xx7) rh7 ((rf6.mono x7).less hlen hρn pr) (fun z=>?_) (xx7.fr D _ Dm hDl fun _ z=>nomatch z) (rys.mono xx7) (by omega) w7;rcases xx7.new D z with z|z
    ·exact Dm z
    ·rw[hDl] at z;cases z
   | true =>
    rw[K1 rfl] at w7 |-
    refine thn (hE s2 H2 fp C _ s7 σ6 H7 (fun y H8=>∃m8 st8 vv,Ext X.K m7 H7 m8 H8/\RH X.K m8 H8 st8/\R X.K m8 H8 vv y/\cQ chk (di Γ elt tg ifs ρ0) (xs.drop (i+1)) (acc++[vv]) st8 (c5 X.K m H2 Fin)) I7
     ⟨m7,ρ1,st7,rf6.mono x7,rh7,ae G elt (fun vv st8 z m8 H8 y x8 rh8 r8=>⟨m8,st8,vv,x8,rh8,r8,z⟩) w7⟩) fun uy s8 ⟨y,H8,I8,ry,m8,st8,vv,x8,rh8,r8,w8⟩=>?_
    have xx8:Ext X.K m' H' m8 H8:=xx7.trans x8;have hD8:H8 D=some (.lst ys):=xx8.fr D _ Dm hDl fun _ z=>nomatch z;have Dm8:D ∉ m8:=fun z=>by
     rcases xx8.new D z with z|z
     ·exact Dm z
     ·rw[hDl] at z;cases z
    refine thn (pD (X:=cxC X (nt++cn) s2 H2 fp scope C) _ s8 σ6 H8 (.ref D) [y] (.ref D) [uy] (fun _ H9=>H9=upd H8 D (.lst (ys++[y]))) I8 rfl (.cons ry .nil) ⟨D,ys,y,rfl,rfl,hD8,cZ (by omega),rfl⟩) fun _ s9 ⟨_,H9,I9,_,e9⟩=>?_;subst e9;exact again I9 ((x'.trans xx8).away hDn hD8) (rh8.away Dm8 hD8) ((((rf6.mono x7).mono x8).less hlen hρn pr).away hD8) Dm8 aA (((rys.mono xx8).app (.one r8)).mono0 (eQ hD8) (eO hD8)) (by simp;omega) w8
 exact codeAny_compStart_list loop (T.self X.A 0 _ _ _ (T.keep 0 _ _ st2 fun b _ o e=>old b o e) loop)
end
end FW
namespace FW
open L2 HX
mutual
theorem R.pre {m:List Addr}(hp:m <+: m'):∀ {p:PV}{v:V},R K m H p v->R K m' H p v
 | .non,v,h=>by rw[R_non] at h |-;exact h
 | .bl b,v,h=>by rw[R_bl] at h |-;exact h
 | .int b,v,h=>by rw[R_int] at h |-;exact h
 | .str b,v,h=>by rw[R_str] at h |-;exact h
 | .fn b,v,h=>by rw[C9] at h |-;exact h
 | .ref n,v,h=>by rw[R_ref] at h |-;obtain⟨a,e,q⟩:=h;exact⟨a,eU hp e,q⟩
 | .tup xs,v,h=>by rw[R_tup] at h |-;obtain⟨a,ys,e,q,r⟩:=h;exact⟨a,ys,e,q,Rs.pre hp r⟩
 | .rdl xs,v,h=>by rw[R_rdl] at h |-;obtain⟨a,ys,e,q,r⟩:=h;exact⟨a,ys,e,q,Rs.pre hp r⟩
theorem Rs.pre {m:List Addr}(hp:m <+: m'):∀ {ps:List PV}{vs:List V},Rs K m H ps vs->Rs K m' H ps vs
 | [],vs,h=>by rw[Rs_nil] at h |-;exact h
 | p::ps,vs,h=>by
  rw[Rs_cons] at h |-
  obtain⟨y,r,e,h1,h2⟩:=h;exact⟨y,r,e,R.pre hp h1,Rs.pre hp h2⟩
end
section
variable {Γ:Nat->FSp}{X:Cx}{c:Cfg}
theorem xp (h:yL k=true):k=some .cell\/k=some .free:=by unfold yL at h;simpa using h
end
end FW
namespace FW
open L2 HX
theorem Jh (h:(aF P w).is k u=true):L2.RelV (kV k) u:=by
 rcases aP h with⟨i,t,rfl,rfl⟩|⟨x,t,rfl,rfl⟩
 ·exact⟨t,rfl⟩
 ·exact⟨t,rfl⟩
def ObD (P:Program)(w:World)(a:Addr)(o:Obj)(ys:List (Key × V))(vs:List (Key × Value))(ep:Nat):Prop:=KV ys vs/\∀h:Heap,h.get? a=some o->h.DictAt (aF P w) a vs ep
noncomputable def ItF (wk:DW)(a:Addr)(o:Obj)(ys:List (Key × V)):L2.It :=
 ⟨fun i H=>i<ys.length/\H a=some (.frz o (.dK ys)),fun i H x H'=>∃p,ys[i]?=some p/\match wk with
  | .values=>H'=H/\x=p.2
  | .items=>∃T,x=.ref T/\H T=none/\H'=upd H T (.tup [kV p.1,p.2]),fun i H=>i=ys.length/\H a=some (.frz o (.dK ys))⟩
theorem KV.at {ys:List (Key × V)}{vs:List (Key × Value)}(h:KV ys vs){i:Nat}{p:Key × V}(e:ys[i]?=some p):∃q,vs[i]?=some q/\p.1=q.1/\L2.RelV p.2 q.2:=by
 unfold KV at h
 induction h generalizing i with
 | nil=>simp at e
 | cons f t ih =>
  cases i with
  | zero=>simp at e;subst e;exact⟨_,rfl,f.1,f.2⟩
  | succ i=>obtain⟨q,e1,e2⟩:=ih (by simpa using e);exact⟨q,by simpa using e1,e2⟩
theorem sW {P:Program}{w:World}{K:W.Frag}{tg:Expr}{it a:Addr}{o:Obj}{ys:List (Key × V)}{vs:List (Key × Value)}{ep:Nat}(hO:ObD P w a o ys vs ep) :
  rj P w K tg (ItF .values a o ys) [it] it (fun i h=>h.IsValIter it a i vs.length ep) where
 mem:=by simp
 obj:=fun i h st b hb=>by
  have e:b=it:=by simpa using hb
  subst e;obtain⟨u,e,c,d⟩:=st;exact⟨u,e,fun v z=>by rw[d] at z;cases z⟩
 keep:=fun i h h' st k=>by obtain⟨u,e,r⟩:=st;exact⟨u,k it (by simp) u e,r⟩
 item:=by intro X hP hw hK hc i pins s σ H E I hf st hg;subst hP hw hK;obtain⟨f0,f1,f2,f3,f4,f5⟩:=hf it (by simp);obtain⟨hi,hF⟩:=hg;have hd:=hO.2 _ (I.hok a _ hF).1;obtain⟨p,hp⟩:∃p,ys[i]?=some p:=⟨ys[i],by simp[hi]⟩;obtain⟨q,e1,e2,e3⟩:=KV.at hO.1 hp;refine wpAny_pyNext_values_item (k:=q.1) (v:=q.2) st hd e1 fun h' st' sb=>?_;have I1:L2.Inv X pins σ H { s with heap:=h' }:=I.turned (t':=s.toks) (fun b u hb e=>sb.extBut b u hb e) f0 f1 f3 f4 f5;obtain⟨u,e,cc,dd⟩:=id st';exact⟨_,rfl,tZ (s:={ s with heap:=h' }) e cc dd (by decide) ⟨p.2,H,I1,e3,⟨p,hp,rfl,rfl⟩,st',fun b hb=>(hf b hb).1⟩⟩
 done:=by intro X hP hw hK hc i pins s σ H E I hf st hg;subst hP hw hK;obtain⟨f0,f1,f2,f3,f4,f5⟩:=hf it (by simp);obtain⟨hi,hF⟩:=hg;have hd:=hO.2 _ (I.hok a _ hF).1;exact wpAny_pyNext_values_end (I.ok.hd hc) st hd (L4 (by rw[hi,hO.1.length];exact KJ _)) fun h' kk=>⟨rfl,I.turned (t':=s.toks) (fun b u hb e=>kk b u hb e) f0 f1 f3 f4 f5⟩
 self:=fun _ _ _ _ _ st h=>wpAny_pyIter_valiter st h
theorem nA {P:Program}{w:World}{K:W.Frag}{elts:List Expr}{kt:Nat}{pt:Pos}{it a:Addr}{o:Obj}{ys:List (Key × V)}{vs:List (Key × Value)}{ep:Nat}(hO:ObD P w a o ys vs ep) :
  rj P w K (.Tuple elts kt pt) (ItF .items a o ys) [it] it (fun i h=>∃x y,IsItemIter h it a i vs.length ep x y) where
 mem:=by simp
 obj:=fun i h st b hb=>by
  have e:b=it:=by simpa using hb
  subst e;obtain⟨x,y,e⟩:=st;exact⟨_,e,fun v z=>nomatch z⟩
 keep:=fun i h h' st k=>by obtain⟨x,y,e⟩:=st;exact⟨x,y,k it (by simp) _ e⟩
 item:=by
  intro X hP hw hK hc i pins s σ H E I hf st hg;subst hP hw hK;obtain⟨hi,hF⟩:=hg;have hd:=hO.2 _ (I.hok a _ hF).1;obtain⟨p,hp⟩:∃p,ys[i]?=some p:=⟨ys[i],by simp[hi]⟩;obtain⟨q,e1,e2,e3⟩:=KV.at hO.1 hp;obtain⟨x,y,st⟩:=st;refine wpAny_pyNext_items_item (k:=q.1) (v:=q.2) st hd e1 fun key h' hk st' hT hz kk=>?_;refine⟨_,rfl,wpAny_letOwnedTupleGo_items (s:={ s with heap:=h' }) st' fun h'' st2 sb=>?_⟩;have hlt:it<s.heap.objs.size:=KS st;have Tn:s.heap.objs.size≠it:=ME hlt;have rk:L2.RelV (kV p.1) key:=by rw[e2];exact Jh hk
  have I2:L2.Inv X pins σ (upd H s.heap.objs.size (.tup [kV p.1,p.2])) { s with heap:=h'' }:=rP (t':=s.toks) (its:=[key,q.2]) (wr:=[it]) I (fun b u hb e=>by
   have hb:b≠it:=by simpa using hb
   rw[sb.2 b hb];exact kk b u hb e) (fun b hb=>hf b hb) (KJ _) (.cons rk (.cons e3 .nil)) (by show 2<=sizeLine;decide) ⟨_,by rw[sb.2 _ Tn];exact hT,rfl,0,rfl⟩
  refine⟨.ref _,_,I2,rfl,⟨p,hp,_,rfl,I.hok.fresh (KJ _),rfl⟩,⟨_,_,st2⟩,fun b hb=>?_⟩;have e:b=it:=by simpa using hb
  subst e;rw[ag (K0 hlt)];exact(hf b hb).1
 done:=by intro X hP hw hK hc i pins s σ H E I hf st hg;subst hP hw hK;obtain⟨f0,f1,f2,f3,f4,f5⟩:=hf it (by simp);obtain⟨hi,hF⟩:=hg;have hd:=hO.2 _ (I.hok a _ hF).1;obtain⟨x,y,st⟩:=st;exact wpAny_pyNext_items_end (I.ok.hd hc) st hd (L4 (by rw[hi,hO.1.length];exact KJ _)) fun h' kk=>⟨rfl,I.turned (t':=s.toks) (fun b u hb e=>kk b u hb e) f0 f1 f3 f4 f5⟩
 self:=fun A i s Q E st h=>by obtain⟨x,y,st⟩:=st;exact W.kcp_self st h
theorem JN:R K m H (kP k) (kV k):=by
 cases k with
 | inl i=>exact R_int.mpr rfl
 | inr x=>exact R_str.mpr rfl
theorem jS:∀ {kvs:List (Key × PV)}{ys:List (Key × V)}{i:Nat}{p:Key × V},ys.map (·.1)=kvs.map (·.1)->Rs K m H (kvs.map (·.2)) (ys.map (·.2))->ys[i]?=some p->∃q,kvs[i]?=some q/\q.1=p.1/\R K m H q.2 p.2
 | [],ys,i,p,e,r,h=>by
  cases ys with
  | nil=>simp at h
  | cons _ _=>simp at e
 | q::kvs,ys,i,p,e,r,h=>by
  cases ys with
  | nil=>simp at h
  | cons y ys =>
   simp only[List.map_cons,List.cons.injEq] at e;rw[KO,KO,Rs_cons'] at r;cases i with
   | zero=>simp at h;subst h;exact⟨q,rfl,e.1.symm,r.1⟩
   | succ i=>obtain⟨z,h1,h2⟩:=jS e.2 r.2 (show ys[i]?=some p by simpa using h);exact⟨z,by simpa using h1,h2⟩
theorem Cp {H0:Hp}{kvs:List (Key × PV)}(hF:H0 a=some (.frz o (.dK ys)))(r1:ys.map (·.1)=kvs.map (·.1))(r2:Rs K m0 H0 (kvs.map (·.2)) (ys.map (·.2))) :
  lJ K (ItF wk a o ys) (bF wk kvs) (fun _=>True) m0 H0:=by
 have hl:ys.length=kvs.length:=by simpa using LP List.length r1
 have hw:(bF wk kvs).length=ys.length:=by cases wk <;> simp[bF,hl]
 refine⟨fun m H st x r q=>⟨hw,x.frz _ _ _ hF⟩,fun i v m H st x r q ev=>?_⟩;have hi:i<ys.length:=by rw[<-hw];exact(KQ.mp ev).1
 refine⟨⟨hi,x.frz _ _ _ hF⟩,?_⟩;rintro y H' ⟨p,hp,z⟩;obtain⟨u,hu,e1,e2⟩:=jS r1 r2 hp;cases wk with
 | values =>
  obtain⟨rfl,rfl⟩:=z;have:(bF .values kvs)[i]?=some u.2:=by unfold bF;rw[K2,hu];rfl
  rw[this] at ev;cases ev;exact⟨Ext.refl _ _ _,r,e2.mono x⟩
 | items =>
  obtain⟨T,rfl,hT,rfl⟩:=z;have:(bF .items kvs)[i]?=some (.tup [kP u.1,u.2]):=by unfold bF;rw[K2,hu];rfl
  rw[this] at ev;cases ev;have xT:=Ext.newT (o:=.tup [kV p.1,p.2]) r hT;refine⟨xT,r.newT hT,R_tup.mpr ⟨T,_,rfl,SqT.of aA,?_⟩⟩;rw[Rs_cons',Rs_cons',Rs_nil];exact⟨by rw[e1];exact JN,(e2.mono x).mono xT,rfl⟩
end FW
namespace FW
open L2 HX
section
variable {X:Cx}{pins:List (Addr × Obj)}{σ:L2.St}{H:Hp}{s:Shared}{a:Addr}{ys:List (Key × V)}{o:Obj}
theorem gY (I:L2.Inv X pins σ H s)(e:H a=some (.dK ys))(ho:s.heap.get? a=some o):L2.Inv X pins σ (upd H a (.frz o (.dK ys))) s:=by
 have nh:∀b u,H b=some u->(∀zs,u≠.dK zs)->upd H a (.frz o (.dK ys)) b=some u:=fun b u q n=>by rw[ag (fun z=>by subst z;rw[e] at q;cases q;exact n _ rfl)];exact q
 have no:∀b,H b=none->upd H a (.frz o (.dK ys)) b=none:=fun b q=>by rw[ag (fun z=>by subst z;rw[e] at q;cases q)];exact q
 refine⟨I.ok,I.os,I.bare,⟨I.base.keep,I.base.slot,fun b u q n hx=>no b (I.base.free b u q n hx),I.base.there,fun b xs q=>nh b _ (I.base.tups b xs q) (fun _ z=>nomatch z),fun b u v q=>nh b _ (I.base.frzs b u v q) (fun _ z=>nomatch z),fun b ps q=>let ⟨m,z⟩:=I.base.tbls b ps q;⟨m,nh b _ z (fun _ z=>nomatch z)⟩⟩,I.loc,I.cell,no _ I.free,fun x c q=>no _ (I.freeC x c q),fun p hp=>let ⟨h1,h2,h3⟩:=I.pin p hp;⟨h1,no _ h2,h3⟩,fun b u q=>?_,I.len⟩;have st:∀ {b:Addr}{u:HO},ObjOk X.prog X.w H s.heap b u->ObjOk X.prog X.w (upd H a (.frz o (.dK ys))) s.heap b u:=fun {b u} x=>x.stay (fun _ _ _ q=>q) (fun c q=>nh c _ q (fun _ z=>nomatch z)) fun c xs q=>nh c _ q fun _ z=>nomatch z;by_cases hb:b=a
 ·subst hb;rw[aA] at q;cases q;exact⟨ho,st (I.hok b _ e)⟩
 ·rw[ag hb] at q;exact st (I.hok b u q)
theorem mE (I:L2.Inv X pins σ H s)(e:H a=some (.frz o (.dK ys)))(hz:∀u q,X.H₀ a≠some (.frz u q)):L2.Inv X pins σ (upd H a (.dK ys)) s:=by
 have nh:∀b u,H b=some u->(∀w zs,u≠.frz w (.dK zs))->upd H a (.dK ys) b=some u:=fun b u q n=>by rw[ag (fun z=>by subst z;rw[e] at q;cases q;exact n _ _ rfl)];exact q
 have no:∀b,H b=none->upd H a (.dK ys) b=none:=fun b q=>by rw[ag (fun z=>by subst z;rw[e] at q;cases q)];exact q
 refine⟨I.ok,I.os,I.bare,⟨I.base.keep,I.base.slot,fun b u q n hx=>no b (I.base.free b u q n hx),I.base.there,fun b xs q=>nh b _ (I.base.tups b xs q) (fun _ _ z=>nomatch z),fun b u v q=>by rw[ag (fun z=>by subst z;exact hz _ _ q)];exact I.base.frzs b u v q,fun b ps q=>let ⟨m,z⟩:=I.base.tbls b ps q;⟨m,nh b _ z (fun _ _ z=>nomatch z)⟩⟩,I.loc,I.cell,no _ I.free,fun x c q=>no _ (I.freeC x c q),fun p hp=>let ⟨h1,h2,h3⟩:=I.pin p hp;⟨h1,no _ h2,h3⟩,fun b u q=>?_,I.len⟩;have st:∀ {b:Addr}{u:HO},ObjOk X.prog X.w H s.heap b u->ObjOk X.prog X.w (upd H a (.dK ys)) s.heap b u:=fun {b u} x=>x.stay (fun _ _ _ q=>q) (fun c q=>nh c _ q (fun _ _ z=>nomatch z)) fun c xs q=>nh c _ q fun _ _ z=>nomatch z;by_cases hb:b=a
 ·subst hb;rw[aA] at q;cases q;exact st (I.hok b _ e).2
 ·rw[ag hb] at q;exact st (I.hok b u q)
theorem uI (I:L2.Inv X pins σ H s)(e:H a=some (.dK ys)):∀u q,X.H₀ a≠some (.frz u q):=fun u q z=>by have:=I.base.frzs a u q z;rw[e] at this;cases this
end
section
variable {K:W.Frag}{m m2:List Addr}{H H2:Hp}{st:AH}{n:Nat}{a:Addr}{o:Obj}{ys:List (Key × V)}{kvs:List (Key × PV)}
theorem RH.frz (h:RH K m H st)(e:m[n]?=some a)(g:H a=some (.dK ys))(r1:ys.map (·.1)=kvs.map (·.1))(r2:Rs K m H (kvs.map (·.2)) (ys.map (·.2))):RH K m (upd H a (.frz o (.dK ys))) (st.set n (.fz kvs)):=by
 have x:Ext K m H m (upd H a (.frz o (.dK ys))):=Ext.set (ys:=[]) h e (nfD g);refine⟨by simp[h.len],h.nd,fun k c b h1 h2=>?_,x.tb h.tb⟩;by_cases hk:k=n
 ·subst hk;have hl:k<st.length:=by rw[<-h.len];exact(KQ.mp e).1
  rw[KR hl] at h1;rw[e] at h2;cases h1;cases h2;exact⟨o,ys,aA,r1,r2.mono x⟩
 ·rw[KU (Ne.symm hk)] at h1;exact(h.at_ k c b h1 h2).mono x (ag fun z=>hk (j' h.nd h2 (z ▸ e)))
theorem ck (hD:H a=some (.frz o (.dK ys))):∀b us,SqT K H b us->SqT K (upd H a (.dK ys)) b us:=fun b us q=>by
 rcases q with (q|⟨w,q⟩)|q
 ·exact .inl (.inl (by rw[ag (fun z=>by subst z;rw[hD] at q;cases q)];exact q))
 ·exact .inl (.inr ⟨w,by rw[ag (fun z=>by subst z;rw[hD] at q;cases q)];exact q⟩)
 ·exact .inr q
theorem cg (hD:H a=some (.frz o (.dK ys))):∀b us,RdF K H b us->RdF K (upd H a (.dK ys)) b us:=fun b us q=>by
 rcases q with⟨w,q⟩|q
 ·exact .inl ⟨w,by rw[ag (fun z=>by subst z;rw[hD] at q;cases q)];exact q⟩
 ·exact .inr q
theorem TB.thaw (t:TB K H)(hD:H a=some (.frz o (.dK ys))):TB K (upd H a (.dK ys)) :=
 t.keep (fun b ps q=>by rw[ag (fun z=>by subst z;rw[hD] at q;cases q)];exact q) fun b w q=>by rw[ag (fun z=>by subst z;rw[hD] at q;cases q)];exact q
theorem RH.thaw (h:RH K m H st)(e:m[n]?=some a)(hF:H a=some (.frz o (.dK ys)))(hs:st[n]?=some (.fz kvs)):RH K m (upd H a (.dK ys)) (st.set n (.dk kvs)):=by
 refine⟨by simp[h.len],h.nd,fun k c b h1 h2=>?_,h.tb.thaw hF⟩;by_cases hk:k=n
 ·subst hk;have hl:k<st.length:=(KQ.mp hs).1;rw[KR hl] at h1;rw[e] at h2;cases h1;cases h2;obtain⟨o',ys',g1,g2,g3⟩:=h.at_ k _ a hs e;rw[hF] at g1;cases g1;exact⟨ys,aA,g2,g3.mono0 (ck hF) (cg hF)⟩
 ·rw[KU (Ne.symm hk)] at h1;have ne:b≠a:=fun z=>hk (j' h.nd h2 (z ▸ e));have hc:=h.at_ k c b h1 h2;cases c with
  | lst xs=>obtain⟨us,g1,g2⟩:=hc;exact⟨us,by rw[ag ne];exact g1,g2.mono0 (ck hF) (cg hF)⟩
  | dk kvs=>obtain⟨us,g1,g2,g3⟩:=hc;exact⟨us,by rw[ag ne];exact g1,g2,g3.mono0 (ck hF) (cg hF)⟩
  | fz kvs=>obtain⟨w,us,g1,g2,g3⟩:=hc;exact⟨w,us,by rw[ag ne];exact g1,g2,g3.mono0 (ck hF) (cg hF)⟩
  | od kvs=>obtain⟨o,us,ws,g1,g2,g3,g4⟩:=hc;exact⟨o,us,ws,by rw[ag ne];exact g1,g2,g3.mono0 (ck hF) (cg hF),g4.mono0 (ck hF) (cg hF)⟩
theorem Ext.thaw (h:RH K m H st)(e:m[n]?=some a)(g:H a=some (.dK ys))(x:Ext K m (upd H a (.frz o (.dK ys))) m2 H2):Ext K m H m2 (upd H2 a (.dK ys)):=by
 have hm:a∈m:=K5 e;have y:Ext K m H m (upd H a (.frz o (.dK ys))):=Ext.set (ys:=[]) h e (nfD g);have hF:H2 a=some (.frz o (.dK ys)):=x.frz _ _ _ aA;have z:=y.trans x;refine⟨z.pre,z.new,fun b u hb q n=>?_,fun b us q=>ck hF b us (z.tup b us q),fun b us q=>cg hF b us (z.rdf b us q),fun b ps hb q=>?_,fun t=>(z.tb t).thaw hF,fun b u v q=>?_⟩
 ·rw[ag (show b≠a from fun w=>hb (by rw[w];exact hm))];exact z.fr b u hb q n
 ·rw[ag (show b≠a from fun w=>hb (by rw[w];exact hm))];exact z.tbs b ps hb q
 ·rw[ag (fun w=>by subst w;exact nfD g _ _ q)];exact z.frz b u v q
end
section
variable {X:Cx}{c:Cfg}{Γ:Nat->FSp}
noncomputable def wiF (X:Cx)(Γ:Nat->FSp)(wk:DW)(e:E):TI:=fun σ H Rr=>∃m ρ st,RF X.K m H ρ σ/\RH X.K m H st/\wpE Γ e ρ st fun x st1=>∃n kvs,x=.ref n/\st1[n]?=some (.dk kvs) /\
 ∀m1 H1 a o ys,Ext X.K m H m1 H1->RH X.K m1 H1 st1->m1[n]?=some a->H1 a=some (.dK ys)->ys.map (·.1)=kvs.map (·.1)->Rs X.K m1 H1 (kvs.map (·.2)) (ys.map (·.2))->(∀u q,X.H₀ a≠some (.frz u q))->Rr (ItF wk a o ys) (upd H1 a (.frz o (.dK ys)))
noncomputable def gw (v a:Addr):HO:=.ext fun h=>h.IsItemsView v a
theorem Bv:MtR X "dict.items" (fun x xs H Q=>∃a kvs,x=.ref a/\xs=[]/\H a=some (.dK kvs)/\∀v,H v=none->Q (.ref v) (upd H v (gw v a))):=by rintro pins s σ H x xs v us Q I rx rv ⟨a,kvs,rfl,rfl,g,q⟩;cases rx;cases rv;obtain⟨z,hm,vs,rel,dd⟩:=gu I.hok g;refine call_meetsIn M5 dd.typeIs PySem.F.entry_dict_items (PySem.F.args_dict_items_1 _) (meets_dict_items (aF X.prog X.w) a hm) ⟨⟨vs,dd⟩,?_⟩;refine⟨.ref s.heap.objs.size,_,I.laid (t':=s.toks) (fun b u e=>KH _ e) (KJ _) (show ObjOk X.prog X.w _ _ _ (gw s.heap.objs.size a) from ⟨⟨_,KL _ rfl,rfl,rfl⟩,⟨_,KL _ rfl⟩,fun h1 h2 z e=>let ⟨ob,h3,r⟩:=z;⟨ob,e _ h3,r⟩⟩),rfl,q _ (I.hok.fresh (KJ _))⟩
theorem Bu (C:COk X c Γ){ap cp:Pos}(hl:(ap.endLine == cp.line)=true)(hy:cb y=true)(he:PE X y (TEx X.K (wpE Γ e))):PI X (.Tuple elts kt pt) (.Call (.Attribute y "items" ap) [] [] cp) (wiF X Γ .items e):=by
 rintro pins s σ H Rr I ⟨m,ρ,st,rf,rh,w⟩;have hE:=vR (X:=X) (apos:=ap) (cpos:=cp) NQ M5 PySem.F.type_dict_items Bv he (d_ hy) hl;refine thn (hE pins s σ H (fun x H1=>∃v a ys,x=.ref v/\H1 v=some (gw v a)/\H1 a=some (.dK ys)/\∀o,(∀u q,X.H₀ a≠some (.frz u q))->Rr (ItF .items a o ys) (upd H1 a (.frz o (.dK ys)))) I ⟨m,ρ,st,rf,rh,ae C.mono e (fun v st1 k m1 H1 x1 e1 r1 r2=>?_) w⟩) fun v s1 ⟨x,H1,I1,r1,vw,a,ys,ex,hv,hd,q⟩=>?_
 ·obtain⟨n,kvs,rfl,h1,k⟩:=k;obtain⟨b,ys,rfl,eb,g,r3,r4⟩:=r1.dkat h1 r2;refine⟨.inr (.inr (.inl ⟨rfl,.inl ⟨ys,g⟩⟩)),b,ys,rfl,rfl,g,fun v hv=>⟨v,b,ys,rfl,aA,?_,fun o hz=>?_⟩⟩
  ·rw[ag (ao g hv)];exact g
  ·have xv:=Ext.newT (o:=gw v b) r1 hv;exact k m1 _ b o ys (e1.trans xv) (r1.newT hv) eb (by rw[ag (ao g hv)];exact g) r3 (r4.mono xv) hz
 ·subst ex;cases r1;obtain⟨z,hm,vs,rel,o,es,ep,ho,rr⟩:=gu I1.hok hd;have hO:ObD X.prog X.w a o ys vs ep:=⟨rel,fun h e=>⟨o,es,e,rr⟩⟩;have hw:s1.heap.IsItemsView vw a:=(I1.hok vw _ hv).1;refine wpAny_pyIter_items hw (hO.2 _ ho) ?_;refine⟨s1.heap.objs.size,[s1.heap.objs.size],_,_,_,rfl,(gY I1 hd ho).kept (t':=s1.toks) fun b u e=>KH _ e,nA hO,⟨_,_,KL _ rfl⟩,fun b hb=>?_,q o (uI I1 hd)⟩;have e:b=s1.heap.objs.size:=by simpa using hb
  subst e;exact I1.fpOk (KJ _) ((gY I1 hd ho).hok.fresh (KJ _))
noncomputable def wX (v a:Addr):HO:=.ext fun h=>h.IsValuesView v a
theorem yS:MtR X "dict.values" (fun x xs H Q=>∃a kvs,x=.ref a/\xs=[]/\H a=some (.dK kvs)/\∀v,H v=none->Q (.ref v) (upd H v (wX v a))):=by rintro pins s σ H x xs v us Q I rx rv ⟨a,kvs,rfl,rfl,g,q⟩;cases rx;cases rv;obtain⟨z,hm,vs,rel,dd⟩:=gu I.hok g;refine call_meetsIn PySem.F.slot_dict_values dd.typeIs PySem.F.entry_dict_values (PySem.F.args_dict_values_1 _) (meets_dict_values (aF X.prog X.w) a hm) ⟨⟨vs,dd⟩,?_⟩;refine⟨.ref s.heap.objs.size,_,I.laid (t':=s.toks) (fun b u e=>KH _ e) (KJ _) (show ObjOk X.prog X.w _ _ _ (wX s.heap.objs.size a) from ⟨⟨_,KL _ rfl,rfl,rfl⟩,⟨_,KL _ rfl⟩,fun h1 h2 z e=>let ⟨ob,h3,r⟩:=z;⟨ob,e _ h3,r⟩⟩),rfl,q _ (I.hok.fresh (KJ _))⟩
theorem ye (C:COk X c Γ){ap cp:Pos}(hl:(ap.endLine == cp.line)=true)(hy:cb y=true)(he:PE X y (TEx X.K (wpE Γ e))):PI X tg (.Call (.Attribute y "values" ap) [] [] cp) (wiF X Γ .values e):=by
 rintro pins s σ H Rr I ⟨m,ρ,st,rf,rh,w⟩;have hE:=vR (X:=X) (apos:=ap) (cpos:=cp) NQ PySem.F.slot_dict_values PySem.F.type_dict_values yS he (d_ hy) hl;refine thn (hE pins s σ H (fun x H1=>∃v a ys,x=.ref v/\H1 v=some (wX v a)/\H1 a=some (.dK ys)/\∀o,(∀u q,X.H₀ a≠some (.frz u q))->Rr (ItF .values a o ys) (upd H1 a (.frz o (.dK ys)))) I ⟨m,ρ,st,rf,rh,ae C.mono e (fun v st1 k m1 H1 x1 e1 r1 r2=>?_) w⟩) fun v s1 ⟨x,H1,I1,r1,vw,a,ys,ex,hv,hd,q⟩=>?_
 ·obtain⟨n,kvs,rfl,h1,k⟩:=k;obtain⟨b,ys,rfl,eb,g,r3,r4⟩:=r1.dkat h1 r2;refine⟨.inr (.inr (.inl ⟨rfl,.inl ⟨ys,g⟩⟩)),b,ys,rfl,rfl,g,fun v hv=>⟨v,b,ys,rfl,aA,?_,fun o hz=>?_⟩⟩
  ·rw[ag (ao g hv)];exact g
  ·have xv:=Ext.newT (o:=wX v b) r1 hv;exact k m1 _ b o ys (e1.trans xv) (r1.newT hv) eb (by rw[ag (ao g hv)];exact g) r3 (r4.mono xv) hz
 ·subst ex;cases r1;obtain⟨z,hm,vs,rel,o,es,ep,ho,rr⟩:=gu I1.hok hd;have hO:ObD X.prog X.w a o ys vs ep:=⟨rel,fun h e=>⟨o,es,e,rr⟩⟩;have hw:s1.heap.IsValuesView vw a:=(I1.hok vw _ hv).1;refine wpAny_pyIter_values hw (hO.2 _ ho) ?_;refine⟨s1.heap.objs.size,[s1.heap.objs.size],_,_,_,rfl,(gY I1 hd ho).kept (t':=s1.toks) fun b u e=>KH _ e,sW hO,⟨_,KL _ rfl,rfl,rfl⟩,fun b hb=>?_,q o (uI I1 hd)⟩;have e:b=s1.heap.objs.size:=by simpa using hb
  subst e;exact I1.fpOk (KJ _) ((gY I1 hd ho).hok.fresh (KJ _))
theorem JY (C:COk X c Γ)(h1:A4 wk tg=true)(h2:qQ wk ix (fun y=>ay c e y)=true)(he:∀y,ay c e y=true->PE X y (TEx X.K (wpE Γ e))):PI X tg ix (wiF X Γ wk e):=by
 cases wk with
 | values =>obtain⟨y,ap,cp,rfl,h3,h4,h5⟩:=sJ h2;exact ye C h3 h4 (he _ h5)
 | items =>
  obtain⟨y,ap,cp,rfl,h3,h4,h5⟩:=mx h2;cases tg with
  | Tuple elts kt pt=>exact Bu C h3 h4 (he _ h5)
  | _=>cases h1
end
end FW
namespace FW
open L2 HX
section
variable {X:Cx}{pins:List (Addr × Obj)}{σ:L2.St}{H:Hp}{s:Shared}{a:Addr}{A:Around}{E:Value->Shared->Prop}
end
section
variable {K:W.Frag}{m m':List Addr}{H H':Hp}{st:AH}{D:Addr}{ys zs:List (Key × V)}
end
section
variable {X:Cx}{Γ:Nat->FSp}{pins:List (Addr × Obj)}{σ:L2.St}{H:Hp}{s:Shared}
def DRel (K:W.Frag)(m:List Addr)(H:Hp)(ps:List (Str × PV))(ds:List (Key × V)):Prop:=ds.map (·.1)=(FE ps).map (·.1)/\Rs K m H ((FE ps).map (·.2)) (ds.map (·.2))
theorem DRel.mono (h:DRel K m H ps ds)(x:Ext K m H m' H'):DRel K m' H' ps ds:=⟨h.1,h.2.mono x⟩
end
end FW
namespace FW
open L2 HX
section
variable {prog:Program}{w:World}{A:Around}{E:Value->Shared->Prop}{s:Shared}
variable {R:Result->Shared->Prop}
end
end FW
namespace FW
open L2 HX
section
variable {prog:Program}{w:World}{A:Around}{E:Value->Shared->Prop}{s:Shared}
end
section
variable {X:Cx}{c:Cfg}{Γ:Nat->FSp}
end
end FW
namespace FW
open L2 HX
def EqW (prog:Program)(w:World)(A:Around)(s:Shared)(y x:Value):Prop:=∀(E:Value->Shared->Prop) (Q:Bool->Shared->Prop),Q true s->wpAny (model prog w) A (eqBool y x) Q E s
section
variable {prog:Program}{w:World}
theorem uH (p q:Addr)(us vs:Array Value)(op op2:Obj)(c1:op.cls=.type "tuple")(c2:op2.cls=.type "tuple")(k1 k2:Nat)(d1:op.data=.seq us k1)(d2:op2.data=.seq vs k2)(hn:us.size=vs.size) :
  MeetsIn prog w (Builtin.«tuple.__ne__» ⟨[.ref p,.ref q],[]⟩) (fun A R s=>s.heap.get? p=some op/\s.heap.get? q=some op2/\(∀j (h1:j<us.size) (h2:j<vs.size),EqW prog w A.in1 s us[j] vs[j])/\R (.ok (.ret (.bool false))) s) :=
 .of_wp fun A R s h=>by
  obtain⟨cl,dd,dt,sl⟩:=op;obtain⟨cl2,dd2,dt2,sl2⟩:=op2;simp only at c1 c2 d1 d2;subst c1 c2 d1 d2;obtain⟨hp,g,dr,tk,os⟩:=s;obtain⟨hl,hb,he,hR⟩:=h;have f2:=AutoSeq1.sub_tuple_tuple;have hZ:(us.toList.zip vs.toList).length=us.size:=by simp[hn]
  wp_walk using AutoSeq1.wpAny_loadPart' hl,AutoSeq1.wpAny_loadPart' hb,wpAny_forIn_list _ (fun left b s'=>b.1=none/\s'=⟨hp,g,dr,tk,os⟩/\∃i,left=(us.toList.zip vs.toList).drop i) _
  case turn =>
   rintro⟨y,x⟩ left b s' ⟨hb',rfl,i,hz⟩;have hlt:i<(us.toList.zip vs.toList).length:=by
    rcases Nat.lt_or_ge i (us.toList.zip vs.toList).length with h' | h'
    ·exact h'
    ·rw[List.drop_of_length_le h'] at hz;cases hz
   have h1:i<us.size:=by omega
   have h2:i<vs.size:=by omega
   rw[MU hlt] at hz;injection hz with hyx hleft
   have hy:y=us[i]:=by have:=LP Prod.fst hyx;simpa using this
   have hx:x=vs[i]:=by have:=LP Prod.snd hyx;simpa using this
   subst hy hx;refine KF (he i h1 h2 _ _ ?_)
   wp_walk
   exact⟨rfl,rfl,i+1,hleft⟩
  case fin =>
   rintro⟨b1,b2⟩ s' ⟨hb',rfl,i,hz⟩;simp only at hb';subst hb'
   wp_walk
   exact⟨_,rfl,by simpa[Builtin.Tuple.tupleCompareSizes,bne,hn] using hR⟩
  case h=>exact⟨rfl,rfl,0,rfl⟩
theorem uE (p q:Addr)(us vs:Array Value)(op op2:Obj)(c1:op.cls=.type "tuple")(c2:op2.cls=.type "tuple")(k1 k2:Nat)(d1:op.data=.seq us k1)(d2:op2.data=.seq vs k2)(hn:us.size=vs.size) :
  MeetsIn prog w (Builtin.«tuple.__eq__» ⟨[.ref p,.ref q],[]⟩) (fun A R s=>s.heap.get? p=some op/\s.heap.get? q=some op2/\(∀j (h1:j<us.size) (h2:j<vs.size),EqW prog w A.in1 s us[j] vs[j])/\R (.ok (.ret (.bool true))) s) :=
 .of_wp fun A R s h=>by
  obtain⟨cl,dd,dt,sl⟩:=op;obtain⟨cl2,dd2,dt2,sl2⟩:=op2;simp only at c1 c2 d1 d2;subst c1 c2 d1 d2;obtain⟨hp,g,dr,tk,os⟩:=s;obtain⟨hl,hb,he,hR⟩:=h;have f2:=AutoSeq1.sub_tuple_tuple;have hZ:(us.toList.zip vs.toList).length=us.size:=by simp[hn]
  wp_walk using AutoSeq1.wpAny_loadPart' hl,AutoSeq1.wpAny_loadPart' hb,wpAny_forIn_list _ (fun left b s'=>b.1=none/\s'=⟨hp,g,dr,tk,os⟩/\∃i,left=(us.toList.zip vs.toList).drop i) _
  case turn =>
   rintro⟨y,x⟩ left b s' ⟨hb',rfl,i,hz⟩;have hlt:i<(us.toList.zip vs.toList).length:=by
    rcases Nat.lt_or_ge i (us.toList.zip vs.toList).length with h' | h'
    ·exact h'
    ·rw[List.drop_of_length_le h'] at hz;cases hz
   have h1:i<us.size:=by omega
   have h2:i<vs.size:=by omega
   rw[MU hlt] at hz;injection hz with hyx hleft
   have hy:y=us[i]:=by have:=LP Prod.fst hyx;simpa using this
   have hx:x=vs[i]:=by have:=LP Prod.snd hyx;simpa using this
   subst hy hx;refine KF (he i h1 h2 _ _ ?_)
   wp_walk
   exact⟨rfl,rfl,i+1,hleft⟩
  case fin =>
   rintro⟨b1,b2⟩ s' ⟨hb',rfl,i,hz⟩;simp only at hb';subst hb'
   wp_walk
   exact⟨_,rfl,by simpa[Builtin.Tuple.tupleCompareSizes,bne,hn] using hR⟩
  case h=>exact⟨rfl,rfl,0,rfl⟩
variable {A:Around}{E:Value->Shared->Prop}{s:Shared}
noncomputable def opB (ne:Bool):CmpOp:=if ne then .NotEq else .Eq
theorem AS {ne:Bool}{Q:Value->Shared->Prop}(hp:s.heap.IsTuple p us)(hq:s.heap.IsTuple q vs)(hn:us.size=vs.size)(hu:A.units<cLine)(he:∀j (h1:j<us.size) (h2:j<vs.size),EqW prog w A.in1 s us[j] vs[j])(h:Q (.bool (!ne)) s) :
  wpAny (model prog w) A (compareOp (opB ne) (.ref p) (.ref q)) Q E s:=by
 obtain⟨o1,ho,hc,n,hd⟩:=id hp;obtain⟨o2,ho2,hc2,n2,hd2⟩:=id hq;cases ne with
 | true=>exact wpAny_richCompare_same_room (op:=.NotEq) ⟨_,ho,hc⟩ ⟨_,ho2,hc2⟩ F.slot_tuple_ne (call_meetsIn F.slot_tuple_ne ⟨_,ho,hc⟩ F.entry_tuple_ne (F.args_tuple_ne_2 _ _) (uH p q us vs o1 o2 hc hc2 n n2 hd hd2 hn) ⟨ho,ho2,he,⟨(fun x=>nomatch x),h⟩⟩) hu
 | false=>exact wpAny_richCompare_same_room (op:=.Eq) ⟨_,ho,hc⟩ ⟨_,ho2,hc2⟩ F.slot_tuple_eq (call_meetsIn F.slot_tuple_eq ⟨_,ho,hc⟩ F.entry_tuple_eq (F.args_tuple_eq_2 _ _) (uE p q us vs o1 o2 hc hc2 n n2 hd hd2 hn) ⟨ho,ho2,he,⟨(fun x=>nomatch x),h⟩⟩) hu
end
section
variable {X:Cx}{pins:List (Addr × Obj)}{σ:L2.St}{H:Hp}{s:Shared}{m:List Addr}{st:AH}
theorem sM (h:fD lvs k=some u):∃kv∈lvs,kv.2=u:=by unfold fD at h;obtain⟨kv,h1,h2⟩:=LR.mp h;exact⟨kv,List.mem_of_find?_eq_some h1,h2⟩
theorem jO {v:PV}(h:v.toD=some d):lC st v=some d:=by
 cases v with
 | ref n=>rw[PV.toD] at h;cases h
 | _=>exact h
theorem ux {A:Around}(hu:A.units+64<cLine)(I:L2.Inv X pins σ H s)(rh:RH X.K m H st)(h:wu x y)(rx:R X.K m H x x')(ry:R X.K m H y y')(ru:L2.RelV x' u)(rv:L2.RelV y' v):SeqAt.EqAt A s u v true:=by obtain⟨rfl,d,h1,h2⟩:=h;obtain⟨as,ra⟩:=Den.reads I d x' u (dz rh rx (jO h1)) ru;obtain⟨bs,rb⟩:=Den.reads I d y' v (dz rh ry (jO h1)) rv;have:=SeqAt.eqAt_reads d d A s u v as bs ra rb (MQ h2) (MQ h2) (SeqAt.room_of_shaped h2 hu);rw[SeqAt.eqv_refl d (MQ h2)] at this;exact this
theorem wW:∀ {ka:List (Key × Value)},(∀p∈ka,∃y,valueAt kb p.1=some y/\SeqAt.EqAt A s p.2 y true)->W.KeqHits A s kb ka true
 | [],_=>.nil
 | (k,v)::r,h=>by obtain⟨y,e1,e2⟩:=h (k,v) KP;exact .hit e1 e2 (wW fun p hp=>h p (KN _ hp))
theorem pZ {A:Around}{E:Value->Shared->Prop}(hu:A.units+80<cLine)(I:L2.Inv X pins σ H s)(rh:RH X.K m H st){n k:Nat}{u:Value}(h1:st[n]?=some (.dk kvs))(h2:st[k]?=some (.dk lvs))(hl:kvs.length=lvs.length)(hp:∀p∈kvs,∃u,fD lvs p.1=some u/\wu p.2 u)(rx:R X.K m H (.ref n) x')(ry:R X.K m H (.ref k) y')(ru:L2.RelV x' u)(rv:L2.RelV y' v):∃a b,u=.ref a/\v=.ref b/\∀(ne:Bool) (Q:Value->Shared->Prop),Q (.bool (!ne)) s->wpAny (model X.prog X.w) A (compareOp (opB ne) u v) Q E s:=by
 obtain⟨a,ys,rfl,_,g1,r1,r2⟩:=rh.dkat h1 rx;obtain⟨b,zs,rfl,_,g2,r3,r4⟩:=rh.dkat h2 ry;cases ru;cases rv;obtain⟨z1,d1,vs,rel1,dd1⟩:=gu I.hok g1;obtain⟨z2,d2,ws,rel2,dd2⟩:=gu I.hok g2;refine⟨a,b,rfl,rfl,fun ne Q q=>?_⟩;have e1:ys.length=kvs.length:=by simpa using LP List.length r1
 have e2:zs.length=lvs.length:=by simpa using LP List.length r3
 have l1:=rel1.length;have l2:=rel2.length;have lab:vs.length=ws.length:=by omega
 have hits:W.KeqHits A.in1 s ws vs true:=wW fun p hm=>by
  obtain⟨i,hi⟩:=NX.mp hm;have hy:i<ys.length:=by have:=(KQ.mp hi).1;omega
  obtain⟨w',w1,w2,w3⟩:=KV.at rel1 (show ys[i]?=some ys[i] by simp[hy]);rw[hi] at w1;cases w1;obtain⟨q',q1,q2,q3⟩:=jS r1 r2 (show ys[i]?=some ys[i] by simp[hy]);obtain⟨u,u1,u2⟩:=hp q' (K5 q1);obtain⟨u',t1,t2⟩:=(mM r3 r4).1 _ u1;rw[q2,w2] at t1;obtain⟨y,y1,y2⟩:=RelO.some_of (v:=u') (o:=valueAt ws p.1) (by rw[<-t1];exact rel2.val p.1);exact⟨y,y1,ux (A:=A.in1) (by show A.units+1+64<cLine;omega) I rh u2 q3 t2 w3 y2⟩
 have fin:(vs.length == ws.length && true)=true:=by simp[lab]
 cases ne with
 | true=>exact W.keq_ne (knd:=aF X.prog X.w) d1 d2 dd1 dd2 (by omega) (fun _=>hits) (by rw[fin];exact q)
 | false=>exact W.keq_eq (knd:=aF X.prog X.w) d1 d2 dd1 dd2 (by omega) (fun _=>hits) (by rw[fin];exact q)
theorem oO {A:Around}(hu:A.units+64<cLine)(I:L2.Inv X pins σ H s)(rh:RH X.K m H st){x y:PV}(h1:x.toD=some d)(h2:y.toD=some d')(s1:SeqAt.shaped d=true)(s2:SeqAt.shaped d'=true)(rx:R X.K m H x x')(ry:R X.K m H y y')(ru:L2.RelV x' u)(rv:L2.RelV y' v):SeqAt.EqAt A s u v (PyData.eqv d d'):=by obtain⟨as,ra⟩:=Den.reads I d x' u (dz rh rx (jO h1)) ru;obtain⟨bs,rb⟩:=Den.reads I d' y' v (dz rh ry (jO h2)) rv;exact SeqAt.eqAt_reads d d' A s u v as bs ra rb (MQ s1) (MQ s2) (SeqAt.room_of_shaped s1 hu)
theorem t9:∀ {ka:List (Key × Value)},(∀p∈ka,∀y,valueAt kb p.1=some y->∃e,SeqAt.EqAt A s p.2 y e)->(∃p∈ka,∀y,valueAt kb p.1=some y->SeqAt.EqAt A s p.2 y false)->W.KeqHits A s kb ka false
 | [],_,h=>by obtain⟨p,hp,_⟩:=h;cases hp
 | (k,v)::r,h,hb=>by
  cases e:valueAt kb k with
  | none=>exact .miss e
  | some y =>
   by_cases z:SeqAt.EqAt A s v y false
   ·have:∃b,W.KeqHits A s kb r b:=hits_some fun p hp=>h p (KN _ hp);obtain⟨b,hb⟩:=this;exact .hit (e:=false) e z hb
   ·obtain⟨p,hp,hq⟩:=hb;rcases K8.mp hp with rfl|hp
    ·exact absurd (hq y e) z
    ·obtain⟨e',he⟩:=h (k,v) KP y e;have:=W.KeqHits.hit (A:=A) (s:=s) e he (t9 (fun p hp=>h p (KN _ hp)) ⟨p,hp,hq⟩);rw[N8] at this;exact this
where hits_some {kb:List (Key × Value)}:∀ {ka:List (Key × Value)},(∀p∈ka,∀y,valueAt kb p.1=some y->∃e,SeqAt.EqAt A s p.2 y e)->∃b,W.KeqHits A s kb ka b
 | [],_=>⟨_,.nil⟩
 | (k,v)::r,h=>by
  cases e:valueAt kb k with
  | none=>exact⟨_,.miss e⟩
  | some y =>obtain⟨b,hb⟩:=hits_some (ka:=r) fun p hp=>h p (KN _ hp);obtain⟨e',he⟩:=h (k,v) KP y e;exact⟨_,.hit e he hb⟩
theorem yw {A:Around}{E:Value->Shared->Prop}(hu:A.units+80<cLine)(I:L2.Inv X pins σ H s)(rh:RH X.K m H st)(hd:pC st x y)(rx:R X.K m H x x')(ry:R X.K m H y y')(ru:L2.RelV x' u)(rv:L2.RelV y' v):∀(ne:Bool) (Q:Value->Shared->Prop),Q (.bool ne) s->wpAny (model X.prog X.w) A (compareOp (opB ne) u v) Q E s:=by
 obtain⟨n,k,kvs,lvs,rfl,rfl,h1,h2,dk,dl,hb⟩:=hd;obtain⟨a,ys,rfl,_,g1,r1,r2⟩:=rh.dkat h1 rx;obtain⟨b,zs,rfl,_,g2,r3,r4⟩:=rh.dkat h2 ry;cases ru;cases rv;obtain⟨z1,d1,vs,rel1,dd1⟩:=gu I.hok g1;obtain⟨z2,d2,ws,rel2,dd2⟩:=gu I.hok g2;have e1:ys.length=kvs.length:=by simpa using LP List.length r1
 have e2:zs.length=lvs.length:=by simpa using LP List.length r3
 have l1:=rel1.length;have l2:=rel2.length;have A1:A.in1.units+64<cLine:=by show A.units+1+64<cLine;omega
 have look:∀(i:Nat) (p:Key × Value),vs[i]?=some p->∃q',kvs[i]?=some q'/\q'.1=p.1/\∃v1,R X.K m H q'.2 v1/\L2.RelV v1 p.2:=fun i p hi=>by
  have hy:i<ys.length:=by have:=(KQ.mp hi).1;omega
  obtain⟨w',w1,w2,w3⟩:=KV.at rel1 (show ys[i]?=some ys[i] by simp[hy]);rw[hi] at w1;cases w1;obtain⟨q',q1,q2,q3⟩:=jS r1 r2 (show ys[i]?=some ys[i] by simp[hy]);exact⟨q',q1,q2.trans w2,_,q3,w3⟩
 have right:∀(key:Key) (y:Value),valueAt ws key=some y->∃u u',fD lvs key=some u/\R X.K m H u u'/\L2.RelV u' y:=fun key y hy=>by
  have o:=rel2.val key;rw[hy] at o;cases ez:fD lvs key with
  | none =>have:=(mM r3 r4).2 ez;rw[this] at o;cases o
  | some u =>obtain⟨u',t1,t2⟩:=(mM r3 r4).1 _ ez;rw[t1] at o;exact⟨u,u',rfl,t2,o⟩
 have data:∀p∈vs,∀y,valueAt ws p.1=some y->∃e,SeqAt.EqAt A.in1 s p.2 y e:=fun p hm y hy=>by obtain⟨i,hi⟩:=NX.mp hm;obtain⟨q',q1,q2,v1,q3,q4⟩:=look i p hi;obtain⟨u,u',t1,t2,t3⟩:=right p.1 y hy;obtain⟨d,hd1,hd2⟩:=dk q' (K5 q1);obtain⟨kv,km,ke⟩:=sM t1;obtain⟨d',hd3,hd4⟩:=dl kv km;rw[ke] at hd3;exact⟨_,oO A1 I rh hd1 hd3 hd2 hd4 q3 t2 q4 t3⟩
 have fin:∀(r:Bool),(vs.length=ws.length->W.KeqHits A.in1 s ws vs r)->(vs.length == ws.length && r)=false->∀(ne:Bool) (Q:Value->Shared->Prop),Q (.bool ne) s->wpAny (model X.prog X.w) A (compareOp (opB ne) (.ref a) (.ref b)) Q E s:=fun r hr hf ne Q q=>by
  cases ne with
  | true=>exact W.keq_ne (knd:=aF X.prog X.w) d1 d2 dd1 dd2 (by omega) hr (by rw[hf];exact q)
  | false=>exact W.keq_eq (knd:=aF X.prog X.w) d1 d2 dd1 dd2 (by omega) hr (by rw[hf];exact q)
 rcases hb with hb|⟨p,hp,hq⟩
 ·exact fin true (fun z=>absurd z (by omega)) (by rw[beq_eq_false_iff_ne.mpr (by omega)];rfl)
 ·refine fin false (fun _=>t9 data ?_) (N8 _);obtain⟨i,hi⟩:=NX.mp hp;have il:i<vs.length:=by have:=(KQ.mp hi).1;omega
  refine⟨vs[i],M3 il,fun y hy=>?_⟩;obtain⟨q',q1,q2,v1,q3,q4⟩:=look i vs[i] (K6 il);rw[hi] at q1;cases q1;obtain⟨u,u',t1,t2,t3⟩:=right _ y hy;rw[<-q2] at t1;obtain⟨d,d',c1,c2,c3⟩:=hq u t1;obtain⟨e,hd1,hd2⟩:=dk p hp;obtain⟨kv,km,ke⟩:=sM t1;obtain⟨e',hd3,hd4⟩:=dl kv km;rw[ke] at hd3;rw[c1] at hd1;rw[c2] at hd3;cases hd1;cases hd3;rw[<-c3];exact oO A1 I rh c1 c2 hd2 hd4 q3 t2 q4 t3
theorem A8 {A:Around}(hu:A.units+80<cLine)(I:L2.Inv X pins σ H s)(rh:RH X.K m H st)(h:Bw st x y)(rx:R X.K m H x x')(ry:R X.K m H y y')(ru:L2.RelV x' u)(rv:L2.RelV y' v):EqW X.prog X.w A s u v:=by
 rcases h with h|⟨n,k,kvs,lvs,rfl,rfl,h1,h2,h3,h4⟩
 ·exact fun E Q q=>ux (by omega) I rh h rx ry ru rv X.prog X.w E Q q
 ·intro E Q q;obtain⟨a,b,rfl,rfl,hc⟩:=pZ (A:=A) (E:=E) hu I rh h1 h2 h3 h4 rx ry ru rv;by_cases hab:a=b
  ·subst hab;exact SeqAt.EqAt.same (A:=A) (s:=s) (.ref a) X.prog X.w E Q q
  ·unfold eqBool;refine LU ?_;refine wpAny_ite_split (fun hx=>absurd (by have:=eq_of_beq hx;injection this) hab) (fun _=>?_);exact KF (hc false _ (wpAny_truthy_bool q))
theorem pM {A:Around}(hu:A.units+80<cLine)(I:L2.Inv X pins σ H s)(rh:RH X.K m H st):∀ {xs ys:List PV}{xs' ys':List V}{us vs:List Value},vQ st xs ys->Rs X.K m H xs xs'->Rs X.K m H ys ys'->Vals xs' us->Vals ys' vs->us.length=vs.length/\∀j (h1:j<us.length) (h2:j<vs.length),EqW X.prog X.w A s us[j] vs[j]
 | [],[],xs',ys',us,vs,_,rx,ry,ru,rv=>by rw[Rs_nil] at rx ry;subst rx ry;cases ru;cases rv;exact⟨rfl,fun j h1 _=>absurd h1 (MW _)⟩
 | x::xs,y::ys,xs',ys',us,vs,h,rx,ry,ru,rv=>by
  rw[Rs_cons] at rx ry;obtain⟨a,r,rfl,rx1,rx⟩:=rx;obtain⟨b,q,rfl,ry1,ry⟩:=ry;cases ru with
  | cons ru1 ru =>
   cases rv with
   | cons rv1 rv =>
    obtain⟨i1,i2⟩:=pM hu I rh h.2 rx ry ru rv;refine⟨by simp[i1],fun j h1 h2=>?_⟩;cases j with
    | zero=>exact A8 hu I rh h.1 rx1 ry1 ru1 rv1
    | succ j=>exact i2 j (by simpa using h1) (by simpa using h2)
 | [],y::ys,_,_,_,_,h,_,_,_,_=>h.elim
 | x::xs,[],_,_,_,_,h,_,_,_,_=>h.elim
end
theorem Ck {X:Cx}(hu:X.A.units+100<cLine)(ne:Bool):OpR X (compareOp (opB ne)) (Ao X.K fun x y st Q=>(tS st x y/\Q (.bl (!ne)) st)\/(pC st x y/\Q (.bl ne) st)):=by
 intro pins s σ H x' y' v u Q I rx ry h;obtain⟨m,st,x,y,rh,hx,hy,h⟩:=h;rcases h with⟨hs,w⟩|⟨hs,w⟩
 case inr=>exact yw (A:=X.A) (E:=X.xe) (by omega) I rh hs hx hy rx ry ne _ ⟨.bl ne,H,I,rfl,w.here rh (R_bl.mpr rfl)⟩
 have fin:EP X pins σ Q (.bool (!ne)) s:=⟨.bl (!ne),H,I,rfl,w.here rh (R_bl.mpr rfl)⟩;rcases hs with⟨xs,ys,rfl,rfl,hs⟩|⟨n,k,rfl,rfl,hs⟩
 ·rw[R_tup] at hx hy;obtain⟨a,xs',rfl,g1,r1⟩:=hx;obtain⟨b,ys',rfl,g2,r2⟩:=hy;cases rx;cases ry;obtain⟨us,ru,p1,_⟩:=I.tuple g1;obtain⟨vs,rv,p2,_⟩:=I.tuple g2;obtain⟨i1,i2⟩:=pM (A:=X.A.in1) (by show X.A.units+1+80<cLine;omega) I rh hs r1 r2 ru rv;exact AS (us:=us.toArray) (vs:=vs.toArray) p1 p2 (by simp[i1]) (by omega) (fun j h1 h2=>by simpa using i2 j (by simpa using h1) (by simpa using h2)) fin
 ·rcases hs with h|⟨n',k',kvs,lvs,e1,e2,h1,h2,h3,h4⟩
  ·obtain⟨_,d,h1,_⟩:=h;rw[PV.toD] at h1;cases h1
  ·cases e1;cases e2;obtain⟨a,b,rfl,rfl,hc⟩:=pZ (A:=X.A) (E:=X.xe) (by omega) I rh h1 h2 h3 h4 hx hy rx ry;exact hc ne _ fin
end FW
namespace FW
open L2 HX
theorem Ext.addD {D:Addr}(x:Ext K m H m2 H2)(h0:H D=none):Ext K m H (m2++[D]) H2:=by
 refine⟨x.pre.trans (N9 _ _),fun a ha=>?_,x.fr,x.tup,x.rdf,x.tbs,x.tb,x.frz⟩;rcases LC.mp ha with z|z
 ·exact x.new a z
 ·rw[K4] at z;subst z;exact .inr h0
section
variable {X:Cx}{c:Cfg}{Γ:Nat->FSp}
end
end FW
namespace FW
open L2 HX
section
variable {prog:Program}{w:World}{A:Around}{E:Value->Shared->Prop}{s:Shared}
theorem A9 (xs:Array Value):((List.range xs.size).filterMap fun (k:Nat)=>xs[(((xs.size:Int)-1)+(k:Int)*(-1)).toNat]?).toArray=xs.toList.reverse.toArray:=by
 congr 1;have e:∀k∈List.range xs.size,xs[(((xs.size:Int)-1)+(k:Int)*(-1)).toNat]?=some (xs.toList.reverse.getD k .none):=fun k hk=>by
  have hk:k<xs.size:=OH.mp hk;have e1:(((xs.size:Int)-1)+(k:Int)*(-1)).toNat=xs.size-1-k:=by omega
  have h2:k<xs.toList.reverse.length:=by simpa using hk
  rw[e1,LW,K6 h2,List.getElem_reverse,Option.getD_some];rw[LM (by omega)];simp
 have all:∀(l:List Nat) (f:Nat->Option Value) (g:Nat->Value),(∀k∈l,f k=some (g k))->l.filterMap f=l.map g:=fun l f g=>by
  induction l with
  | nil=>intro _;rfl
  | cons a r ih =>intro h;rw[L5,h a KP,KO,ih fun k hk=>h k (KN _ hk)]
 rw[all _ _ _ e];refine NG (by simp) fun i h1 h2=>?_;rw[List.getElem_map,List.getElem_range,LW,K6 h2,Option.getD_some]
theorem kF {n:Nat}{Q:Int × Int × Nat->Shared->Prop}(hs:s.heap.IsSliceOf sl .none .none (.int (-1) t))(h:Q ((n:Int)-1,-1,n) s):wpAny (model prog w) A (Builtin.Slice.sliceApplied (.ref sl) (pure (n:Int))) Q E s:=by
 obtain⟨os,hos,hcs,hds⟩:=id hs;unfold Builtin.Slice.sliceApplied Builtin.Slice.sliceFields;refine KF (KF (wpAny_field hos hds (x:=.none) rfl (KF (wpAny_field hos hds (x:=.none) rfl (KF (wpAny_field hos hds (x:=.int (-1) t) rfl (KG ?_)))))));refine KF (slicePart_int ?_);show wpAny _ _ (if ((-1:Int) == 0)=true then _ else _) _ _ s;rw[KW (by decide)];refine KF (slicePart_none (KF (slicePart_none (KF (KG ?_)))));have e1:Builtin.Slice.sliceAdjust none none (-1) (n:Int)=((n:Int)-1,-1):=by unfold Builtin.Slice.sliceAdjust;simp
 have e2:Builtin.Slice.slicePlaces ((n:Int)-1) (-1) (-1)=n:=by unfold Builtin.Slice.slicePlaces;simp only[show ¬((-1:Int) > 0) by omega,if_false,Int.neg_neg,Int.ediv_one];split <;> omega
 show wpAny _ _ (match Builtin.Slice.sliceAdjust none none (-1) (n:Int) with|(lo,hi)=>pure (lo,(-1:Int),Builtin.Slice.slicePlaces lo hi (-1))) _ _ s;rw[e1];show wpAny _ _ (pure ((n:Int)-1,(-1:Int),Builtin.Slice.slicePlaces ((n:Int)-1) (-1) (-1))) _ _ s;rw[e2];exact KG h
theorem jL {Q:Value->Shared->Prop}(ht:IsTup s.heap t items)(hs:s.heap.IsSliceOf sl .none .none (.int (-1) tk))(h:Q (.ref s.heap.objs.size) { s with heap:=s.heap.push { cls:=.type "tuple",data:=.seq items.toList.reverse.toArray } })(hsz:items.size<=sizeLine):wpAny (model prog w) A (getItem (.ref t) (.ref sl)) Q E s:=by
 have hrev:sizeOk (.seq items.toList.reverse.toArray):=by show items.toList.reverse.toArray.size<=sizeLine;rw[K3,NJ,LI];exact hsz
 obtain⟨os,hos,hcs,hds⟩:=id hs;have hTs:s.TypeIs (.ref sl) "slice":=⟨os,hos,hcs⟩;unfold getItem
 try with_reducible refine LU ?_
 first|refine KF (KG ?_)|skip
 refine KF (wpAny_sequenceKey ht.typeIs (by decide) ?_);refine KF (wpAny_callSpecial?_slot (name:=Str.ofString "__getitem__") ht.typeIs L3
  (wpAny_call_entry L3 ht.typeIs entry_tuple_getitem ?_ (args_tuple_getitem _ _)))
 show wpAny _ _ (Builtin.Tuple.tupleItemsOf (.ref t) >>= _) _ _ s;refine KF (tupleItemsOf_ ht ?_);refine KF (wpAny_typeOf hTs ?_);rw[K1 (by decide)];refine KF (kF hs ?_);show wpAny _ _ (if (((items.size:Int)-1) == 0 && (-1:Int) == 1 && items.size == items.size)=true then _ else _) _ _ s;rw[KW (by simp),A9]
 first
  | exact KF (m:=Builtin.Tuple.tupleExact _) (wpAny_newObj_type (KG ⟨_,rfl,KG h⟩) hrev)
  | exact KF (m:=Builtin.Tuple.tupleExact _) (wpAny_newObj_type (KF (KG (KG ⟨_,rfl,KG h⟩))) hrev)
  | exact KF (KF (m:=Builtin.Tuple.tupleExact _) (wpAny_newObj_type (KG (KG ⟨_,rfl,KG h⟩)) hrev))
  | exact KF (KF (m:=Builtin.Tuple.tupleExact _) (wpAny_newObj_type (KG ⟨_,rfl,KG h⟩) hrev))
end
section
variable {X:Cx}{c:Cfg}{Γ:Nat->FSp}
theorem Rs.rev:∀ {xs:List PV}{ys:List V},Rs K m H xs ys->Rs K m H xs.reverse ys.reverse
 | [],ys,h=>by rw[Rs_nil] at h;subst h;exact Rs_nil.mpr rfl
 | x::xs,ys,h=>by rw[Rs_cons] at h;obtain⟨y,r,rfl,h1,h⟩:=h;rw[NV,NV];exact(Rs.rev h).app (Rs.one h1)
theorem Vals.rev:∀ {vs:List V}{us:List Value},Vals vs us->Vals vs.reverse us.reverse
 | _,_,.nil=>.nil
 | _,_,.cons r t=>by rw[NV,NV];exact(Vals.rev t).snoc r
theorem GB (he:PE X e te)(hs:PE X st ts)(h1:∀ {σ H Q},Q (.int (-1)) H->ts σ H Q) :
  PE X (.Subscript e (.Slice none none (some st) p2) pos) (fun σ H Q=>te σ H fun x H1=>∃a ys,x=.ref a/\SqT X.K H1 a ys/\∀p,H1 p=none->Q (.ref p) (upd H1 p (.tup ys.reverse))):=by
 intro pins s σ H Q I h;refine Subscript_ (thn (he pins s σ H _ I h) fun v s1 ⟨x,H1,I1,r1,q1⟩=>?_);refine wpAny_Slice ?_;rw[evalPart_none];refine KG ?_;rw[evalPart_some];refine KG ?_;refine thn (hs pins s1 σ H1 (fun y H2=>H2=H1/\y=.int (-1)) I1 (h1 ⟨rfl,rfl⟩)) fun u s3 ⟨y,H3,I3,r3,e1,e2⟩=>?_;subst e1 e2;obtain⟨t3,rfl⟩:=r3;obtain⟨a,ys,rfl,ha,q⟩:=q1;cases r1;have I4:L2.Inv X pins σ H3 { s3 with heap:=s3.heap.push { cls:=.type "slice",data:=.fields #[.none,.none,.int (-1) t3] } }:=I3.kept (t':=s3.toks) fun b ob q=>KH _ q;obtain⟨its,ri,pl,lz⟩:=I4.tuple ha;have hsz:its.toArray.size<=sizeLine:=by rw[K3,<-ri.length];exact lz
 show wpAny (model X.prog X.w) X.A (subscriptTail e (.Slice none none (some st) p2) (.ref a) (.ref s3.heap.objs.size)) (EP X pins σ Q) X.xe { s3 with heap:=s3.heap.push { cls:=.type "slice",data:=.fields #[.none,.none,.int (-1) t3] } };refine tail_any (ops:=[.ref a,.ref s3.heap.objs.size]) pl.typeIs slot_tuple_getitem.lookup ?_ (by with_unfolding_all rfl);refine jL pl (Heap.IsSliceOf.new ..) ?_ hsz;refine⟨.ref _,_,I4.laid (t':=s3.toks) (o:=.tup ys.reverse) (fun b ob q=>KH _ q) (KJ _) ?_,rfl,q _ (I4.hok.fresh (KJ _))⟩;exact⟨by rw[NJ];exact lz,its.reverse,Vals.rev ri,⟨_,KL _ rfl,rfl,0,rfl⟩⟩
theorem Hk (C:COk X c Γ)(ha:PE X u (TEx X.K (wpE Γ a))) :
  PE X (.Subscript u (.Slice none none (some (.UnaryOp .USub (.Constant (.int 1) k7 p7) p6)) p5) p4) (TEx X.K (wpE Γ (.un .rev a))):=by
 intro pins s σ H Q I h;obtain⟨m,ρ,st,rf,rh,w⟩:=h;refine GB (X:=X) (p2:=p5) (pos:=p4) ha (D_ (pos:=p6) BI (B2 (X:=X) (i:=1) (j:=k7) (pos:=p7))) (fun {σ H Q} q=>⟨1,rfl,q⟩) pins s σ H Q I ?_;refine⟨m,ρ,st,rf,rh,ae C.mono a (fun v st1 k m1 H1 x1 e1 r1 r2=>?_) w⟩;obtain⟨xs,rfl,k⟩:=wj k;rw[R_tup] at r2;obtain⟨b,ys,rfl,g,ry⟩:=r2;refine⟨b,ys,rfl,g,fun p hp=>?_⟩;have xT:=Ext.newT (o:=.tup ys.reverse) r1 hp;exact k m1 _ _ (e1.trans xT) (r1.newT hp) (R_tup.mpr ⟨p,_,rfl,SqT.of aA,(ry.mono xT).rev⟩)
theorem Cm (hu:X.A.units+64<cLine):OpR X (compareOp .Eq) (fun x y H Q=>∃a ys b,x=.ref a/\SqL X.K H a ys/\y=.ref b/\H b=some (.lst [])/\Q (.bl ys.isEmpty) H):=by
 rintro pins s σ H x y v u Q I rx ry ⟨a,ys,b,rfl,g,rfl,g2,q⟩;cases rx;cases ry;obtain⟨its,ri,pl,_⟩:=I.list g;obtain⟨its2,ri2,pl2,_⟩:=I.list (SqL.of g2);cases ri2;have l1:=ri.length;cases ys with
 | nil =>cases ri;exact SeqAt.eq_listAt (e:=fun _=>true) pl.isList pl2.isList rfl (by omega) (fun j h1 _=>absurd h1 (MW _)) ⟨.bl true,H,I,rfl,q⟩
 | cons z zs =>refine SeqAt.eq_list_lengthsAt pl.isList pl2.isList ?_ (by omega) ⟨.bl false,H,I,rfl,q⟩;rw[LZ] at l1;simp;intro e;rw[e] at l1;simp at l1
noncomputable def ItO (a:Addr)(o:Obj)(ks vs:List V):L2.It :=
 ⟨fun i H=>i<ks.length/\H a=some (.frz o (.own 0)),fun i H x H'=>∃k v T,ks[i]?=some k/\vs[i]?=some v/\x=.ref T/\H T=none/\H'=upd H T (.tup [k,v]),fun i H=>i=ks.length/\H a=some (.frz o (.own 0))⟩
theorem zk {P:Program}{w:World}{K:W.Frag}{elts:List Expr}{kt:Nat}{pt:Pos}{it a:Addr}{o:Obj}{ks vs:List V}{es:Array DictEntry}{ep:Nat}(hd:o.data=.dict es ep)(h1:Vals ks (es.toList.map (·.key)))(h2:Vals vs (es.toList.map (·.val))) :
  rj P w K (.Tuple elts kt pt) (ItO a o ks vs) [it] it (fun i h=>∃x y,IsItemIter h it a i es.size ep x y) where
 mem:=by simp
 obj:=fun i h st b hb=>by
  have e:b=it:=by simpa using hb
  subst e;obtain⟨x,y,e⟩:=st;exact⟨_,e,fun v z=>nomatch z⟩
 keep:=fun i h h' st k=>by obtain⟨x,y,e⟩:=st;exact⟨x,y,k it (by simp) _ e⟩
 item:=by
  intro X hP hw hK hc i pins s σ H E I hf st hg;subst hP hw hK;obtain⟨hi,hF⟩:=hg;have l1:ks.length=es.size:=by simpa using h1.length
  have l2:vs.length=es.size:=by simpa using h2.length
  obtain⟨k,hk⟩:∃k,ks[i]?=some k:=⟨ks[i],by simp[hi]⟩;obtain⟨v,hv⟩:∃v,vs[i]?=some v:=⟨vs[i]'(by omega),K6 _⟩;obtain⟨e,he⟩:∃e,es[i]?=some e:=⟨es[i]'(by omega),LM _⟩;have rk:L2.RelV k e.key:=zj h1 hk (by rw[K2,NB,he];rfl);have rv:L2.RelV v e.val:=zj h2 hv (by rw[K2,NB,he];rfl);obtain⟨x,y,st⟩:=st;refine Bo st ⟨o,(I.hok a _ hF).1,hd⟩ he fun h' st' hT hz kk=>?_;refine⟨_,rfl,wpAny_letOwnedTupleGo_items (s:={ s with heap:=h' }) st' fun h'' st2 sb=>?_⟩;have hlt:it<s.heap.objs.size:=KS st;have Tn:s.heap.objs.size≠it:=ME hlt;have I2:L2.Inv X pins σ (upd H s.heap.objs.size (.tup [k,v])) { s with heap:=h'' }:=rP (t':=s.toks) (its:=[e.key,e.val]) (wr:=[it]) I (fun b u hb e=>by
   have hb:b≠it:=by simpa using hb
   rw[sb.2 b hb];exact kk b u hb e) (fun b hb=>hf b hb) (KJ _) (.cons rk (.cons rv .nil)) (by show 2<=sizeLine;decide) ⟨_,by rw[sb.2 _ Tn];exact hT,rfl,0,rfl⟩
  refine⟨.ref _,_,I2,rfl,⟨k,v,_,hk,hv,rfl,I.hok.fresh (KJ _),rfl⟩,⟨_,_,st2⟩,fun b hb=>?_⟩;have e:b=it:=by simpa using hb
  subst e;rw[ag (K0 hlt)];exact(hf b hb).1
 done:=by
  intro X hP hw hK hc i pins s σ H E I hf st hg;subst hP hw hK;obtain⟨f0,f1,f2,f3,f4,f5⟩:=hf it (by simp);obtain⟨hi,hF⟩:=hg;have l1:ks.length=es.size:=by simpa using h1.length
  obtain⟨x,y,st⟩:=st;exact AL (I.ok.hd hc) st ⟨o,(I.hok a _ hF).1,hd⟩ (by omega) fun h' kk=>⟨rfl,I.turned (t':=s.toks) (fun b u hb e=>kk b u hb e) f0 f1 f3 f4 f5⟩
 self:=fun A i s Q E st h=>by obtain⟨x,y,st⟩:=st;exact W.kcp_self st h
theorem GH {H0:Hp}{kvs:List (PV × PV)}(hF:H0 a=some (.frz o (.own 0)))(r1:Rs K m0 H0 (kvs.map (·.1)) ks)(r2:Rs K m0 H0 (kvs.map (·.2)) vs) :
  lJ K (ItO a o ks vs) (bB kvs) (fun _=>True) m0 H0:=by
 have hl:kvs.length=ks.length:=by simpa using r1.len
 have hw:(bB kvs).length=ks.length:=by simp[bB,hl]
 refine⟨fun m H st x r q=>⟨hw,x.frz _ _ _ hF⟩,fun i v m H st x r q ev=>?_⟩;have hi:i<ks.length:=by rw[<-hw];exact(KQ.mp ev).1
 refine⟨⟨hi,x.frz _ _ _ hF⟩,?_⟩;rintro y H' ⟨k,u,T,hk,hu,rfl,hT,rfl⟩;obtain⟨p,hp⟩:∃p,kvs[i]?=some p:=⟨kvs[i]'(by omega),K6 _⟩;have:(bB kvs)[i]?=some (.tup [p.1,p.2]):=by unfold bB;rw[K2,hp];rfl
 rw[this] at ev;cases ev;obtain⟨k',e1,q1⟩:=r1.get (show (kvs.map (·.1))[i]?=some p.1 by rw[K2,hp];rfl);obtain⟨u',e2,q2⟩:=r2.get (show (kvs.map (·.2))[i]?=some p.2 by rw[K2,hp];rfl);rw[hk] at e1;rw[hu] at e2;cases e1;cases e2;have xT:=Ext.newT (o:=.tup [k,u]) r hT;refine⟨xT,r.newT hT,R_tup.mpr ⟨T,_,rfl,SqT.of aA,?_⟩⟩;rw[Rs_cons',Rs_cons',Rs_nil];exact⟨(q1.mono x).mono xT,(q2.mono x).mono xT,rfl⟩
noncomputable def wiO (X:Cx)(Γ:Nat->FSp)(e:E):TI:=fun σ H Rr=>∃m ρ st,RF X.K m H ρ σ/\RH X.K m H st/\wpE Γ e ρ st fun x st1=>∃n,x=.ref n /\
 ((∃kvs,st1[n]?=some (.dk kvs) /\
  ∀m1 H1 a o ys,Ext X.K m H m1 H1->RH X.K m1 H1 st1->m1[n]?=some a->H1 a=some (.dK ys)->ys.map (·.1)=kvs.map (·.1)->Rs X.K m1 H1 (kvs.map (·.2)) (ys.map (·.2))->(∀u q,X.H₀ a≠some (.frz u q))->Rr (ItF .items a o ys) (upd H1 a (.frz o (.dK ys)))) \/
 ∃kvs,st1[n]?=some (.od kvs) /\
  ∀m1 H1 a o ks vs,Ext X.K m H m1 H1->RH X.K m1 H1 st1->m1[n]?=some a->H1 a=some (.frz o (.own 0))->Rs X.K m1 H1 (kvs.map (·.1)) ks->Rs X.K m1 H1 (kvs.map (·.2)) vs->Rr (ItO a o ks vs) H1)
def Kj (X:Cx)(H1:Hp)(a:Addr)(F:List (Key × V)->Prop)(G:Obj->List V->List V->Prop):Prop:=(∃ys,H1 a=some (.dK ys)/\F ys)\/∃o ks vs,H1 a=some (.frz o (.own 0))/\Gc a o ks vs/\G o ks vs
theorem yh (C:COk X c Γ){ap cp:Pos}(hl:(ap.endLine == cp.line)=true)(hy:cb y=true)(he:PE X y (TEx X.K (wpE Γ e))):PI X (.Tuple elts kt pt) (.Call (.Attribute y "items" ap) [] [] cp) (wiO X Γ e):=by
 rintro pins s σ H Rr I ⟨m,ρ,st,rf,rh,w⟩;refine wpAny_Call_method0_late (d_ hy) hl (thn (he pins s σ H (fun x H1=>∃a,x=.ref a/\∀v,H1 v=none->Kj X H1 a (fun ys=>∀o,(∀u q,X.H₀ a≠some (.frz u q))->Rr (ItF .items a o ys) (upd (upd H1 v (gw v a)) a (.frz o (.dK ys)))) fun o ks vs=>Rr (ItO a o ks vs) (upd H1 v (gw v a))) I ⟨m,ρ,st,rf,rh,ae C.mono e (fun v st1 k m1 H1 x1 e1 r1 r2=>?_) w⟩) fun v s1 ⟨x,H1,I1,r1,a,ex,q⟩=>?_)
 ·obtain⟨n,rfl,k⟩:=k;obtain⟨a,ea,rfl⟩:=R_ref.mp r2;refine⟨a,rfl,fun v hv=>?_⟩;rcases k with⟨kvs,h1,k⟩|⟨kvs,h1,k⟩
  ·obtain⟨ys,g,r3,r4⟩:=r1.at_ n _ a h1 ea;refine .inl ⟨ys,g,fun o hz=>?_⟩;have xv:=Ext.newT (o:=gw v a) r1 hv;exact k m1 _ a o ys (e1.trans xv) (r1.newT hv) ea (by rw[ag (ao g hv)];exact g) r3 (r4.mono xv) hz
  ·obtain⟨o,ks,vs,g,ob,r3,r4⟩:=r1.at_ n _ a h1 ea;refine .inr ⟨o,ks,vs,g,ob,?_⟩;have xv:=Ext.newT (o:=gw v a) r1 hv;exact k m1 _ a o ks vs (e1.trans xv) (r1.newT hv) ea (by rw[ag (ao g hv)];exact g) (r3.mono xv) (r4.mono xv)
 ·subst ex;cases r1;have hvn:H1 s1.heap.objs.size=none:=I1.hok.fresh (KJ _);have fct:∃o,s1.heap.get? a=some o/\o.ExactDict/\(a == sysModules)=false:=by
   rcases q _ hvn with⟨ys,g,_⟩|⟨o,ks,vs,g,⟨lo,hx,_⟩,_⟩
   ·obtain⟨_,lo,_,_,o,_,_,e,ex,_⟩:=I1.hok a _ g;exact⟨o,e,ex,lo⟩
   ·exact⟨o,(I1.hok a _ g).1,hx,lo⟩
  obtain⟨od,hod,hxd,lo⟩:=fct;have hT:s1.TypeIs (.ref a) "dict":=⟨od,hod,hxd.1⟩;have It:L2.Inv X pins σ (upd H1 s1.heap.objs.size (gw s1.heap.objs.size a)) { s1 with heap:=s1.heap.push { cls:=.type "dict_items",data:=.fields #[.ref a] } } :=
   I1.laid (t':=s1.toks) (fun b u e=>KH _ e) (KJ _) (show ObjOk X.prog X.w _ _ _ (gw s1.heap.objs.size a) from ⟨⟨_,KL _ rfl,rfl,rfl⟩,⟨_,KL _ rfl⟩,fun h1 h2 z e=>let ⟨ob,h3,r⟩:=z;⟨ob,e _ h3,r⟩⟩)
  have hw:({ s1 with heap:=s1.heap.push { cls:=.type "dict_items",data:=.fields #[.ref a] } }:Shared).heap.IsItemsView s1.heap.objs.size a:=⟨_,KL _ rfl,rfl,rfl⟩;refine ⟨"dict","dict.items",NQ,M5,PySem.F.type_dict_items,hT,fun b e2=>by cases e2;exact ⟨od,hod,hxd.2.1⟩,Calls.callWith_builtin rfl (PySem.evalArgs_none ?_)⟩;refine wpAny_call_entry M5 hT PySem.F.entry_dict_items (wpAny_mono (Dy (es:=#[]) (ep:=0) (R:=fun r s'=>r=.ok (.ret (.ref s1.heap.objs.size))/\s'={ s1 with heap:=s1.heap.push { cls:=.type "dict_items",data:=.fields #[.ref a] } }) lo hod hxd ⟨rfl,rfl⟩) (fun fin s' hq=>?_) fun _ _ e=>e) (PySem.F.args_dict_items_1 _);obtain⟨r,rfl,hr,rfl⟩:=hq;cases hr;refine⟨_,rfl,?_⟩;rcases q _ hvn with⟨ys,g,q⟩|⟨o,ks,vs,g,ob,q⟩
  ·have hd:upd H1 s1.heap.objs.size (gw s1.heap.objs.size a) a=some (.dK ys):=by rw[ag (ao g hvn)];exact g
   obtain⟨z,hm,vs,rel,o,es,ep,ho,rr⟩:=gu It.hok hd;have hO:ObD X.prog X.w a o ys vs ep:=⟨rel,fun h e=>⟨o,es,e,rr⟩⟩;refine wpAny_pyIter_items hw (hO.2 _ ho) ?_;refine⟨_,[_],_,_,_,rfl,(gY It hd ho).kept (t':=s1.toks) fun b u e=>KH _ e,nA hO,⟨_,_,KL _ rfl⟩,fun b hb=>?_,q o (uI It hd)⟩;have e:=K4.mp hb;subst e;exact It.fpOk (KJ _) ((gY It hd ho).hok.fresh (KJ _))
  ·have hd:upd H1 s1.heap.objs.size (gw s1.heap.objs.size a) a=some (.frz o (.own 0)):=by rw[ag (ao g hvn)];exact g
   obtain⟨_,hx,es,ep,hdt,w1,w2⟩:=ob;refine AW hw ⟨o,(It.hok a _ hd).1,hdt⟩ fun it h' eit hit kk=>?_;refine⟨it,[it],_,_,_,rfl,It.kept (t':=s1.toks) fun b u e=>kk b u e,zk hdt w1 w2,⟨_,_,hit⟩,fun b hb=>?_,q⟩;have e:=K4.mp hb;subst e;exact It.fpOk (OT eit.symm) (It.hok.fresh (OT eit.symm))
end
end FW
namespace FW
open L2 HX
section
variable {Γ:Nat->FSp}
theorem fW (G:bD Γ){st:AH}{k k':Option PV->AH->Prop}(hk:∀o st,k o st->k' o st)(q:di Γ elt tg ifs ρ x st k):di Γ elt tg ifs ρ x st k' :=
 aO G tg (fun ρ' st3 w=>bC G ifs (fun c st4 w=>by
  cases c with
  | true=>rw[K1 rfl] at w |-;exact ae G elt (fun v st5 w=>hk _ _ w) w
  | false=>rw[KW KI] at w |-;exact hk _ _ w) w) q
theorem RH.addD {D:Addr}(h:RH K m H st)(Dm:D ∉ m)(hD:H D=some (.lst ys))(r:Rs K m H vs ys):RH K (m++[D]) H (st++[.lst vs]):=by
 have hp:m <+: m++[D]:=N9 _ _;refine⟨by simp[h.len],MY.mpr ⟨h.nd,KY.mpr ⟨by simp,OM⟩,fun a ha b hb z=>?_⟩,fun n c' a h1 h2=>?_,h.tb⟩
 ·rw[K4] at hb;subst hb;exact Dm (z ▸ ha)
 ·by_cases hn:n<st.length
  ·rw[K9 hn] at h1;rw[K9 (by rw[h.len];exact hn)] at h2;have hc:=h.at_ n c' a h1 h2;cases c' with
   | lst xs=>obtain⟨us,g1,g2⟩:=hc;exact⟨us,g1,g2.pre hp⟩
   | dk kvs=>obtain⟨us,g1,g2,g3⟩:=hc;exact⟨us,g1,g2,g3.pre hp⟩
   | fz kvs=>obtain⟨o,us,g1,g2,g3⟩:=hc;exact⟨o,us,g1,g2,g3.pre hp⟩
   | od kvs=>obtain⟨o,us,ws,g1,g2,g3,g4⟩:=hc;exact⟨o,us,ws,g1,g2,g3.pre hp,g4.pre hp⟩
  ·rw[LH (by omega)] at h1;rw[LH (by rw[h.len];omega)] at h2;have hl:=h.len;by_cases hz:n-st.length=0
   ·rw[hz] at h1;rw[show n-m.length=0 by omega] at h2;simp at h1 h2;subst h1 h2;exact⟨ys,hD,r.pre hp⟩
   ·rw[L4 (by simp;omega)] at h1;cases h1
noncomputable def J9 (X:Cx)(P:Addr->Hp->Prop):Addr->Hp->Prop:=fun D H'=>∃a o ys,H' a=some (.frz o (.dK ys))/\(∀u q,X.H₀ a≠some (.frz u q))/\P D (upd H' a (.dK ys))
theorem yB {a D:Addr}(e1:Ext K m H m1 H1)(am:a∈m1)(pre:m1 <+: m2)(Dm:D ∉ m2)(h:upd H1 a ho D=none):D≠a/\H D=none:=by
 have ne:D≠a:=fun z=>Dm (z ▸ pre.subset am);rw[ag ne] at h;refine⟨ne,?_⟩;cases q:H D with
 | none=>rfl
 | some o =>
  by_cases hm:D∈m
  ·exact absurd (pre.subset (e1.pre.subset hm)) Dm
  ·exact absurd h (e1.ne hm q)
noncomputable def JH (X:Cx)(P:Addr->Hp->Prop):Addr->Hp->Prop:=fun D H'=>J9 X P D H'\/P D H'
theorem Cj (C:COk X c Γ){nt:List Str}{P:Addr->Hp->Prop}(rf:RF X.K m H ρ σ)(rh:RH X.K m H st)(w:wpE Γ (.compO elt tg e ifs nt caps) ρ st Q)(hQ:∀n st2 m' H' D,Ext X.K m H m' H'->RH X.K m' H' st2->m'[n]?=some D->Q (.ref n) st2->P D H') :
  wiO X Γ e σ H fun J H1=>∃m ρ st1 xs chk,RF X.K m H1 ρ σ/\RH X.K m H1 st1/\lJ X.K J xs chk m H1/\xs.length<100000/\cQ chk (di Γ elt tg ifs (nt.map (fun _=>none)++caps.map fun i=>(ρ[i]?).join)) xs [] st1 (c5 X.K m H1 (JH X P)):=by
 refine⟨m,ρ,st,rf,rh,ae C.mono e (fun v st1 z=>?_) w⟩;obtain⟨n,rfl,z⟩:=z;refine⟨n,rfl,z.imp (fun z=>?_) fun z=>?_⟩
 ·obtain⟨kvs,h1,hl,z⟩:=z;refine⟨kvs,h1,fun m1 H1 a o ys e1 r1 ea g r3 r4 hz=>?_⟩;have xs:Ext X.K m1 H1 m1 (upd H1 a (.frz o (.dK ys))):=Ext.set (ys:=[]) r1 ea (nfD g);refine⟨m1,ρ,st1.set n (.fz kvs),bF .items kvs,fun _=>True,(rf.mono e1).mono xs,r1.frz ea g r3 r4,Cp aA r3 (r4.mono xs),by simpa[bF] using hl,?_⟩;refine bT (body:=di Γ elt tg ifs (nt.map (fun _=>none)++caps.map fun i=>(ρ[i]?).join)) (fun _ _ _ _ hk q=>fW C.mono hk q) (fun vs st2 k m2 H2 D zs e2 r2 Dm hD0 hD ry=>?_) z;obtain⟨k1,k⟩:=k;have hF:H2 a=some (.frz o (.dK ys)):=e2.frz _ _ _ aA;obtain⟨ne,hD1⟩:=yB e1 (K5 ea) e2.pre Dm hD0;have r5:=r2.thaw (eU e2.pre ea) hF k1;have r6:=r5.addD Dm (by rw[ag ne];exact hD) (ry.mono0 (ck hF) (cg hF));exact .inl ⟨a,o,ys,hF,hz,hQ _ _ _ _ D ((e1.trans (Ext.thaw r1 ea g e2)).addD hD1) r6 (by rw[<-r2.len];simp) k⟩
 ·obtain⟨kvs,h1,hl,z⟩:=z;refine⟨kvs,h1,fun m1 H1 a o ks vs e1 r1 ea g r3 r4=>?_⟩;refine⟨m1,ρ,st1,bB kvs,fun _=>True,rf.mono e1,r1,GH g r3 r4,by simpa[bB] using hl,?_⟩;refine bT (body:=di Γ elt tg ifs (nt.map (fun _=>none)++caps.map fun i=>(ρ[i]?).join)) (fun _ _ _ _ hk q=>fW C.mono hk q) (fun vs st2 k m2 H2 D zs e2 r2 Dm hD0 hD ry=>?_) z;have hD1:H D=none:=by
   cases q:H D with
   | none=>rfl
   | some ob =>
    by_cases hm:D∈m
    ·exact absurd (e2.pre.subset (e1.pre.subset hm)) Dm
    ·exact absurd hD0 (e1.ne hm q)
  exact .inr (hQ _ _ _ _ D ((e1.trans e2).addD hD1) (r2.addD Dm hD ry) (by rw[<-r2.len];simp) k)
theorem jx (C:COk X c Γ){nt:List Str}(h:c.block nt caps sc=true) :
  CScope X sc/\(∀i∈caps,i<X.N.length)/\(∀x∈caps.filterMap (X.N[·]?),sc.names.lookup x=some .free)/\(∀x∈caps.filterMap (X.N[·]?),X.env.kindOf x=some .cell\/X.env.kindOf x=some .free)/\(nt++caps.filterMap (X.N[·]?)).Nodup:=by
 unfold Cfg.block at h;simp only[Bool.and_eq_true,List.all_eq_true,beq_iff_eq,decide_eq_true_eq,Bool.or_eq_true,Bool.not_eq_true',beq_eq_false_iff_ne] at h;obtain⟨⟨⟨⟨⟨⟨h1,h2⟩,h3⟩,h4⟩,h5⟩,h6⟩,h7⟩:=h;rw[C.N];refine⟨⟨h1,fun y hy=>h2 y hy,fun y hy e=>?_,fun y hy e=>?_⟩,h5,fun x hx=>(h6 x hx).1,fun x hx=>C.cel x (xp (h6 x hx).2),h7⟩
 ·rcases h3 y hy with z|z
  ·exact absurd e z
  ·exact z
 ·rcases h4 y hy with z|z
  ·exact absurd e z
  ·exact C.cel _ (xp z)
theorem vF (C:COk X c Γ){nt:List Str}(h:c.block nt caps sc=true) :
  COk (cxC X (nt++caps.filterMap (X.N[·]?)) s2 H2 fp sc A) (c.inner nt caps sc) Γ:=by
 obtain⟨S,k1,k2,k3,k4⟩:=jx C h;have nocell:∀x,sc.names.lookup x≠some .cell:=fun x e=>S.nocell _ (MG e) rfl;refine⟨C.calm,PassesOwn.never,?_,?_,fun x hx=>?_,fun x hx=>?_,fun x hx=>lookup_relabel_local hx,fun x hx=>jR hx,?_,fun x hx=>?_,C.room,C.fn,C.blt,C.gl,C.mono,fun h=>Bool.noConfusion (show false=true from h),fun k h=>by cases h⟩
 ·show nt++caps.filterMap (X.N[·]?)=nt++caps.filterMap (c.N[·]?);rw[C.N]
 ·show (nt++caps.filterMap (c.N[·]?)).Nodup;rw[<-C.N];exact k4
 ·rcases hx with hx|hx|hx
  ·exact .inl (lookup_relabel_local hx)
  ·exact absurd hx (nocell x)
  ·rcases dW (env:=X.env) hx with z|z
   ·exact .inr (.inl z)
   ·exact .inr (.inr z)
 ·rcases hx with hx|hx
  ·exact⟨.inl (lookup_relabel_local hx),.inr (lookup_relabel_local hx)⟩
  ·exact absurd hx (nocell x)
 ·show Env.blockKind (compEnvC sc (iY X.env sc.names []) A X.env)=_;unfold Env.blockKind;show (if sc.kind.isAnnotationScope=true then _ else sc.kind)=_;rw[S.kind];rfl
 ·rcases hx with hx|hx
  ·exact absurd hx (nocell x)
  ·exact dW hx
theorem sP {X:Cx}{P:V->Hp->Prop}(r1:RH X.K m1 H1 st1)(r2:R X.K m1 H1 v x1)(k:unW .isE v st1 Q)(h:∀ {b:Bool} p,H1 p=none->Q (.bl b) st1->P (.bl b) (upd H1 p (.lst []))) :
  IG (tU) σ H1 (fun y H2=>∃a ys b,x1=.ref a/\SqL X.K H2 a ys/\y=.ref b/\H2 b=some (.lst [])/\P (.bl ys.isEmpty) H2):=by
 obtain⟨xs,h1,q⟩:=k;obtain⟨a,ys,rfl,g,ry⟩:=bX r1 r2 h1;refine⟨by show 0<=sizeLine;exact LS _,fun p hp=>⟨a,ys,p,rfl,?_,rfl,aA,?_⟩⟩
 ·rcases g with (g|⟨w,g⟩)|g
  ·exact .inl (.inl (by rw[ag (ao g hp)];exact g))
  ·exact .inl (.inr ⟨w,by rw[ag (ao g hp)];exact g⟩)
  ·exact .inr g
 ·have e:ys.isEmpty=xs.isEmpty:=by have:=ry.len;cases xs <;> cases ys <;> first|rfl|(simp at this)
  rw[e];exact h p hp q
theorem vn (h:(cb y || vE y)=true):attributeBase y n env w=w:=by cases y <;> first|rfl|cases h
theorem Gm (C:COk X c Γ){ap cp:Pos}(hl:(ap.endLine == cp.line)=true)(hy:(cb u || vE u)=true)(hs:aj l=true)(ha:PE X u (TEx X.K (wpE Γ a)))(hb:PE X l (TEx X.K (wpE Γ b))) :
  PE X (.Call (.Attribute u (Ah k) ap) [l] [] cp) (TEx X.K (wpE Γ (.smx k a b))):=by
 intro pins s σ H Q I h;obtain⟨m,ρ,st,rf,rh,w⟩:=h;have hB:PA X [l] (lg (TEx X.K (wpE Γ b)) tU):=pac hb eI hs;cases k with
 | join =>refine Cq PySem.F.plainAttrs_str PySem.F.slot_str_join PySem.F.type_str_join De ha hB (vn hy) (by rw[bO hs];rfl) hl (bO hs) rfl pins s σ H Q I ?_;refine⟨m,ρ,st,rf,rh,ae C.mono a (fun v st1 k m1 H1 x1 e1 r1 r2=>?_) w⟩;obtain⟨⟨z,rfl⟩,k⟩:=k;rw[R_str] at r2;subst r2;refine⟨rfl,m1,ρ,st1,rf.mono e1,r1,ae C.mono b (fun v st2 k m2 H2 x2 e2 r3 r4=>?_) k⟩;obtain⟨ss,h2,h3,k⟩:=k;obtain⟨a,zs,rfl,g,rz⟩:=bX r3 r4 h2;obtain rfl:=lW rz;exact⟨z,a,ss,rfl,rfl,g,h3,k m2 H2 _ (e1.trans e2) r3 (R_str.mpr rfl)⟩
mutual
theorem aR:∀(e:E) {X:Cx}{c:Cfg} (C:COk X c Γ) (x:Expr),ay c e x=true->PE X x (TEx X.K (wpE Γ e))
 | .var i,X,c,C,x,h=>by
  replace h:=au h;obtain⟨y,p,rfl,h⟩:=h
  ·exact AG C h
 | .int i,X,c,C,x,h=>by
  replace h:=p9 h;obtain⟨j,k,p,rfl,h⟩:=h
  ·rw[OX] at h;subst h;rintro pins s σ H Q I ⟨m,ρ,st,rf,rh,w⟩
   skip
   exact B2 pins s σ H Q I (w.here rh (R_int.mpr rfl))
 | .bl i,X,c,C,x,h=>by
  replace h:=Ad h;obtain⟨j,k,p,rfl,h⟩:=h
  ·rw[OX] at h;subst h;rintro pins s σ H Q I ⟨m,ρ,st,rf,rh,w⟩
   skip
   exact HR pins s σ H Q I (w.here rh (R_bl.mpr rfl))
 | .non,X,c,C,x,h=>by
  replace h:=xI h;obtain⟨k,p,rfl⟩:=h
  ·rintro pins s σ H Q I ⟨m,ρ,st,rf,rh,w⟩
   skip
   exact Ht pins s σ H Q I (w.here rh (R_non.mpr rfl))
 | .str i,X,c,C,x,h=>by
  replace h:=yd h;obtain⟨j,k,p,rfl,h⟩:=h
  ·rw[OX] at h;subst h;rintro pins s σ H Q I ⟨m,ρ,st,rf,rh,w⟩
   skip
   exact Hd pins s σ H Q I (w.here rh (R_str.mpr rfl))
 | .gv y v,X,c,C,x,h=>by
  replace h:=au h;obtain⟨z,p,rfl,h⟩:=h
  ·simp only[Bool.and_eq_true,beq_iff_eq] at h;obtain⟨⟨h1,h2⟩,h3⟩:=h;subst h1;obtain⟨g1,g2,_⟩:=C.glbx h2;replace h3:=i9 h3;obtain⟨w,hw,h3⟩:=h3
   ·have:=PV.same_eq h3;subst this;obtain⟨u,z,e1,e2,e3⟩:=C.gl _ _ hw;rintro pins s σ H Q I ⟨m,ρ,st,rf,rh,w⟩
    skip
    exact Dr g1 e1 e2 g2 pins s σ H Q I (w.here rh (e3 m H))
 | .tup es,X,c,C,x,h=>by
  replace h:=bE h;obtain⟨xs,k,p,rfl,h⟩:=h
  ·rintro pins s σ H Q I ⟨m,ρ,st,rf,rh,w⟩
   skip
   refine Gb (lj es C _ h) pins s σ H Q I ⟨m,ρ,st,rf,rh,aN C.mono es (fun vs st1 k m1 H1 xs1 e1 r1 r2=>⟨by rw[<-r2.len];exact f9 k.1,fun p hp=>?_⟩) w⟩;exact(k.2.ext e1).newT r1 r2 hp
 | .lst es,X,c,C,x,h=>by
  replace h:=i4 h;obtain⟨xs,p,rfl,h⟩:=h
  ·rintro pins s σ H Q I ⟨m,ρ,st,rf,rh,w⟩
   skip
   refine u9 (lj es C _ h) pins s σ H Q I ⟨m,ρ,st,rf,rh,aN C.mono es (fun vs st1 k m1 H1 xs1 e1 r1 r2=>⟨by rw[<-r2.len];exact f9 k.1,fun p hp=>?_⟩) w⟩;exact(k.2.ext e1).newL r1 r2 hp
 | .bad,X,c,C,x,h=>by rintro pins s σ H Q I ⟨m,ρ,st,rf,rh,w⟩;exact False.elim w
 | .dct0,X,c,C,x,h=>by
  replace h:=uG h;obtain⟨ks,vs,p,rfl,h⟩:=h;replace h:=Hc h;obtain⟨rfl,rfl⟩:=h
  ·rintro pins s σ H Q I ⟨m,ρ,st,rf,rh,w⟩
   skip
   refine Ae pins s σ H Q I fun p hp=>?_;exact w _ _ _ (Ext.new1 rh hp) (rh.new1 hp ⟨[],aA,rfl,Rs_nil.mpr rfl⟩) (R.last rh.len)
 | .dct1 _ _,X,c,C,x,h=>by rintro pins s σ H Q I ⟨m,ρ,st,rf,rh,w⟩;exact False.elim w
 | .bin op a b,X,c,C,x,h=>by
  replace h:=ya h;obtain⟨l,o,r,p,rfl,h⟩:=h
  ·simp only[Bool.and_eq_true,beq_iff_eq] at h;obtain⟨⟨h1,h2⟩,h3⟩:=h;subst h1;rintro pins s σ H Q I ⟨m,ρ,st,rf,rh,w⟩
   skip
   exact Ji (F8 _) (aR a C _ h2) (aR b C _ h3) pins s σ H Q I ⟨m,ρ,st,rf,rh,ae C.mono a (fun v st1 k m1 H1 x1 e1 r1 r2=>⟨m1,ρ,st1,rf.mono e1,r1,
    ae C.mono b (fun u st2 k2 m2 H2 y2 e2 r3 r4=>⟨m2,st2,v,u,r3,r2.mono e2,r4,pE (fun _ _ q=>q.ext (e1.trans e2)) k2⟩) k⟩) w⟩
 | .neg a,X,c,C,x,h=>by
  replace h:=p8 h;obtain⟨y,p,rfl,h⟩:=h
  ·rintro pins s σ H Q I ⟨m,ρ,st,rf,rh,w⟩
   skip
   refine D_ BI (aR a C _ h) pins s σ H Q I ⟨m,ρ,st,rf,rh,ae C.mono a (fun v st1 k m1 H1 x1 e1 r1 r2=>?_) w⟩;obtain⟨i,rfl,k⟩:=k;rw[R_int] at r2;subst r2;exact⟨i,rfl,(k.ext e1).here r1 (R_int.mpr rfl)⟩
 | .not a,X,c,C,x,h=>by
  replace h:=pX h;obtain⟨y,p,rfl,h⟩:=h
  ·rintro pins s σ H Q I ⟨m,ρ,st,rf,rh,w⟩
   skip
   refine FU (aR a C _ h) pins s σ H Q I ⟨m,ρ,st,rf,rh,ae C.mono a (fun v st1 k m1 H1 x1 e1 r1 r2=>?_) w⟩;obtain⟨i,rfl,k⟩:=k;rw[R_bl] at r2;subst r2;exact⟨i,rfl,(k.ext e1).here r1 (R_bl.mpr rfl)⟩
 | .cmp op a b,X,c,C,x,h=>by
  replace h:=dY h;obtain⟨l,o,r,p,rfl,h⟩:=h
  ·simp only[Bool.and_eq_true,beq_iff_eq,Bool.not_eq_true',beq_eq_false_iff_ne] at h;obtain⟨⟨⟨h1,n1⟩,h2⟩,h3⟩:=h;subst h1;rintro pins s σ H Q I ⟨m,ρ,st,rf,rh,w⟩
   skip
   exact rO (Bf C.room.units _) (aR a C _ h2) (aR b C _ h3) n1 pins s σ H Q I ⟨m,ρ,st,rf,rh,ae C.mono a (fun v st1 k m1 H1 x1 e1 r1 r2=>⟨m1,ρ,st1,rf.mono e1,r1,
    ae C.mono b (fun u st2 k2 m2 H2 y2 e2 r3 r4=>⟨m2,st2,v,u,r3,r2.mono e2,r4,gX (fun _ _ q=>q.ext (e1.trans e2)) k2⟩) k⟩) w⟩
 | .bop true es,X,c,C,x,h=>by
  replace h:=ip h;obtain⟨o,xs,p,rfl,h⟩:=h
  ·simp only[Bool.and_eq_true,beq_iff_eq,Bool.not_eq_true'] at h;obtain⟨⟨h1,h2⟩,h3⟩:=h;subst h1;rintro pins s σ H Q I ⟨m,ρ,st,rf,rh,w⟩
   skip
   exact Fn es C _ _ h2 h3 pins s σ H Q I ⟨m,ρ,st,rf,rh,w⟩
 | .bop false es,X,c,C,x,h=>by
  replace h:=ip h;obtain⟨o,xs,p,rfl,h⟩:=h
  ·simp only[Bool.and_eq_true,beq_iff_eq,Bool.not_eq_true'] at h;obtain⟨⟨h1,h2⟩,h3⟩:=h;subst h1;rintro pins s σ H Q I ⟨m,ρ,st,rf,rh,w⟩
   skip
   exact EZ es C _ _ h2 h3 pins s σ H Q I ⟨m,ρ,st,rf,rh,w⟩
 | .ite t a b,X,c,C,x,h=>by
  replace h:=xZ h;obtain⟨y,l,r,p,rfl,h⟩:=h
  ·simp only[Bool.and_eq_true] at h;obtain⟨⟨h1,h2⟩,h3⟩:=h;rintro pins s σ H Q I ⟨m,ρ,st,rf,rh,w⟩
   skip
   refine Cd (oj t C _ h1) (aR a C _ h2) (aR b C _ h3) pins s σ H Q I ⟨m,ρ,st,rf,rh,aY C.mono t (fun k st1 z m1 H1 e1 r1=>?_) w⟩;cases k with
   | true=>rw[K1 rfl] at z |-;exact⟨m1,ρ,st1,rf.mono e1,r1,ae C.mono a (fun _ _ q=>q.ext e1) z⟩
   | false=>rw[KW KI] at z |-;exact⟨m1,ρ,st1,rf.mono e1,r1,ae C.mono b (fun _ _ q=>q.ext e1) z⟩
 | .ix a b,X,c,C,x,h=>by
  replace h:=cA h;obtain⟨l,r,p,rfl,h⟩:=h
  ·simp only[Bool.and_eq_true] at h;obtain⟨⟨h1,h2⟩,h3⟩:=h;rintro pins s σ H Q I ⟨m,ρ,st,rf,rh,w⟩
   skip
   exact z_ (Fe C.room.units) (aR a C _ h2) (aR b C _ h3) h1 pins s σ H Q I ⟨m,ρ,st,rf,rh,ae C.mono a (fun v st1 k m1 H1 x1 e1 r1 r2=>⟨m1,ρ,st1,rf.mono e1,r1,
    ae C.mono b (fun u st2 k2 m2 H2 y2 e2 r3 r4=>⟨m2,st2,v,u,r3,r2.mono e2,r4,jU (fun _ _ q=>q.ext (e1.trans e2)) k2⟩) k⟩) w⟩
 | .sl a lo hi,X,c,C,x,h=>by
  replace h:=cA h;obtain⟨l,r,p,rfl,h⟩:=h;replace h:=sQ h;obtain⟨u,v,p2,rfl,h⟩:=h
  ·simp only[Bool.and_eq_true] at h;obtain⟨⟨h1,h2⟩,h3⟩:=h;rintro pins s σ H Q I ⟨m,ρ,st,rf,rh,w⟩
   skip
   exact zV IW (aR a C _ h1) (Io lo C _ h2) (Io hi C _ h3) pins s σ H Q I ⟨m,ρ,st,rf,rh,ae C.mono a (fun v st1 k m1 H1 x1 e1 r1 r2=>⟨m1,ρ,st1,rf.mono e1,r1,
    jI C.mono lo (fun l st2 k2 m2 H2 e2 r3=>⟨m2,ρ,st2,(rf.mono e1).mono e2,r3,jI C.mono hi (fun u st3 k3 m3 H3 e3 r4=>⟨m3,st3,v,r4,(r2.mono e2).mono e3,tY (fun _ _ q=>q.ext ((e1.trans e2).trans e3)) k3⟩) k2⟩) k⟩) w⟩
 | .call f es,X,c,C,x,h=>by
  replace h:=aM h;obtain⟨g,xs,p,rfl,h⟩:=h;replace h:=au h;obtain⟨y,p2,rfl,h⟩:=h
  ·simp only[Bool.and_eq_true] at h;obtain⟨⟨h1,h2⟩,h3⟩:=h;rintro pins s σ H Q I ⟨m,ρ,st,rf,rh,w⟩
   skip
   exact ur C h1 h2 h3 (lj es C _ h3) pins s σ H Q I ⟨m,ρ,st,rf,rh,w⟩
 | .blt b es,X,c,C,x,h=>by
  replace h:=aM h;obtain⟨g,xs,p,rfl,h⟩:=h;replace h:=au h;obtain⟨y,p2,rfl,h⟩:=h
  ·simp only[Bool.and_eq_true,beq_iff_eq,Bool.not_eq_true'] at h;obtain⟨⟨⟨⟨h1,h2⟩,h3⟩,h4⟩,h5⟩:=h;rintro pins s σ H Q I ⟨m,ρ,st,rf,rh,w⟩
   skip
   exact tj C h1 h2 h3 h4 (lj es C _ h5) pins s σ H Q I ⟨m,ρ,st,rf,rh,w⟩
 | .inst a t,X,c,C,x,h=>by
  replace h:=aM h;obtain⟨g,xs,p,rfl,h⟩:=h;replace h:=au h;obtain⟨y,p2,rfl,h⟩:=h;replace h:=h_ h;obtain⟨l,r,rfl,h⟩:=h;replace h:=au h;obtain⟨z,p3,rfl,h⟩:=h
  ·rw[KM] at h;exact wK C h.1 (aR a C _ h.2)
 | .met mm o es,X,c,C,x,h=>by
  replace h:=aM h;obtain⟨g,xs,p,rfl,h⟩:=h;replace h:=gm h;obtain⟨y,n,p2,rfl,h⟩:=h
  ·simp only[Bool.and_eq_true,beq_iff_eq,decide_eq_true_eq] at h;obtain⟨⟨⟨⟨⟨⟨h1,h2⟩,h3⟩,h4⟩,h0⟩,h5⟩,h6⟩:=h;exact AV C h1 (by rw[h2];simp) h3 h4 h0 (aR o C _ h5) (lj es C _ h6) h6
 | .comp elt tg it ifs nt caps,X,c,C,x,h=>by
  replace h:=gN h;obtain⟨ex,gs,sc,pos,rfl,h⟩:=h;replace h:=cD h;obtain⟨g,rfl,h⟩:=h;obtain⟨tx,ix,fx,ia⟩:=g;dsimp only at h
  ·simp only[Bool.and_eq_true,beq_iff_eq] at h;obtain⟨⟨⟨⟨⟨⟨⟨⟨h1,h0⟩,h2⟩,h3⟩,h4⟩,h5⟩,h6⟩,h7⟩,h8⟩:=h;subst h1;obtain⟨S,k1,k2,k3,k4⟩:=jx C h4;have hC:∀s2 H2 fp A,COk (cxC X (nt++caps.filterMap (X.N[·]?)) s2 H2 fp sc A) (c.inner nt caps sc) Γ:=fun s2 H2 fp A=>vF C h4;rintro pins s σ H Q I ⟨m,ρ,st,rf,rh,w⟩
   skip
   rw[eval_ListComp];refine ko (elt:=elt) (tg:=tg) (ifs:=ifs) (nt:=nt) (caps:=caps) (use:=none) (Fin:=fun D H'=>Q (.ref D) H') (wi:=TIx X.K (jM Γ it)) C.mono C.calm S rfl k1 k2 k3 h2 h3 (B3 it C ix h0 h5) (fun s2 H2 fp A=>kJ tg (hC s2 H2 fp A) _ h6) (fun s2 H2 fp A=>q5 ifs (hC s2 H2 fp A) _ h7) (fun s2 H2 fp A=>aR elt (hC s2 H2 fp A) _ h8) I ?_ ?_
   ·refine⟨m,ρ,st,rf,rh,fF C.mono it (fun xs chk st1 z m1 H1 J e1 r1 W=>⟨m1,ρ,st1,xs,chk,rf.mono e1,r1,W,z.1,?_⟩) w⟩;refine bT (body:=di Γ elt tg ifs (nt.map (fun _=>none)++caps.map fun i=>(ρ[i]?).join)) (fun _ _ _ _ hk q=>fW C.mono hk q) (fun vs st2 k m2 H2 D ys e2 r2 Dm hD0 hD ry=>?_) z.2;have hD1:H D=none:=by
     cases q:H D with
     | none=>rfl
     | some o =>
      by_cases hm:D∈m
      ·exact absurd ((e1.trans e2).pre.subset hm) Dm
      ·exact absurd hD0 (e1.ne hm q)
    exact k _ _ _ ((e1.trans e2).addD hD1) (r2.addD Dm hD ry) (R.last r2.len)
   ·intro C' D H' s' m' I' ns fp F;refine⟨m',ns,fun h' hs'=>?_⟩;exact⟨.ref D,H',I'.turned (t':=s'.toks) (fun b o hb e=>hs'.extBut b o hb e) fp.1 fp.2.1 fp.2.2.2.1 fp.2.2.2.2.1 fp.2.2.2.2.2,rfl,F⟩
 | .compK _ _ _ _ _ _ _,X,c,C,x,h=>by rintro pins s σ H Q I ⟨m,ρ,st,rf,rh,w⟩;exact False.elim w
 | .compO elt tg e ifs nt caps,X,c,C,x,h=>by
  replace h:=gN h;obtain⟨ex,gs,sc,pos,rfl,h⟩:=h;replace h:=cD h;obtain⟨g,rfl,h⟩:=h;obtain⟨tx,ix,fx,ia⟩:=g;dsimp only at h;simp only[Bool.and_eq_true,beq_iff_eq] at h;obtain⟨⟨⟨⟨⟨⟨⟨⟨h1,h0⟩,h2⟩,h3⟩,h4⟩,h5⟩,h6⟩,h7⟩,h8⟩:=h;subst h1;obtain⟨S,k1,k2,k3,k4⟩:=jx C h4;have hC:∀s2 H2 fp A,COk (cxC X (nt++caps.filterMap (X.N[·]?)) s2 H2 fp sc A) (c.inner nt caps sc) Γ:=fun s2 H2 fp A=>vF C h4;rintro pins s σ H Q I ⟨m,ρ,st,rf,rh,w⟩;rw[eval_ListComp];obtain⟨yx,ap,cp,rfl,i1,i2,i3⟩:=mx h5;have hPI:PI X tx (.Call (.Attribute yx "items" ap) [] [] cp) (wiO X Γ e):=by
   cases tx with
   | Tuple elts kt pt=>exact yh C i1 i2 (aR e C yx i3)
   | _=>cases h0
  refine ko (elt:=elt) (tg:=tg) (ifs:=ifs) (nt:=nt) (caps:=caps) (use:=none) (Fin:=JH X fun D H'=>Q (.ref D) H') (wi:=wiO X Γ e) C.mono C.calm S rfl k1 k2 k3 h2 h3 hPI (fun s2 H2 fp A=>kJ tg (hC s2 H2 fp A) _ h6) (fun s2 H2 fp A=>q5 ifs (hC s2 H2 fp A) _ h7) (fun s2 H2 fp A=>aR elt (hC s2 H2 fp A) _ h8) I (Cj C rf rh w fun n st2 m' H' D e1 r1 eD q=>q m' H' (.ref D) e1 r1 (R_ref.mpr ⟨D,eD,rfl⟩)) ?_;rintro C' D H' s' m' I' ns fp (⟨a,o,ys,hF,hz,q⟩|q)
  ·exact⟨m',ns,fun h' hs'=>⟨.ref D,_,mE (I'.turned (t':=s'.toks) (fun b o hb e=>hs'.extBut b o hb e) fp.1 fp.2.1 fp.2.2.2.1 fp.2.2.2.2.1 fp.2.2.2.2.2) hF hz,rfl,q⟩⟩
  ·exact⟨m',ns,fun h' hs'=>⟨.ref D,_,I'.turned (t':=s'.toks) (fun b o hb e=>hs'.extBut b o hb e) fp.1 fp.2.1 fp.2.2.2.1 fp.2.2.2.2.1 fp.2.2.2.2.2,rfl,q⟩⟩
 | .un .rev a,X,c,C,x,h=>by replace h:=cA h;obtain⟨u,r,p4,rfl,h⟩:=h;replace h:=vk h;obtain⟨z,p5,rfl,h⟩:=h;replace h:=p8 h;obtain⟨z1,p6,rfl,h⟩:=h;replace h:=p9 h;obtain⟨i,k7,p7,rfl,h⟩:=h;simp only[Bool.and_eq_true,beq_iff_eq] at h;obtain⟨h4,h5⟩:=h;subst h4;exact Hk C (aR a C _ h5)
 | .un .ssT a,X,c,C,x,h=>by replace h:=aM h;obtain⟨g,xs,p,rfl,h⟩:=h;replace h:=au h;obtain⟨y,p2,rfl,h⟩:=h;replace h:=cD h;obtain⟨l,rfl,h⟩:=h;replace h:=aM h;obtain⟨g2,ys,p3,rfl,h⟩:=h;replace h:=au h;obtain⟨z,p4,rfl,h⟩:=h;replace h:=cD h;obtain⟨u,rfl,h⟩:=h;simp only[Bool.and_eq_true,beq_iff_eq] at h;obtain⟨⟨⟨⟨⟨⟨h1,h2⟩,h3⟩,h4⟩,h5⟩,h6⟩,h7⟩:=h;exact GO C h1 h2 h3 h4 h5 h6 (aR a C _ h7)
 | .un .isE a,X,c,C,x,h=>by replace h:=dY h;obtain⟨l,o,r,p,rfl,h⟩:=h;replace h:=i4 h;obtain⟨xs,p2,rfl,h⟩:=h;simp only[Bool.and_eq_true,beq_iff_eq,List.isEmpty_iff] at h;obtain⟨⟨h1,h2⟩,h3⟩:=h;subst h1 h2;rintro pins s σ H Q I ⟨m,ρ,st,rf,rh,w⟩;exact rO (Cm C.room.units) (aR a C _ h3) (u9 eI) rfl pins s σ H Q I ⟨m,ρ,st,rf,rh,ae C.mono a (fun v st1 k m1 H1 x1 e1 r1 r2=>sP r1 r2 k fun p hp q=>q m1 _ _ (e1.trans (Ext.newT r1 hp)) (r1.newT hp) (R_bl.mpr rfl)) w⟩
 | .compD _ _ _ _ _ _ _ _,X,c,C,x,h=>by rintro pins s σ H Q I ⟨m,ρ,st,rf,rh,w⟩;exact False.elim w
 | .dct2 _ _,X,c,C,x,h=>by rintro pins s σ H Q I ⟨m,ρ,st,rf,rh,w⟩;exact False.elim w
 | .dcl _,X,c,C,x,h=>by rintro pins s σ H Q I ⟨m,ρ,st,rf,rh,w⟩;exact False.elim w
 | .eqd ne a b,X,c,C,x,h=>by
  replace h:=dY h;obtain⟨l,o,r,p,rfl,h⟩:=h;simp only[Bool.and_eq_true,beq_iff_eq,Bool.not_eq_true',beq_eq_false_iff_ne] at h;obtain⟨⟨⟨h1,n1⟩,h2⟩,h3⟩:=h;subst h1;rintro pins s σ H Q I ⟨m,ρ,st,rf,rh,w⟩;exact rO (Ck (by have:=C.room.un;omega) ne) (aR a C _ h2) (aR b C _ h3) n1 pins s σ H Q I ⟨m,ρ,st,rf,rh,ae C.mono a (fun v st1 k m1 H1 x1 e1 r1 r2=>⟨m1,ρ,st1,rf.mono e1,r1,
   ae C.mono b (fun u st2 k2 m2 H2 y2 e2 r3 r4=>⟨m2,st2,v,u,r3,r2.mono e2,r4,k2.imp (fun k2=>⟨k2.1,k2.2.ext (e1.trans e2)⟩) fun k2=>⟨k2.1,k2.2.ext (e1.trans e2)⟩⟩) k⟩) w⟩
 | .tmp a,X,c,C,x,h=>by
  have h:ay c a x=true:=h;rintro pins s σ H Q I ⟨m,ρ,st,rf,rh,w⟩
  skip
  refine aR a C x h pins s σ H Q I ⟨m,ρ,st,rf,rh,ae C.mono a (fun v st1 k m1 H1 x1 e1 r1 r2=>?_) w⟩;obtain⟨st2,q,e2,r3,r4⟩:=qH rh e1 r1 r2 k;exact q m H1 x1 e2 r3 r4
 | .dget _ _,X,c,C,x,h=>by rintro pins s σ H Q I ⟨m,ρ,st,rf,rh,w⟩;exact False.elim w
 | .dcp a,X,c,C,x,h=>by replace h:=aM h;obtain⟨g,xs,p,rfl,h⟩:=h;replace h:=au h;obtain⟨y,p2,rfl,h⟩:=h;replace h:=cD h;obtain⟨u,rfl,h⟩:=h;simp only[Bool.and_eq_true,beq_iff_eq] at h;obtain⟨⟨⟨h1,h2⟩,h3⟩,h4⟩:=h;exact F7 C h1 h2 h3 (aR a C _ h4)
 | .clr _,X,c,C,x,h=>by rintro pins s σ H Q I ⟨m,ρ,st,rf,rh,w⟩;exact False.elim w
 | .sset _,X,c,C,x,h=>by rintro pins s σ H Q I ⟨m,ρ,st,rf,rh,w⟩;exact False.elim w
 | .jrev _,X,c,C,x,h=>by rintro pins s σ H Q I ⟨m,ρ,st,rf,rh,w⟩;exact False.elim w
 | .pcall _ _,X,c,C,x,h=>by rintro pins s σ H Q I ⟨m,ρ,st,rf,rh,w⟩;exact False.elim w
 | .hm _ _ _,X,c,C,x,h=>by rintro pins s σ H Q I ⟨m,ρ,st,rf,rh,w⟩;exact False.elim w
 | .smx k a b,X,c,C,x,h=>by replace h:=aM h;obtain⟨g,xs,p,rfl,h⟩:=h;replace h:=gm h;obtain⟨u,n,p2,rfl,h⟩:=h;replace h:=cD h;obtain⟨l,rfl,h⟩:=h;rw[KM,KM,KM,KM,KM] at h;obtain⟨⟨⟨⟨⟨h1,h2⟩,h3⟩,h4⟩,h5⟩,h6⟩:=h;obtain rfl:=beq_iff_eq.mp h1;exact Gm C h2 h3 h4 (aR a C _ h5) (aR b C _ h6)
 | .part _ _,X,c,C,x,h=>by rintro pins s σ H Q I ⟨m,ρ,st,rf,rh,w⟩;exact False.elim w
theorem lj:∀(es:Es) {X:Cx}{c:Cfg} (C:COk X c Γ) (xs:List Expr),eW c es xs=true->PA X xs (TAx X.K (cC Γ es))
 | .nil,X,c,C,xs,h=>by
  have h:xs.isEmpty=true:=h;cases xs with
  | nil =>
   rintro pos pins s σ H Q I ⟨m,ρ,st,rf,rh,w⟩
   skip
   exact eI pos pins s σ H Q I (w m H [] (Ext.refl _ _ _) rh (Rs_nil.mpr rfl))
  | cons x xs=>cases h
 | .cons e es,X,c,C,xs,h=>by
  replace h:=aS h;obtain⟨y,ys,rfl,h⟩:=h
  ·simp only[Bool.and_eq_true] at h;obtain⟨⟨h1,h2⟩,h3⟩:=h;rintro pos pins s σ H Q I ⟨m,ρ,st,rf,rh,w⟩
   skip
   exact pac (aR e C _ h2) (lj es C _ h3) h1 pos pins s σ H Q I ⟨m,ρ,st,rf,rh,ae C.mono e (fun v st1 k m1 H1 x1 e1 r1 r2=>⟨m1,ρ,st1,rf.mono e1,r1,
    aN C.mono es (fun us st2 k2 m2 H2 ys e2 r3 r4=>k2 m2 H2 _ (e1.trans e2) r3 (Rs_cons'.mpr ⟨r2.mono e2,r4⟩)) k⟩) w⟩
theorem Io:∀(o:O) {X:Cx}{c:Cfg} (C:COk X c Γ) (x:Option Expr),GV c o x=true->PO X x (fun σ H Q=>∃m ρ st,RF X.K m H ρ σ/\RH X.K m H st/\wpO Γ o ρ st fun v st'=>∀m' H',Ext X.K m H m' H'->RH X.K m' H' st'->Q v H')
 | .no,X,c,C,x,h=>by
  have h:x.isNone=true:=h;cases x with
  | none =>
   rintro pins s σ H Q I ⟨m,ρ,st,rf,rh,w⟩
   skip
   exact C2 pins s σ H Q I (w m H (Ext.refl _ _ _) rh)
  | some y=>cases h
 | .yes e,X,c,C,x,h=>by
  replace h:=i9 h;obtain⟨y,rfl,h⟩:=h
  ·rintro pins s σ H Q I ⟨m,ρ,st,rf,rh,w⟩
   skip
   refine DZ (aR e C _ h) pins s σ H Q I ⟨m,ρ,st,rf,rh,ae C.mono e (fun v st1 k m1 H1 x1 e1 r1 r2=>?_) w⟩;obtain⟨i,rfl,k⟩:=k;rw[R_int] at r2;exact⟨i,r2,k m1 H1 e1 r1⟩
theorem oj:∀(e:E) {X:Cx}{c:Cfg} (C:COk X c Γ) (x:Expr),xF c e x=true->PT X x (TTx X.K (wpT Γ e))
 | .not a,X,c,C,x,h=>by
  replace h:=pX h;obtain⟨y,p,rfl,h⟩:=h
  ·rintro pins s σ H Q I ⟨m,ρ,st,rf,rh,w⟩
   skip
   exact F4 (oj a C _ h) pins s σ H Q I ⟨m,ρ,st,rf,rh,aY C.mono a (fun k st1 z m1 H1 e1 r1=>z m1 H1 e1 r1) w⟩
 | .bop true es,X,c,C,x,h=>by
  replace h:=ip h;obtain⟨o,xs,p,rfl,h⟩:=h
  ·simp only[Bool.and_eq_true,beq_iff_eq,Bool.not_eq_true'] at h;obtain⟨⟨h1,h2⟩,h3⟩:=h;subst h1;rintro pins s σ H Q I ⟨m,ρ,st,rf,rh,w⟩
   skip
   exact(FS es C _ _ h3 h2).pt pins s σ H Q I ⟨m,ρ,st,rf,rh,w⟩
 | .bop false es,X,c,C,x,h=>by
  replace h:=ip h;obtain⟨o,xs,p,rfl,h⟩:=h
  ·simp only[Bool.and_eq_true,beq_iff_eq,Bool.not_eq_true'] at h;obtain⟨⟨h1,h2⟩,h3⟩:=h;subst h1;rintro pins s σ H Q I ⟨m,ρ,st,rf,rh,w⟩
   skip
   exact(Eb es C _ _ h3 h2).pt pins s σ H Q I ⟨m,ρ,st,rf,rh,w⟩
 | .cmp op a b,X,c,C,x,h=>by
  replace h:=dY h;obtain⟨l,o,r,p,rfl,h⟩:=h
  ·simp only[Bool.and_eq_true,beq_iff_eq,Bool.not_eq_true',beq_eq_false_iff_ne] at h;obtain⟨⟨⟨h1,n1⟩,h2⟩,h3⟩:=h;subst h1;rintro pins s σ H Q I ⟨m,ρ,st,rf,rh,w⟩
   skip
   refine qj (Bf C.room.units _) (aR a C _ h2) (aR b C _ h3) n1 pins s σ H Q I ⟨m,ρ,st,rf,rh,ae C.mono a (fun v st1 k m1 H1 x1 e1 r1 r2=>⟨m1,ρ,st1,rf.mono e1,r1,
    ae C.mono b (fun u st2 k2 m2 H2 y2 e2 r3 r4=>⟨m2,st2,v,u,r3,r2.mono e2,r4,gX (fun _ _ q=>?_) k2⟩) k⟩) w⟩
   obtain⟨k,rfl,q⟩:=q;intro m' H' y e3 r5 r6;rw[R_bl] at r6;exact⟨k,r6,q m' H' ((e1.trans e2).trans e3) r5⟩
 | .var i,X,c,C,x,h=>by
  replace h:=au h;obtain⟨y,p,rfl,h⟩:=h
  ·rintro pins s σ H Q I ⟨m,ρ,st,rf,rh,w⟩
   skip
   refine fB (AG C h) (fun _=>rfl) pins s σ H Q I ⟨m,ρ,st,rf,rh,?_⟩;obtain⟨v,e,w⟩:=js w;exact rA e fun m' H' y e1 r1 r2=>sO ⟨m',st,v,r1,r2,bL (fun _ _ q=>q.ext e1) w⟩
 | .call f es,X,c,C,x,h=>by
  replace h:=aM h;obtain⟨g,xs,p,rfl,h⟩:=h;replace h:=au h;obtain⟨y,p2,rfl,h⟩:=h
  ·simp only[Bool.and_eq_true] at h;obtain⟨⟨h1,h2⟩,h3⟩:=h;rintro pins s σ H Q I ⟨m,ρ,st,rf,rh,w⟩
   skip
   exact fB (ur C h1 h2 h3 (lj es C _ h3)) (fun _=>rfl) pins s σ H Q I ⟨m,ρ,st,rf,rh,aN C.mono es (fun vs st1 k=>C.mono _ _ _ _ _ (fun v st2 k2 m' H' y e1 r1 r2=>sO ⟨m',st2,v,r1,r2,bL (fun _ _ q=>q.ext e1) k2⟩) k) w⟩
 | .blt b es,X,c,C,x,h=>by
  replace h:=aM h;obtain⟨g,xs,p,rfl,h⟩:=h;replace h:=au h;obtain⟨y,p2,rfl,h⟩:=h
  ·simp only[Bool.and_eq_true,beq_iff_eq,Bool.not_eq_true'] at h;obtain⟨⟨⟨⟨h1,h2⟩,h3⟩,h4⟩,h5⟩:=h;rintro pins s σ H Q I ⟨m,ρ,st,rf,rh,w⟩
   skip
   exact fB (tj C h1 h2 h3 h4 (lj es C _ h5)) (fun _=>rfl) pins s σ H Q I ⟨m,ρ,st,rf,rh,aN C.mono es (fun vs st1 k=>hV (fun v st2 k2 m' H' y e1 r1 r2=>sO ⟨m',st2,v,r1,r2,bL (fun _ _ q=>q.ext e1) k2⟩) k) w⟩
 | .inst a t,X,c,C,x,h=>by
  replace h:=aM h;obtain⟨g,xs,p,rfl,h⟩:=h;replace h:=au h;obtain⟨y,p2,rfl,h⟩:=h;replace h:=h_ h;obtain⟨l,r,rfl,h⟩:=h;replace h:=au h;obtain⟨z,p3,rfl,h⟩:=h
  ·rw[KM] at h;rintro pins s σ H Q I ⟨m,ρ,st,rf,rh,w⟩
   skip
   refine fB (wK C h.1 (aR a C _ h.2)) (fun _=>rfl) pins s σ H Q I ⟨m,ρ,st,rf,rh,?_⟩
   skip
   refine ae C.mono a (fun v st1 k=>?_) w;obtain⟨n,e,k⟩:=k;refine⟨n,e,fun m' H' y e1 r1 r2=>?_⟩;rw[R_bl] at r2;subst r2;exact⟨_,rfl,k m' H' e1 r1⟩
 | .tmp a,X,c,C,x,h=>by
  have h:(vZ x && ay c a x)=true:=h;rw[KM] at h;rintro pins s σ H Q I ⟨m,ρ,st,rf,rh,w⟩
  skip
  have q:=aR a C x h.2;refine fB q (u6 h.1 X.env) pins s σ H Q I ⟨m,ρ,st,rf,rh,ae C.mono a (fun v st1 k m1 H1 x1 e1 r1 r2=>?_) w⟩;obtain⟨st2,q,e2,r3,r4⟩:=qH rh e1 r1 r2 k;exact sO ⟨m,st2,v,r3,r4,bL (fun _ _ q=>q.ext e2) q⟩
 | .ix a b,X,c,C,x,h=>by
  replace h:=cA h;obtain⟨l,r,p,rfl,h⟩:=h
  ·simp only[Bool.and_eq_true] at h;obtain⟨⟨h1,h2⟩,h3⟩:=h;rintro pins s σ H Q I ⟨m,ρ,st,rf,rh,w⟩
   skip
   refine fB (z_ (Fe C.room.units) (aR a C _ h2) (aR b C _ h3) h1) (fun _=>rfl) pins s σ H Q I ⟨m,ρ,st,rf,rh,ae C.mono a (fun v st1 k m1 H1 x1 e1 r1 r2=>⟨m1,ρ,st1,rf.mono e1,r1,
    ae C.mono b (fun u st2 k2 m2 H2 y2 e2 r3 r4=>⟨m2,st2,v,u,r3,r2.mono e2,r4,jU (fun z st3 q m3 H3 y3 e3 r5 r6=>?_) k2⟩) k⟩) w⟩
   exact sO ⟨m3,st3,z,r5,r6,bL (fun _ _ q=>q.ext ((e1.trans e2).trans e3)) q⟩
 | .bl _,X,c,C,x,h=>by rintro pins s σ H Q I ⟨m,ρ,st,rf,rh,w⟩;exact False.elim w
 | .int _,X,c,C,x,h=>by rintro pins s σ H Q I ⟨m,ρ,st,rf,rh,w⟩;exact False.elim w
 | .non,X,c,C,x,h=>by rintro pins s σ H Q I ⟨m,ρ,st,rf,rh,w⟩;exact False.elim w
 | .str _,X,c,C,x,h=>by rintro pins s σ H Q I ⟨m,ρ,st,rf,rh,w⟩;exact False.elim w
 | .gv _ _,X,c,C,x,h=>by rintro pins s σ H Q I ⟨m,ρ,st,rf,rh,w⟩;exact False.elim w
 | .tup _,X,c,C,x,h=>by rintro pins s σ H Q I ⟨m,ρ,st,rf,rh,w⟩;exact False.elim w
 | .lst _,X,c,C,x,h=>by rintro pins s σ H Q I ⟨m,ρ,st,rf,rh,w⟩;exact False.elim w
 | .dct0,X,c,C,x,h=>by rintro pins s σ H Q I ⟨m,ρ,st,rf,rh,w⟩;exact False.elim w
 | .bad,X,c,C,x,h=>by rintro pins s σ H Q I ⟨m,ρ,st,rf,rh,w⟩;exact False.elim w
 | .dct1 _ _,X,c,C,x,h=>by rintro pins s σ H Q I ⟨m,ρ,st,rf,rh,w⟩;exact False.elim w
 | .bin _ _ _,X,c,C,x,h=>by rintro pins s σ H Q I ⟨m,ρ,st,rf,rh,w⟩;exact False.elim w
 | .neg _,X,c,C,x,h=>by rintro pins s σ H Q I ⟨m,ρ,st,rf,rh,w⟩;exact False.elim w
 | .ite _ _ _,X,c,C,x,h=>by rintro pins s σ H Q I ⟨m,ρ,st,rf,rh,w⟩;exact False.elim w
 | .sl _ _ _,X,c,C,x,h=>by rintro pins s σ H Q I ⟨m,ρ,st,rf,rh,w⟩;exact False.elim w
 | .met _ _ _,X,c,C,x,h=>by rintro pins s σ H Q I ⟨m,ρ,st,rf,rh,w⟩;exact False.elim w
 | .eqd ne a b,X,c,C,x,h=>by
  replace h:=dY h;obtain⟨l,o,r,p,rfl,h⟩:=h;simp only[Bool.and_eq_true,beq_iff_eq,Bool.not_eq_true',beq_eq_false_iff_ne] at h;obtain⟨⟨⟨h1,n1⟩,h2⟩,h3⟩:=h;subst h1;rintro pins s σ H Q I ⟨m,ρ,st,rf,rh,w⟩;refine qj (Ck (by have:=C.room.un;omega) ne) (aR a C _ h2) (aR b C _ h3) n1 pins s σ H Q I ⟨m,ρ,st,rf,rh,ae C.mono a (fun v st1 k m1 H1 x1 e1 r1 r2=>⟨m1,ρ,st1,rf.mono e1,r1,
   ae C.mono b (fun u st2 k2 m2 H2 y2 e2 r3 r4=>⟨m2,st2,v,u,r3,r2.mono e2,r4,k2.imp (fun k2=>⟨k2.1,fun m' H' y e3 r5 r6=>?_⟩) fun k2=>⟨k2.1,fun m' H' y e3 r5 r6=>?_⟩⟩) k⟩) w⟩
  ·rw[R_bl] at r6;exact⟨!ne,r6,k2.2 m' H' ((e1.trans e2).trans e3) r5⟩
  ·rw[R_bl] at r6;exact⟨ne,r6,k2.2 m' H' ((e1.trans e2).trans e3) r5⟩
 | .un .isE a,X,c,C,x,h=>by replace h:=dY h;obtain⟨l,o,r,p,rfl,h⟩:=h;replace h:=i4 h;obtain⟨xs,p2,rfl,h⟩:=h;simp only[Bool.and_eq_true,beq_iff_eq,List.isEmpty_iff] at h;obtain⟨⟨h1,h2⟩,h3⟩:=h;subst h1 h2;rintro pins s σ H Q I ⟨m,ρ,st,rf,rh,w⟩;exact qj (Cm C.room.units) (aR a C _ h3) (u9 eI) rfl pins s σ H Q I ⟨m,ρ,st,rf,rh,ae C.mono a (fun v st1 k m1 H1 x1 e1 r1 r2=>sP (P:=fun x H'=>∃k,x=.bl k/\Q k H') r1 r2 k fun p hp q=>let ⟨c,ec,q⟩:=q;⟨c,by cases ec;rfl,q m1 _ (e1.trans (Ext.newT r1 hp)) (r1.newT hp)⟩) w⟩
 | .un .rev _,X,c,C,x,h=>by cases (show false=true from h)
 | .un .ssT _,X,c,C,x,h=>by cases (show false=true from h)
 | .compO _ _ _ _ _ _,X,c,C,x,h=>by rintro pins s σ H Q I ⟨m,ρ,st,rf,rh,w⟩;exact False.elim w
 | .compK _ _ _ _ _ _ _,X,c,C,x,h=>by rintro pins s σ H Q I ⟨m,ρ,st,rf,rh,w⟩;exact False.elim w
 | .compD _ _ _ _ _ _ _ _,X,c,C,x,h=>by rintro pins s σ H Q I ⟨m,ρ,st,rf,rh,w⟩;exact False.elim w
 | .dct2 _ _,X,c,C,x,h=>by rintro pins s σ H Q I ⟨m,ρ,st,rf,rh,w⟩;exact False.elim w
 | .dcl _,X,c,C,x,h=>by rintro pins s σ H Q I ⟨m,ρ,st,rf,rh,w⟩;exact False.elim w
 | .comp _ _ _ _ _ _,X,c,C,x,h=>by rintro pins s σ H Q I ⟨m,ρ,st,rf,rh,w⟩;exact False.elim w
 | .pcall _ _,X,c,C,x,h=>by rintro pins s σ H Q I ⟨m,ρ,st,rf,rh,w⟩;exact False.elim w
 | .hm _ _ _,X,c,C,x,h=>by rintro pins s σ H Q I ⟨m,ρ,st,rf,rh,w⟩;exact False.elim w
 | .jrev _,X,c,C,x,h=>by rintro pins s σ H Q I ⟨m,ρ,st,rf,rh,w⟩;exact False.elim w
 | .dget _ _,X,c,C,x,h=>by rintro pins s σ H Q I ⟨m,ρ,st,rf,rh,w⟩;exact False.elim w
 | .dcp _,X,c,C,x,h=>by rintro pins s σ H Q I ⟨m,ρ,st,rf,rh,w⟩;exact False.elim w
 | .clr _,X,c,C,x,h=>by rintro pins s σ H Q I ⟨m,ρ,st,rf,rh,w⟩;exact False.elim w
 | .sset _,X,c,C,x,h=>by rintro pins s σ H Q I ⟨m,ρ,st,rf,rh,w⟩;exact False.elim w
 | .smx _ _ _,X,c,C,x,h=>by rintro pins s σ H Q I ⟨m,ρ,st,rf,rh,w⟩;exact False.elim w
 | .part _ _,X,c,C,x,h=>by rintro pins s σ H Q I ⟨m,ρ,st,rf,rh,w⟩;exact False.elim w
theorem Fn:∀(es:Es) {X:Cx}{c:Cfg} (C:COk X c Γ) (xs:List Expr) (pos:Pos),eW c es xs=true->xs.isEmpty=false->PE X (.BoolOp .And xs pos) (TEx X.K (qg Γ es))
 | .nil,X,c,C,xs,pos,h,hn=>by have h:xs.isEmpty=true:=h;rw[h] at hn;cases hn
 | .cons e .nil,X,c,C,xs,pos,h,hn=>by
  replace h:=aS h;obtain⟨y,ys,rfl,h⟩:=h
  ·simp only[Bool.and_eq_true] at h;obtain⟨⟨h1,h2⟩,h3⟩:=h;have h3:ys.isEmpty=true:=h3;cases ys with
   | nil =>
    rintro pins s σ H Q I ⟨m,ρ,st,rf,rh,w⟩
    skip
    exact Cv (aR e C _ h2) pins s σ H Q I ⟨m,ρ,st,rf,rh,w⟩
   | cons _ _=>cases h3
 | .cons e (.cons e2 es),X,c,C,xs,pos,h,hn=>by
  replace h:=aS h;obtain⟨y,ys,rfl,h⟩:=h
  ·simp only[Bool.and_eq_true] at h;obtain⟨⟨h1,h2⟩,h3⟩:=h;cases ys with
   | nil=>exact Bool.noConfusion (show false=true from h3)
   | cons y2 ys =>
    rintro pins s σ H Q I ⟨m,ρ,st,rf,rh,w⟩
    skip
    refine GM (aR e C _ h2) (Fn (.cons e2 es) C (y2::ys) pos h3 rfl) pins s σ H Q I ⟨m,ρ,st,rf,rh,ae C.mono e (fun v st1 k m1 H1 x1 e1 r1 r2=>?_) w⟩;obtain⟨b,rfl,k⟩:=k;rw[R_bl] at r2;subst r2;refine⟨b,rfl,?_⟩;cases b with
    | true=>rw[K1 rfl] at k |-;exact⟨m1,ρ,st1,rf.mono e1,r1,ki C.mono _ (fun _ _ q=>q.ext e1) k⟩
    | false=>rw[KW KI] at k |-;exact(k.ext e1).here r1 (R_bl.mpr rfl)
theorem EZ:∀(es:Es) {X:Cx}{c:Cfg} (C:COk X c Γ) (xs:List Expr) (pos:Pos),eW c es xs=true->xs.isEmpty=false->PE X (.BoolOp .Or xs pos) (TEx X.K (qU Γ es))
 | .nil,X,c,C,xs,pos,h,hn=>by have h:xs.isEmpty=true:=h;rw[h] at hn;cases hn
 | .cons e .nil,X,c,C,xs,pos,h,hn=>by
  replace h:=aS h;obtain⟨y,ys,rfl,h⟩:=h
  ·simp only[Bool.and_eq_true] at h;obtain⟨⟨h1,h2⟩,h3⟩:=h;have h3:ys.isEmpty=true:=h3;cases ys with
   | nil =>
    rintro pins s σ H Q I ⟨m,ρ,st,rf,rh,w⟩
    skip
    exact Cv (aR e C _ h2) pins s σ H Q I ⟨m,ρ,st,rf,rh,w⟩
   | cons _ _=>cases h3
 | .cons e (.cons e2 es),X,c,C,xs,pos,h,hn=>by
  replace h:=aS h;obtain⟨y,ys,rfl,h⟩:=h
  ·simp only[Bool.and_eq_true] at h;obtain⟨⟨h1,h2⟩,h3⟩:=h;cases ys with
   | nil=>exact Bool.noConfusion (show false=true from h3)
   | cons y2 ys =>
    rintro pins s σ H Q I ⟨m,ρ,st,rf,rh,w⟩
    skip
    refine H_ (aR e C _ h2) (EZ (.cons e2 es) C (y2::ys) pos h3 rfl) pins s σ H Q I ⟨m,ρ,st,rf,rh,ae C.mono e (fun v st1 k m1 H1 x1 e1 r1 r2=>?_) w⟩;obtain⟨b,rfl,k⟩:=k;rw[R_bl] at r2;subst r2;refine⟨b,rfl,?_⟩;cases b with
    | true=>rw[K1 rfl] at k |-;exact(k.ext e1).here r1 (R_bl.mpr rfl)
    | false=>rw[KW KI] at k |-;exact⟨m1,ρ,st1,rf.mono e1,r1,kE C.mono _ (fun _ _ q=>q.ext e1) k⟩
theorem FS:∀(es:Es) {X:Cx}{c:Cfg} (C:COk X c Γ) (xs:List Expr) (pos:Pos),jP c es xs=true->xs.isEmpty=false->PW X (.BoolOp .And xs pos) (TTx X.K (gh Γ es))
 | .nil,X,c,C,xs,pos,h,hn=>by have h:xs.isEmpty=true:=h;rw[h] at hn;cases hn
 | .cons e .nil,X,c,C,xs,pos,h,hn=>by
  replace h:=aS h;obtain⟨y,ys,rfl,h⟩:=h
  ·simp only[Bool.and_eq_true] at h;obtain⟨h2,h3⟩:=h;have h3:ys.isEmpty=true:=h3;cases ys with
   | nil =>
    rintro whole pins s σ H Q I ⟨m,ρ,st,rf,rh,w⟩
    skip
    exact D3 (oj e C _ h2) whole pins s σ H Q I ⟨m,ρ,st,rf,rh,w⟩
   | cons _ _=>cases h3
 | .cons e (.cons e2 es),X,c,C,xs,pos,h,hn=>by
  replace h:=aS h;obtain⟨y,ys,rfl,h⟩:=h
  ·simp only[Bool.and_eq_true] at h;obtain⟨h2,h3⟩:=h;cases ys with
   | nil=>exact Bool.noConfusion (show false=true from h3)
   | cons y2 ys =>
    rintro whole pins s σ H Q I ⟨m,ρ,st,rf,rh,w⟩
    skip
    refine F1 (oj e C _ h2) (FS (.cons e2 es) C (y2::ys) pos h3 rfl) whole pins s σ H Q I ⟨m,ρ,st,rf,rh,aY C.mono e (fun b st1 k m1 H1 e1 r1=>?_) w⟩;cases b with
    | true=>rw[K1 rfl] at k |-;exact⟨m1,ρ,st1,rf.mono e1,r1,bC C.mono _ (fun _ _ q=>q.ext e1) k⟩
    | false=>rw[KW KI] at k |-;exact k m1 H1 e1 r1
theorem Eb:∀(es:Es) {X:Cx}{c:Cfg} (C:COk X c Γ) (xs:List Expr) (pos:Pos),jP c es xs=true->xs.isEmpty=false->PW X (.BoolOp .Or xs pos) (TTx X.K (qq Γ es))
 | .nil,X,c,C,xs,pos,h,hn=>by have h:xs.isEmpty=true:=h;rw[h] at hn;cases hn
 | .cons e .nil,X,c,C,xs,pos,h,hn=>by
  replace h:=aS h;obtain⟨y,ys,rfl,h⟩:=h
  ·simp only[Bool.and_eq_true] at h;obtain⟨h2,h3⟩:=h;have h3:ys.isEmpty=true:=h3;cases ys with
   | nil =>
    rintro whole pins s σ H Q I ⟨m,ρ,st,rf,rh,w⟩
    skip
    exact GI (oj e C _ h2) whole pins s σ H Q I ⟨m,ρ,st,rf,rh,w⟩
   | cons _ _=>cases h3
 | .cons e (.cons e2 es),X,c,C,xs,pos,h,hn=>by
  replace h:=aS h;obtain⟨y,ys,rfl,h⟩:=h
  ·simp only[Bool.and_eq_true] at h;obtain⟨h2,h3⟩:=h;cases ys with
   | nil=>exact Bool.noConfusion (show false=true from h3)
   | cons y2 ys =>
    rintro whole pins s σ H Q I ⟨m,ρ,st,rf,rh,w⟩
    skip
    refine Jf (oj e C _ h2) (Eb (.cons e2 es) C (y2::ys) pos h3 rfl) whole pins s σ H Q I ⟨m,ρ,st,rf,rh,aY C.mono e (fun b st1 k m1 H1 e1 r1=>?_) w⟩;cases b with
    | true=>rw[K1 rfl] at k |-;exact k m1 H1 e1 r1
    | false=>rw[KW KI] at k |-;exact⟨m1,ρ,st1,rf.mono e1,r1,j7 C.mono _ (fun _ _ q=>q.ext e1) k⟩
theorem kJ:∀(t:Tg) {X:Cx}{c:Cfg} (C:COk X c Γ) (x:Expr),gL c t x=true->PG X x (TGx X.K (b7 Γ t))
 | .name i,X,c,C,x,h=>by
  replace h:=au h;obtain⟨y,p,rfl,h⟩:=h
  ·simp only[Bool.and_eq_true,beq_iff_eq] at h;obtain⟨h1,h2⟩:=C.locx h.2;rintro pins s σ H v u Q I r ⟨m,ρ,st,p,rf,rh,hr,w⟩
   skip
   exact CP C.ndX (by rw[C.N];exact h.1) h1 h2 pins s σ H v u Q I r (w.here rh (rf.set i hr))
 | .tup ts,X,c,C,x,h=>by
  replace h:=bE h;obtain⟨xs,k,p,rfl,h⟩:=h
  ·rintro pins s σ H v u Q I r ⟨m,ρ,st,p,rf,rh,hr,w⟩
   skip
   obtain⟨vs,rfl,hl,w⟩:=w;rw[R_tup] at hr;obtain⟨a,ys,rfl,g,r2⟩:=hr;obtain⟨l1,l2⟩:=nH (env:=X.env) h;refine F6 C.calm (Cw ts C _ h) l1 l2 pins s σ H _ u Q I r ⟨a,ys,rfl,g,?_,m,ρ,st,vs,rf,rh,r2,w⟩;rw[<-r2.len];exact hl
 | .ltup ts,X,c,C,x,h=>by rintro pins s σ H v u Q I r ⟨m,ρ,st,p,rf,rh,hr,w⟩;exact False.elim w
 | .sub o i,X,c,C,x,h=>by
  replace h:=cA h;obtain⟨l,rr,pos,rfl,h⟩:=h
  ·simp only[Bool.and_eq_true] at h;obtain⟨⟨h1,h2⟩,h3⟩:=h;rintro pins s σ H v u Q I r ⟨m,ρ,st,p,rf,rh,hr,w⟩
   skip
   refine zw (aR o C _ h2) (aR i C _ h3) (zH C.room.units) (by cases rr <;> first|(intro _;rfl)|cases h1) pins s σ H v u Q I r ⟨m,ρ,st,rf,rh,ae C.mono o (fun a st1 k m1 H1 x1 e1 r1 r2=>⟨m1,ρ,st1,rf.mono e1,r1,
    ae C.mono i (fun b st2 k2 m2 H2 y2 e2 r3 r4=>⟨m2,st2,a,b,p,r3,r2.mono e2,r4,(hr.mono e1).mono e2,o9 (fun st3 q H3 e3 r5=>?_) k2⟩) k⟩) w⟩
   exact q m2 H3 σ ((e1.trans e2).trans e3) r5 (((rf.mono e1).mono e2).mono e3)
 | .subO o i,X,c,C,x,h=>by
  replace h:=cA h;obtain⟨l,rr,pos,rfl,h⟩:=h
  ·simp only[Bool.and_eq_true] at h;obtain⟨⟨h1,h2⟩,h3⟩:=h;rintro pins s σ H v u Q I r ⟨m,ρ,st,p,rf,rh,hr,w⟩
   skip
   refine zw (aR o C _ h2) (aR i C _ h3) (C_ C.room.units) (by cases rr <;> first|(intro _;rfl)|cases h1) pins s σ H v u Q I r ⟨m,ρ,st,rf,rh,ae C.mono o (fun a st1 k m1 H1 x1 e1 r1 r2=>⟨m1,ρ,st1,rf.mono e1,r1,
    ae C.mono i (fun b st2 k2 m2 H2 y2 e2 r3 r4=>?_) k⟩) w⟩
   obtain⟨n,rfl,k2⟩:=k2;refine⟨m2,st2,n,b,p,r3,r2.mono e2,r4,(hr.mono e1).mono e2,pS (fun st3 q H3 e3 r5=>?_) k2⟩;exact q m2 H3 σ ((e1.trans e2).trans e3) r5 (((rf.mono e1).mono e2).mono e3)
theorem Cw:∀(ts:Tgs) {X:Cx}{c:Cfg} (C:COk X c Γ) (xs:List Expr),mZ c ts xs=true->PGs X xs (Kd X.K (gE Γ ts))
 | .nil,X,c,C,xs,h=>by
  have h:xs.isEmpty=true:=h;cases xs with
  | nil =>
   rintro pins s σ H v u Q I r ⟨m,ρ,st,p,rf,rh,hr,w⟩
   skip
   obtain⟨rfl,w⟩:=w;rw[Rs_nil] at hr;exact CZ pins s σ H v u Q I r ⟨hr,w.here rh rf⟩
  | cons _ _=>cases h
 | .cons t ts,X,c,C,xs,h=>by
  replace h:=aS h;obtain⟨y,ys,rfl,h⟩:=h
  ·simp only[Bool.and_eq_true] at h;obtain⟨⟨h1,h2⟩,h3⟩:=h;rintro pins s σ H v u Q I r ⟨m,ρ,st,p,rf,rh,hr,w⟩
   skip
   obtain⟨x,q,rfl,w⟩:=w;rw[Rs_cons] at hr;obtain⟨y,ys,rfl,g1,g2⟩:=hr;refine zB (kJ t C _ h2) (Cw ts C _ h3) (by rw[iI h1];rfl) pins s σ H _ u Q I r ⟨y,ys,rfl,m,ρ,st,x,rf,rh,g1,aO C.mono t (fun ρ1 st1 k m1 H1 σ1 e1 r1 r2=>?_) w⟩;exact⟨m1,ρ1,st1,q,r2,r1,g2.mono e1,fV C.mono ts (fun _ _ q=>q.ext e1) k⟩
theorem B3:∀(it:It) {X:Cx}{c:Cfg} (C:COk X c Γ) {tg:Expr} (x:Expr),Bz it tg=true->B5 c it x=true->PI X tg x (TIx X.K (jM Γ it))
 | .seq e,X,c,C,tg,x,_,h=>by
  have h:(gy x && ay c e x)=true:=h;rw[KM] at h;rintro pins s σ H Rr I ⟨m,ρ,st,rf,rh,w⟩
  skip
  refine F3 (aR e C x h.2) pins s σ H Rr I ⟨m,ρ,st,rf,rh,ae C.mono e (fun v st1 k m1 H1 x1 e1 r1 r2=>?_) w⟩;obtain⟨xs,es,k⟩:=k;cases v with
  | tup ys =>cases es;rw[R_tup] at r2;obtain⟨a,zs,rfl,g,r3⟩:=r2;exact⟨a,rfl,.inr ⟨⟨zs,g⟩,k m1 H1 _ e1 r1 (B' g r3)⟩⟩
  | rdl ys =>cases es;rw[R_rdl] at r2;obtain⟨a,zs,rfl,g,r3⟩:=r2;exact⟨a,rfl,.inl ⟨⟨zs,g.sq⟩,k m1 H1 _ e1 r1 (Aa g r3)⟩⟩
  | ref n =>
   unfold bb aT at es;simp only at es;split at es
   ·cases es;rename_i q;obtain⟨a,zs,rfl,ea,g,r3⟩:=r1.lst q r2;exact⟨a,rfl,.inl ⟨⟨zs,SqL.of g⟩,k m1 H1 _ e1 r1 (yP r1 q ea)⟩⟩
   ·cases es
  | _=>cases es
 | .range1 a,X,c,C,tg,x,_,h=>by
  replace h:=aM h;obtain⟨g,xs,p,rfl,h⟩:=h;replace h:=au h;obtain⟨y,p2,rfl,h⟩:=h;replace h:=cD h;obtain⟨l,rfl,h⟩:=h
  ·simp only[Bool.and_eq_true,beq_iff_eq] at h;obtain⟨⟨⟨h1,h2⟩,h3⟩,h4⟩:=h;subst h1;obtain⟨g1,g2,g3,g4⟩:=C.bltx h2;rintro pins s σ H Rr I ⟨m,ρ,st,rf,rh,w⟩
   skip
   have hA:PA X [_] (lg (TEx X.K (wpE Γ a)) tU):=pac (aR a C _ h4) eI h3;refine yq g1 g4 hA (bO h3) pins s σ H Rr I ⟨m,ρ,st,rf,rh,ae C.mono a (fun v st1 k m1 H1 x1 e1 r1 r2=>?_) w⟩;obtain⟨j,rfl,k1,k2,k⟩:=k;rw[R_int] at r2;subst r2;exact⟨j,rfl,k1,k2,k m1 H1 _ e1 r1 vt⟩
 | .range2 _ _,X,c,C,tg,x,_,h=>by rintro pins s σ H Rr I ⟨m,ρ,st,rf,rh,w⟩;exact False.elim w
 | .zip a b,X,c,C,tg,x,ht,h=>by
  replace h:=aM h;obtain⟨g,xs,p,rfl,h⟩:=h;replace h:=au h;obtain⟨y,p2,rfl,h⟩:=h;replace h:=h_ h;obtain⟨l,r,rfl,h⟩:=h
  ·simp only[Bool.and_eq_true,beq_iff_eq] at h;obtain⟨⟨⟨⟨⟨h1,h2⟩,h3⟩,h3'⟩,h4⟩,h5⟩:=h;subst h1;obtain⟨g1,g2,g3,g4⟩:=C.bltx h2;cases tg with
   | Tuple elts kt pt =>
    rintro pins s σ H Rr I ⟨m,ρ,st,rf,rh,w⟩
    skip
    have hA:PA X [_,_] (lg (TEx X.K (wpE Γ a)) (lg (TEx X.K (wpE Γ b)) tU)):=pac (aR a C _ h4) (pac (aR b C _ h5) eI h3') h3;refine F0 g1 g4 hA (by rw[bO h3,bO h3'];rfl) (bO h3') pins s σ H Rr I ⟨m,ρ,st,rf,rh,ae C.mono a (fun v st1 k m1 H1 x1 e1 r1 r2=>⟨m1,ρ,st1,rf.mono e1,r1,
     ae C.mono b (fun u st2 k2 m2 H2 y2 e2 r3 r4=>?_) k⟩) w⟩
    obtain⟨xs,ys,q1,q2,k⟩:=k2;obtain⟨a1,rfl,w1,s1⟩:=EJ r3 (r2.mono e2) q1;obtain⟨a2,rfl,w2,s2⟩:=EJ r3 r4 q2;refine⟨a1,a2,rfl,fun e he=>?_,k m2 H2 _ (e1.trans e2) r3 (AJ w1 w2)⟩;simp only[List.mem_cons,List.not_mem_nil,or_false] at he;rcases he with rfl|rfl
    ·exact s1
    ·exact s2
   | _=>cases ht
 | .zip3 _ _ _,X,c,C,tg,x,ht,h=>by rintro pins s σ H Rr I ⟨m,ρ,st,rf,rh,w⟩;exact False.elim w
 | .enum _,X,c,C,tg,x,ht,h=>by rintro pins s σ H Rr I ⟨m,ρ,st,rf,rh,w⟩;exact False.elim w
 | .chars e,X,c,C,tg,x,_,h=>by have h:(gy x && ay c e x)=true:=h;rw[KM] at h;rintro pins s σ H Rr I ⟨m,ρ,st,rf,rh,w⟩;refine zJ (aR e C x h.2) pins s σ H Rr I ⟨m,ρ,st,rf,rh,ae C.mono e (fun v st1 k m1 H1 x1 e1 r1 r2=>?_) w⟩;obtain⟨z,rfl,k⟩:=k;rw[R_str] at r2;exact⟨z,r2,k m1 H1 _ e1 r1 u0⟩
 | .range3 _ _ _,X,c,C,tg,x,_,h=>by rintro pins s σ H Rr I ⟨m,ρ,st,rf,rh,w⟩;exact False.elim w
theorem q5:∀(es:Es) {X:Cx}{c:Cfg} (C:COk X c Γ) (xs:List Expr),jP c es xs=true->PTs X xs (TTx X.K (gh Γ es))
 | .nil,X,c,C,xs,h=>by
  have h:xs.isEmpty=true:=h;cases xs with
  | nil =>
   rintro pins s σ H Q I ⟨m,ρ,st,rf,rh,w⟩
   skip
   exact xf pins s σ H Q I (w m H (Ext.refl _ _ _) rh)
  | cons _ _=>cases h
 | .cons e .nil,X,c,C,xs,h=>by
  replace h:=aS h;obtain⟨y,ys,rfl,h⟩:=h
  ·simp only[Bool.and_eq_true] at h;obtain⟨h2,h3⟩:=h;have h3:ys.isEmpty=true:=h3;cases ys with
   | nil =>
    rintro pins s σ H Q I ⟨m,ρ,st,rf,rh,w⟩
    skip
    refine sF (oj e C _ h2) xf pins s σ H Q I ⟨m,ρ,st,rf,rh,aY C.mono e (fun b st1 k m1 H1 e1 r1=>?_) w⟩;cases b with
    | true=>rw[K1 rfl];exact k m1 H1 e1 r1
    | false=>rw[KW KI];exact k m1 H1 e1 r1
   | cons _ _=>cases h3
 | .cons e (.cons e2 es),X,c,C,xs,h=>by
  replace h:=aS h;obtain⟨y,ys,rfl,h⟩:=h
  ·simp only[Bool.and_eq_true] at h;obtain⟨h2,h3⟩:=h;rintro pins s σ H Q I ⟨m,ρ,st,rf,rh,w⟩
   skip
   refine sF (oj e C _ h2) (q5 (.cons e2 es) C _ h3) pins s σ H Q I ⟨m,ρ,st,rf,rh,aY C.mono e (fun b st1 k m1 H1 e1 r1=>?_) w⟩;cases b with
   | true=>rw[K1 rfl] at k |-;exact⟨m1,ρ,st1,rf.mono e1,r1,bC C.mono _ (fun _ _ q=>q.ext e1) k⟩
   | false=>rw[KW KI] at k |-;exact k m1 H1 e1 r1
end
end
end FW
namespace FW
open L2 HX
section
variable {X:Cx}{c:Cfg}{Γ:Nat->FSp}{tg:Expr}
noncomputable def AE (K:W.Frag)(m:List Addr)(H:Hp)(D:L2.Ends):a8:={ nx:=postF K m H D.nx,rt:=post K m H D.rt,bk:=postF K m H D.bk,ct:=postF K m H D.ct }
noncomputable def TSx (K:W.Frag)(w:Fr->AH->a8->Prop):TS:=fun D σ H=>∃m ρ st,RF K m H ρ σ/\RH K m H st/\w ρ st (AE K m H D)
theorem AE.ext {D:L2.Ends}(x:Ext K m H m1 H1):jG (AE K m H D) (AE K m1 H1 D) :=
 ⟨fun _ _ q=>q.ext x,fun _ _ q=>q.ext x,fun _ _ q=>q.ext x,fun _ _ q=>q.ext x⟩
theorem C0 (G:bD Γ){D:L2.Ends}(h:TSx X.K (wpS Γ (.forS t it b)) D σ H):GN (TIx X.K (jM Γ it)) (TGx X.K (b7 Γ t)) (TSx X.K (aD Γ b)) D σ H:=by
 obtain⟨m,ρ,st,rf,rh,w⟩:=h
 skip
 refine⟨m,ρ,st,rf,rh,fF G it (fun xs chk st1 k m1 H1 J e1 r1 W=>?_) w⟩;refine⟨fun i n σ' H'=>n+i=xs.length/\∃m' ρ' st',Ext X.K m1 H1 m' H'/\RH X.K m' H' st'/\RF X.K m' H' ρ' σ'/\lO chk (fun x ρ' st' D'=>b7 Γ t x ρ' st' fun ρ2 st2=>aD Γ b ρ2 st2 D') (AE X.K m H D) (xs.drop i) ρ' st',
  ⟨xs.length,rfl,m1,ρ,st1,Ext.refl _ _ _,r1,rf.mono e1,by simpa using k⟩,?_⟩
 rintro i n σ' H' ⟨hn,m',ρ',st',x',rh',rf',k'⟩;cases q:xs.drop i with
 | nil =>
  rw[q] at k';have hi:i=xs.length:=by have:=LP List.length q;simp at this;omega
  subst hi;exact .inl ⟨W.stop m' H' st' x' rh' k'.1,k'.2 m' H' σ' (e1.trans x') rh' rf'⟩
 | cons v rest =>
  rw[q] at k';have hi:i<xs.length:=by have:=LP List.length q;simp at this;omega
  have ev:xs[i]?=some v:=by have:=LP List.head? q;rw[OF] at this;exact this
  have er:rest=xs.drop (i+1):=by have:=LP List.tail q;rw[OO] at this;exact this.symm
  subst er;obtain⟨kc,k'⟩:=k';obtain⟨go,yl⟩:=W.item i v m' H' st' x' rh' kc ev;refine .inr ⟨go,fun σ'' H''=>(n-1+(i+1)=xs.length/\∃m' ρ' st',Ext X.K m1 H1 m' H''/\RH X.K m' H'' st'/\RF X.K m' H'' ρ' σ''/\lO chk (fun x ρ' st' D'=>b7 Γ t x ρ' st' fun ρ2 st2=>aD Γ b ρ2 st2 D') (AE X.K m H D) (xs.drop (i+1)) ρ' st'),fun σ'' H'' z=>⟨n-1,by omega,z⟩,fun y H2 hy=>?_⟩;obtain⟨x2,r2,rv⟩:=yl y H2 hy;refine⟨m',ρ',st',v,rf'.mono x2,r2,rv,aO G t (fun ρ3 st3 k3 m3 H3 σ3 x3 r3 f3=>?_) k'⟩;refine⟨m3,ρ3,st3,f3,r3,aU G b ?_ k3⟩;have xx:Ext X.K m H m3 H3:=((e1.trans x').trans x2).trans x3;refine⟨fun ρ4 st4 k4 m4 H4 σ4 x4 r4 f4=>⟨by omega,m4,ρ4,st4,((x'.trans x2).trans x3).trans x4,r4,f4,k4⟩,fun v4 st4 k4=>k4.ext xx,fun ρ4 st4 k4=>k4.ext xx,fun ρ4 st4 k4 m4 H4 σ4 x4 r4 f4=>⟨by omega,m4,ρ4,st4,((x'.trans x2).trans x3).trans x4,r4,f4,k4⟩⟩
noncomputable def EF (X:Cx)(D:L2.Ends):L2.Ends:={ nx:=fun σ H=>∃a o ys,H a=some (.frz o (.dK ys))/\(∀u q,X.H₀ a≠some (.frz u q))/\D.nx σ (upd H a (.dK ys)),rt:=fun v H=>∃a o ys,H a=some (.frz o (.dK ys))/\(∀u q,X.H₀ a≠some (.frz u q))/\D.rt v (upd H a (.dK ys)),bk:=fun _ _=>False,ct:=fun _ _=>False }
theorem Dx {D:L2.Ends}(h:SP X pins (EF X D) f s'):SP X pins D f s':=by
 cases f with
 | next=>obtain⟨σ',H',I,a,o,ys,hF,hz,q⟩:=h;exact⟨σ',_,mE I hF hz,q⟩
 | ret u=>obtain⟨v,σ',H',I,r,a,o,ys,hF,hz,q⟩:=h;exact⟨v,σ',_,mE I hF hz,r,q⟩
 | brk=>obtain⟨σ',H',I,q⟩:=h;exact False.elim q
 | cont=>obtain⟨σ',H',I,q⟩:=h;exact False.elim q
theorem zI (G:bD Γ){D:L2.Ends}(h:TSx X.K (wpS Γ (.forK t wk e b)) D σ H):GN (wiF X Γ wk e) (TGx X.K (b7 Γ t)) (TSx X.K (aD Γ b)) (EF X D) σ H:=by
 obtain⟨m,ρ,st,rf,rh,w⟩:=h;refine⟨m,ρ,st,rf,rh,ae G e (fun v st1 z=>?_) w⟩;obtain⟨n,rfl,kvs,h1,k⟩:=z;refine⟨n,kvs,rfl,h1,fun m1 H1 a o ys e1 r1 ea g r3 r4 hz=>?_⟩;have xs:Ext X.K m1 H1 m1 (upd H1 a (.frz o (.dK ys))):=Ext.set (ys:=[]) r1 ea (nfD g);have W:lJ X.K (ItF wk a o ys) (bF wk kvs) (fun _=>True) m1 (upd H1 a (.frz o (.dK ys))):=Cp aA r3 (r4.mono xs);have rF:=r1.frz (o:=o) ea g r3 r4;generalize hH2:upd H1 a (.frz o (.dK ys))=H2 at *;have hF0:H2 a=some (.frz o (.dK ys)):=by rw[<-hH2];exact aA
 have toD:∀ {m':List Addr}{H':Hp},Ext X.K m1 H2 m' H'->Ext X.K m H m' (upd H' a (.dK ys)):=fun {m' H'} x=>e1.trans (Ext.thaw (o:=o) r1 ea g (by rw[hH2];exact x));have endN:∀ {ρ':Fr}{st':AH}{m':List Addr}{H':Hp}{σ':L2.St},Ext X.K m1 H2 m' H'->RH X.K m' H' st'->RF X.K m' H' ρ' σ'->(fzD n kvs (AE X.K m H D)).nx ρ' st'->(EF X D).nx σ' H':=fun {ρ' st' m' H' σ'} x r f q=>by have hF:H' a=some (.frz o (.dK ys)):=x.frz _ _ _ hF0;exact⟨a,o,ys,hF,hz,q.2 m' _ σ' (toD x) (r.thaw (eU x.pre ea) hF q.1) ⟨f.len,fun i v e=>let ⟨y,e1,rr⟩:=f.at_ i v e;⟨y,e1,rr.mono0 (ck hF) (cg hF)⟩⟩⟩
 have endR:∀ {v:PV}{x:V}{st':AH}{m':List Addr}{H':Hp},Ext X.K m1 H2 m' H'->RH X.K m' H' st'->R X.K m' H' v x->(fzD n kvs (AE X.K m H D)).rt v st'->(EF X D).rt x H':=fun {v x st' m' H'} e r f q=>by have hF:H' a=some (.frz o (.dK ys)):=e.frz _ _ _ hF0;exact⟨a,o,ys,hF,hz,q.2 m' _ x (toD e) (r.thaw (eU e.pre ea) hF q.1) (f.mono0 (ck hF) (cg hF))⟩
 refine⟨fun i n' σ' H'=>n'+i=(bF wk kvs).length/\∃m' ρ' st',Ext X.K m1 H2 m' H'/\RH X.K m' H' st'/\RF X.K m' H' ρ' σ'/\lO (fun _=>True) (fun x ρ' st' D'=>b7 Γ t x ρ' st' fun ρ2 st2=>aD Γ b ρ2 st2 D') (fzD n kvs (AE X.K m H D)) ((bF wk kvs).drop i) ρ' st',
  ⟨(bF wk kvs).length,rfl,m1,ρ,st1.set n (.fz kvs),Ext.refl _ _ _,rF,(rf.mono e1).mono xs,by simpa using k⟩,?_⟩
 generalize bF wk kvs=xl at *;rintro i n' σ' H' ⟨hn,m',ρ',st',x',rh',rf',k'⟩;cases q:xl.drop i with
 | nil =>
  rw[q] at k';have hi:i=xl.length:=by have:=LP List.length q;simp at this;omega
  subst hi;exact .inl ⟨W.stop m' H' st' x' rh' trivial,endN x' rh' rf' k'.2⟩
 | cons v rest =>
  rw[q] at k';have hi:i<xl.length:=by have:=LP List.length q;simp at this;omega
  have ev:xl[i]?=some v:=by have:=LP List.head? q;rw[OF] at this;exact this
  have er:rest=xl.drop (i+1):=by have:=LP List.tail q;rw[OO] at this;exact this.symm
  subst er;obtain⟨kc,k'⟩:=k';obtain⟨go,yl⟩:=W.item i v m' H' st' x' rh' trivial ev;refine .inr ⟨go,fun σ'' H''=>(n'-1+(i+1)=xl.length/\∃m' ρ' st',Ext X.K m1 H2 m' H''/\RH X.K m' H'' st'/\RF X.K m' H'' ρ' σ''/\lO (fun _=>True) (fun x ρ' st' D'=>b7 Γ t x ρ' st' fun ρ2 st2=>aD Γ b ρ2 st2 D') (fzD n kvs (AE X.K m H D)) (xl.drop (i+1)) ρ' st'),fun σ'' H'' z=>⟨n'-1,by omega,z⟩,fun y H3 hy=>?_⟩;obtain⟨x2,r2,rv⟩:=yl y H3 hy;refine⟨m',ρ',st',v,rf'.mono x2,r2,rv,aO G t (fun ρ3 st3 k3 m3 H4 σ3 x3 r3 f3=>?_) k'⟩;refine⟨m3,ρ3,st3,f3,r3,aU G b ?_ k3⟩;have xx:Ext X.K m1 H2 m3 H4:=(x'.trans x2).trans x3;exact⟨fun ρ4 st4 k4 m4 H4 σ4 x4 r4 f4=>⟨by omega,m4,ρ4,st4,xx.trans x4,r4,f4,k4⟩,fun v4 st4 k4 m4 H4 y4 x4 r4 f4=>endR (xx.trans x4) r4 f4 k4,fun ρ4 st4 k4 m4 H4 σ4 x4 r4 f4=>endN (xx.trans x4) r4 f4 k4,fun ρ4 st4 k4 m4 H4 σ4 x4 r4 f4=>⟨by omega,m4,ρ4,st4,xx.trans x4,r4,f4,k4⟩⟩
theorem xW (G:bD Γ){D:L2.Ends}(h:TSx X.K (wpS Γ (.whileS cd b)) D σ H):Al (TTx X.K (wpT Γ cd)) (TSx X.K (aD Γ b)) D σ H:=by
 obtain⟨m,ρ,st,rf,rh,w⟩:=h
 skip
 obtain⟨n0,w⟩:=w;refine⟨fun n σ' H'=>∃m' ρ' st',Ext X.K m H m' H'/\RH X.K m' H' st'/\RF X.K m' H' ρ' σ'/\eK (wpT Γ cd) (aD Γ b) (AE X.K m H D) n ρ' st',⟨n0,m,ρ,st,Ext.refl _ _ _,rh,rf,w⟩,?_⟩;rintro n σ' H' ⟨m',ρ',st',x',rh',rf',k'⟩;cases n with
 | zero=>exact k'.elim
 | succ n =>
  refine⟨m',ρ',st',rf',rh',aY G cd (fun b st1 k m1 H1 x1 r1=>?_) k'⟩;cases b with
  | false=>rw[KW KI] at k |-;exact k m1 H1 σ' (x'.trans x1) r1 (rf'.mono x1)
  | true =>
   rw[K1 rfl] at k |-
   refine⟨fun σ'' H''=>∃m' ρ' st',Ext X.K m H m' H''/\RH X.K m' H'' st'/\RF X.K m' H'' ρ' σ''/\eK (wpT Γ cd) (aD Γ b) (AE X.K m H D) n ρ' st',fun σ'' H'' z=>⟨n,M4 _,z⟩,m1,ρ',st1,rf'.mono x1,r1,aU G _ ?_ k⟩;have xx:=x'.trans x1;exact⟨fun ρ4 st4 k4 m4 H4 σ4 x4 r4 f4=>⟨m4,ρ4,st4,xx.trans x4,r4,f4,k4⟩,fun v4 st4 k4=>k4.ext xx,fun ρ4 st4 k4=>k4.ext xx,fun ρ4 st4 k4 m4 H4 σ4 x4 r4 f4=>⟨m4,ρ4,st4,xx.trans x4,r4,f4,k4⟩⟩
end
end FW
namespace FW
open L2 HX
noncomputable def mv:Expr->Bool
 | .Name ..=>true
 | _=>false
noncomputable def zY:Expr->Expr->Bool
 | .Tuple ts _ _,.Tuple vs _ _=>(ts.any fun t=>!mv t) || vs.all (foldedForSure 8)
 | .Tuple ..,_=>true
 | .Subscript ..,_=>true
 | _,_=>false
noncomputable def vg (y:Str)(sc:Scope):Bool:=sc.names.any fun x=>match x with|(n,k)=>n == y && (k == .local || k == .cell)
noncomputable def uT (x:Stmt)(f:List Expr->Expr->Bool):Bool:=match x with | .Assign ts v _=>f ts v|_=>false
theorem mK (h:uT x f=true):∃ts v p,x=.Assign ts v p/\f ts v=true:=by cases x with|Assign ts v p=>exact⟨ts,v,p,rfl,h⟩|_=>exact Bool.noConfusion h
noncomputable def zZ (x:Stmt)(f:Expr->Expr->Bool):Bool:=uT x fun ts v=>on1 ts fun t=>f t v
theorem oN (h:zZ x f=true):∃t v p,x=.Assign [t] v p/\f t v=true:=by replace h:=mK h;obtain⟨ts,v,p,rfl,h⟩:=h;replace h:=cD h;obtain⟨t,rfl,h⟩:=h;exact⟨t,v,p,rfl,h⟩
noncomputable def EE (x:Stmt)(f:Expr->Operator->Expr->Bool):Bool:=match x with | .AugAssign t o v _=>f t o v|_=>false
theorem xQ (h:EE x f=true):∃t o v p,x=.AugAssign t o v p/\f t o v=true:=by cases x with|AugAssign t o v p=>exact⟨t,o,v,p,rfl,h⟩|_=>exact Bool.noConfusion h
noncomputable def HW (x:Stmt)(f:Expr->Bool):Bool:=match x with | .Expr v _=>f v|_=>false
theorem AB (h:HW x f=true):∃v p,x=.Expr v p/\f v=true:=by cases x with|Expr v p=>exact⟨v,p,rfl,h⟩|_=>exact Bool.noConfusion h
noncomputable def zu (x:Stmt)(f:Option Expr->Bool):Bool:=match x with | .Return v _=>f v|_=>false
theorem pv (h:zu x f=true):∃v p,x=.Return v p/\f v=true:=by cases x with|Return v p=>exact⟨v,p,rfl,h⟩|_=>exact Bool.noConfusion h
noncomputable def Jz (x:Stmt)(f:Expr->List Stmt->List Stmt->Bool):Bool:=match x with | .If v a b _=>f v a b|_=>false
theorem CB (h:Jz x f=true):∃v a b p,x=.If v a b p/\f v a b=true:=by cases x with|If v a b p=>exact⟨v,a,b,p,rfl,h⟩|_=>exact Bool.noConfusion h
noncomputable def wy (x:Stmt)(f:Expr->List Stmt->Bool):Bool:=match x with | .While v a [] _=>f v a|_=>false
theorem sI (h:wy x f=true):∃v a p,x=.While v a [] p/\f v a=true:=by
 cases x with
 | While v a b p=>cases b with|nil=>exact⟨v,a,p,rfl,h⟩|cons _ _=>exact Bool.noConfusion h
 | _=>exact Bool.noConfusion h
noncomputable def BE (x:Stmt)(f:Expr->Expr->List Stmt->Bool):Bool:=match x with | .For t v a [] _=>f t v a|_=>false
theorem oQ (h:BE x f=true):∃t v a p,x=.For t v a [] p/\f t v a=true:=by
 cases x with
 | For t v a b p=>cases b with|nil=>exact⟨t,v,a,p,rfl,h⟩|cons _ _=>exact Bool.noConfusion h
 | _=>exact Bool.noConfusion h
noncomputable def zQ (x:Stmt):Bool:=match x with | .Pass _=>true|_=>false
theorem vp (h:zQ x=true):∃p,x=.Pass p:=by cases x with|Pass p=>exact⟨p,rfl⟩|_=>exact Bool.noConfusion h
noncomputable def EL (x:Stmt):Bool:=match x with | .Break _=>true|_=>false
theorem yy (h:EL x=true):∃p,x=.Break p:=by cases x with|Break p=>exact⟨p,rfl⟩|_=>exact Bool.noConfusion h
noncomputable def Au (x:Stmt):Bool:=match x with | .Continue _=>true|_=>false
theorem uD (h:Au x=true):∃p,x=.Continue p:=by cases x with|Continue p=>exact⟨p,rfl⟩|_=>exact Bool.noConfusion h
noncomputable def Hh:Tg->Bool
 | .name _=>true
 | _=>false
noncomputable def Je:E->Bool
 | .comp ..=>true
 | _=>false
noncomputable def GT (c:Cfg)(t:Tg)(e:E)(tg x:Expr):Bool :=
 Hh t && Je e && aE tg fun y py=>xH x fun _ _ sc pos=>c.names.lookup y == some .cell || (c.names.lookup y == some .local && py.line == pos.line && !vg y sc)
noncomputable def IJ:E->Bool
 | .compD ..=>true
 | _=>false
noncomputable def zq (c:Cfg)(t:Tg)(e:E)(tg x:Expr):Bool :=
 Hh t && IJ e && aE tg fun y py=>F' x fun _ _ _ sc pos=>c.names.lookup y == some .local && py.line == pos.line && !vg y sc
theorem D8 (h:IJ e=true):∃kx vx tg wk d ifs nt caps,e=.compD kx vx tg wk d ifs nt caps:=by cases e with|compD kx vx tg wk d ifs nt caps=>exact⟨kx,vx,tg,wk,d,ifs,nt,caps,rfl⟩|_=>exact Bool.noConfusion h
noncomputable def IH (c:Cfg)(t:Expr):Bool:=aE t fun y _=>c.names.lookup y == some .cell
noncomputable def J1 (c:Cfg)(tg x:Expr):Bool:=eV tg fun ts=>(xH x fun _ _ _ _=>true) || eV x fun _=>ts.any (IH c)
mutual
noncomputable def Jt (c:Cfg):S->Stmt->Bool
 | .set t e,s=>zZ s fun tg x=>(gL c t tg && ay c e x) && ((nJ x && (mv tg || zY tg x)) || (GT c t e tg x || (J1 c tg x || zq c t e tg x)))
 | .par i j a b,s=>zZ s fun tg vx=>eV tg fun ts=>on2 ts fun ta tb=>aE ta fun x px=>aE tb fun y py=>eV vx fun us=>on2 us fun u v=>c.N[i]? == some x && c.N[j]? == some y && !(i == j) && !(x == y) && c.names.lookup x == some .local && c.names.lookup y == some .local
    && px.line == py.line && aj u && aj v && !(foldedForSure 8 u && foldedForSure 8 v) && !(constantsAlone 8 u && constantsAlone 8 v) && ay c a u && ay c b v
 | .aug i op e,s=>EE s fun t o x=>aE t fun y _=>c.N[i]? == some y && c.loc y && o == op && ay c e x
 | .expr e,s=>HW s fun x=>nJ x && ay c e x
 | .ret e,s=>zu s fun o=>i8 o fun x=>ay c e x
 | .retN,s=>zu s fun o=>o.isNone
 | .ifS t a b,s=>Jz s fun x ys zs=>xF c t x && aJ c a ys && aJ c b zs
 | .whileS t b,s=>wy s fun x ys=>xF c t x && aJ c b ys
 | .forS t it b,s=>BE s fun tg x ys=>Bz it tg && gy x && gL c t tg && B5 c it x && aJ c b ys
 | .forK t wk e b,s=>BE s fun tg x ys=>A4 wk tg && gy x && gL c t tg && qQ wk x (fun y=>ay c e y) && aJ c b ys
 | .pass,s=>zQ s
 | .brk,s=>EL s
 | .cont,s=>Au s
 | .bad,_=>true
 | .set2 i j e,s=>uT s fun ts v=>on2 ts fun ta tb=>aE ta fun x _=>aE tb fun y _=>c.N[i]? == some x && c.N[j]? == some y && !(i == j) && c.loc x && c.loc y && nJ v && ay c e v
termination_by structural s=>s
noncomputable def aJ (c:Cfg):Ss->List Stmt->Bool
 | .nil,xs=>xs.isEmpty
 | .cons s ss,xs=>m_ xs fun y ys=>Jt c s y && aJ c ss ys
termination_by structural s=>s
end
theorem wJ (h:Hh t=true):∃i,t=.name i:=by cases t with|name i=>exact⟨i,rfl⟩|_=>exact Bool.noConfusion h
theorem Du (h:Je e=true):∃elt tg it ifs nt caps,e=.comp elt tg it ifs nt caps:=by cases e with|comp elt tg it ifs nt caps=>exact⟨elt,tg,it,ifs,nt,caps,rfl⟩|_=>exact Bool.noConfusion h
theorem gK (h:nJ x=true):swapsWith x t l env=pure false:=by cases x <;> first|rfl|cases h
theorem eT {t:Expr}(h:nJ x=true):swapsWithSole [t] x l env=pure false:=by unfold swapsWithSole;exact gK h
theorem kY:∀(ts:List Expr) (f:Expr->Option Str),(ts.any fun t=>!mv t)=true->(∀t,mv t=false->f t=none)->(ts.filterMap f).length<ts.length
 | [],f,h,_=>by cases h
 | t::ts,f,h,hf=>by
  rw[L9,NM] at h;have hl:(ts.filterMap f).length<=ts.length:=M0 _ _;rcases h with h|h
  ·rw[L5,hf t (by simpa using h)];simp only[List.length_cons];omega
  ·have:=kY ts f h hf;rw[L5];cases f t <;> simp only[List.length_cons] <;> omega
theorem jw:∀(ts:List Expr) (P:Expr->Bool) (f:Expr->Option Str),ts.any P=true->(∀t,P t=true->f t=none)->(ts.filterMap f).length<ts.length
 | [],P,f,h,_=>by cases h
 | t::ts,P,f,h,hf=>by
  rw[L9,NM] at h;have hl:(ts.filterMap f).length<=ts.length:=M0 _ _;rcases h with h|h
  ·rw[L5,hf t h];simp only[List.length_cons];omega
  ·have:=jw ts P f h hf;rw[L5];cases f t <;> simp only[List.length_cons] <;> omega
theorem Af {ts:List Expr}{env:Env}(hs:ts.any P=true)(hP:∀t,P t=true->∃y q,t=.Name y q/\(env.kindOf y == some .local)=false):swappedStores [.Tuple ts k p] (.Tuple vs k2 p2) env=pure none:=by
 unfold swappedStores;dsimp only;split
 ·rfl
 ·split
  ·rfl
  ·have hlt:=jw ts P (fun x=>match x with
    | .Name id pos=>if (env.kindOf id == some .local && pos.line == (Option.map (fun x=>x.pos.line) ts.head?).getD 0)=true then some id else none
    | _=>none) hs (fun t ht=>by obtain⟨y,q,rfl,hk⟩:=hP t ht;show (if (env.kindOf y == some .local && _)=true then some y else none)=none;rw[hk,OI,KW KI])
   rw[K1];rw[NM]
   left
   rw[bne_iff_ne];exact K0 hlt
theorem ir (h:zY tg x=true):swappedStores [tg] x env=pure none:=by
 cases tg with
 | Tuple ts k p =>
  cases x with
  | Tuple vs k2 p2 =>
   have hs:((ts.any fun t=>!mv t) || vs.all (foldedForSure 8))=true:=h;rw[NM] at hs;unfold swappedStores;dsimp only;split
   ·rfl
   ·split
    ·rfl
    rcases hs with hs|hs
    rotate_left
    ·split
     ·rfl
     ·first|rfl|rw[K1 hs]
    ·have hlt:=kY ts (fun x=>match x with
      | .Name id pos=>if (env.kindOf id == some .local && pos.line == (Option.map (fun x=>x.pos.line) ts.head?).getD 0)=true then some id else none
      | _=>none) hs (fun t ht=>by cases t <;> first|rfl|cases ht)
     rw[K1];rw[NM]
     left
     rw[bne_iff_ne];exact K0 hlt
  | _=>rfl
 | Subscript a b p=>cases x <;> rfl
 | _=>cases h
noncomputable def vf:Expr->Bool
 | .Starred ..=>true
 | _=>false
theorem pK (h:aj u=true):vf u=false:=by cases u <;> first|rfl|cases h
theorem vH (h1:aj u=true)(h2:aj v=true):([u,v].any fun | .Starred ..=>true|_=>false)=false:=by show (vf u || (vf v || false))=false;rw[pK h1,pK h2];rfl
theorem Aq {env:Env}{px py:Pos}(hb:env.blockKind=.function)(hx:env.kindOf x=some .local)(hy:env.kindOf y=some .local)(hxy:x≠y)(hl:px.line=py.line)(h1:aj u=true)(h2:aj v=true)(h3:(foldedForSure 8 u && foldedForSure 8 v)=false)(h4:(constantsAlone 8 u && constantsAlone 8 v)=false) :
  swappedStores [.Tuple [.Name x px,.Name y py] kt pt] (.Tuple [u,v] k2 pt2) env=pure (some [x,y]):=by
 unfold swappedStores;dsimp only;have e0:(Option.map (fun x=>x.pos.line) [Expr.Name x px,Expr.Name y py].head?).getD 0=px.line:=rfl;have e1:([u,v].any fun | .Starred ..=>true|_=>false)=false:=vH h1 h2;have e2:[u,v].all (foldedForSure 8)=false:=by simpa using h3
 have e3:[u,v].all (constantsAlone 8)=false:=by simpa using h4
 have e4:[x,y].eraseDups.length=2:=by
  have:(y == x)=false:=by simpa using fun z=>hxy z.symm
  simp[List.eraseDups_cons,this]
 rw[KW (by simp[hb]),KW ?h1]
 case h1=>exact fun z=>KI (e1.symm.trans z)
 have e5:(List.filterMap (fun t=>match t with
   | .Name id pos=>if (env.kindOf id == some .local && pos.line == (Option.map (fun x=>x.pos.line) [Expr.Name x px,Expr.Name y py].head?).getD 0)=true then some id else none
   | _=>none) [Expr.Name x px,Expr.Name y py])=[x,y]:=by
  rw[e0];simp[List.filterMap_cons,hx,hy,hl]
 generalize hn:List.filterMap _ [Expr.Name x px,Expr.Name y py]=ns;have hns:ns=[x,y]:=hn.symm.trans e5;subst hns;rw[KW,KW,KW]
 ·rw[e3];decide
 ·rw[e2];decide
 ·rw[e4];simp
section
variable {X:Cx}{c:Cfg}{Γ:Nat->FSp}
theorem CA {Γ:Nat->FSp}(C:COk X c Γ)(h2:gL c t tg=true)(h3:ay c e x=true)(h:GT c t e tg x=true):PS X (.Assign [tg] x pos) (TSx X.K (wpS Γ (.set t e))):=by
 have hE:=aR e C _ h3;unfold GT at h;rw[KM,KM] at h;obtain⟨⟨ht,he⟩,h⟩:=h;replace h:=au h;obtain⟨y,py,rfl,h⟩:=h;replace h:=gN h;obtain⟨ex,gens,sc,cpos,rfl,h⟩:=h;obtain⟨i,rfl⟩:=wJ ht;obtain⟨elt,tg,it,ifs,nt,caps,rfl⟩:=Du he
 ·have h2:(c.N[i]? == some y && c.loc y)=true:=h2;simp only[Bool.and_eq_true,beq_iff_eq] at h2;obtain⟨g1,g2⟩:=C.locx h2.2;rintro pins s σ H D I ⟨m,ρ,st,rf,rh,w⟩;simp only[Bool.or_eq_true,Bool.and_eq_true,beq_iff_eq,Bool.not_eq_true'] at h;rcases h with h|⟨⟨hl,hp⟩,hn⟩
  ·have hk:=C.cel y (.inl h);have hs:swapsWith (.ListComp ex gens sc cpos) (some (.Name y py)) pos.line X.env=pure false:=by
    unfold swapsWith;have:(X.env.kindOf y == some NameKind.local)=false:=by rcases hk with hk|hk <;> rw[hk] <;> rfl
    simp only[this,Bool.and_false,Bool.false_and]
   rw[xn] at w;refine Cg C.ndX (by rw[C.N];exact h2.1) g1 hE hs g2 pins s σ H D I ⟨m,ρ,st,rf,rh,ae C.mono _ (fun v st1 k m1 H1 x1 e1 r1 r2=>?_) w⟩
   try simp only[fX,nK,lY] at k
   exact k m1 H1 _ e1 r1 ((rf.mono e1).set i r2)
  ·have hll:=C.lcl _ hl;have hs:swapsWith (.ListComp ex gens sc cpos) (some (.Name y py)) pos.line X.env=pure true:=by
    unfold swapsWith;have q1:(X.env.kindOf y == some NameKind.local)=true:=by unfold Env.kindOf;rw[hll];rfl
    have q2:(X.env.blockKind == ScopeKind.function)=true:=by rw[C.bk];rfl
    have q3:(py.line == cpos.line)=true:=by rw[hp];simp
    unfold vg at hn;show pure (_ && _ && _ && !_)=_;rw[q1,q2];show pure (true && true && (py.line == cpos.line) && !_)=_;rw[q3,hn];rfl
   replace h3:=gN h3;obtain⟨ex',gs',sc',pos',heq,h3⟩:=h3;cases heq;replace h3:=cD h3;obtain⟨g,rfl,h3⟩:=h3;obtain⟨tx,ix,fx,ia⟩:=g
   ·simp only[Bool.and_eq_true,beq_iff_eq] at h3;obtain⟨⟨⟨⟨⟨⟨⟨⟨h1,h0⟩,k2'⟩,h3⟩,h4⟩,h5⟩,h6⟩,h7⟩,h8⟩:=h3;subst h1;obtain⟨S,k1,k2,k3,k4⟩:=jx C h4;have hC:∀s2 H2 fp A,COk (cxC X (nt++caps.filterMap (X.N[·]?)) s2 H2 fp sc A) (c.inner nt caps sc) Γ:=fun s2 H2 fp A=>vF C h4
    skip
    rw[exec_Assign_Name_used _ _ _ _ hs];refine KF (wpAny_standAt ?_);refine KF ?_;unfold evalThenUse;refine KF ?_;refine ko (elt:=elt) (tg:=tg) (ifs:=ifs) (nt:=nt) (caps:=caps) (use:=some (assign (.Name y py) X.env)) (Fin:=fun A H'=>D.nx (σ.set i (some (.ref A))) H') (wi:=TIx X.K (jM Γ it)) C.mono C.calm S rfl k1 k2 k3 k2' h3 (B3 it C _ h0 h5) (fun s2 H2 fp A=>kJ tg (hC s2 H2 fp A) _ h6) (fun s2 H2 fp A=>q5 ifs (hC s2 H2 fp A) _ h7) (fun s2 H2 fp A=>aR elt (hC s2 H2 fp A) _ h8) I ?_ ?_
    ·refine⟨m,ρ,st,rf,rh,fF C.mono it (fun xs chk st1 z m1 H1 J e1 r1 W=>⟨m1,ρ,st1,xs,chk,rf.mono e1,r1,W,z.1,?_⟩) w⟩;refine bT (body:=di Γ elt tg ifs (nt.map (fun _=>none)++caps.map fun i=>(ρ[i]?).join)) (fun _ _ _ _ hk q=>fW C.mono hk q) (fun vs st2 k m2 H2 A ys e2 r2 Dm hD0 hD ry=>?_) z.2;have hD1:H A=none:=by
      cases q:H A with
      | none=>rfl
      | some o =>
       by_cases hm:A∈m
       ·exact absurd ((e1.trans e2).pre.subset hm) Dm
       ·exact absurd hD0 (e1.ne hm q)
     try simp only[fX,nK,lY] at k
     exact k _ _ _ ((e1.trans e2).addD hD1) (r2.addD Dm hD ry) ((rf.mono ((e1.trans e2).addD hD1)).set i (R.last r2.len))
    ·intro C' A H' s' m' I' ns fp F;refine wpAny_assign_Name (o7 I' C.ndX (by rw[C.N];exact h2.1) g1 (v:=.ref A) rfl (fun s2 I2 hh=>?_) g2);obtain⟨a,hs2,ha⟩:=hh;have hne:C'≠a:=by
      rcases ha with rfl|ha
      ·exact fp.2.1
      ·exact fun q=>fp.2.2.2.2.1 _ _ ha q.symm
     refine⟨m',?_,fun h' hs'=>?_⟩
     ·obtain⟨o,es,ep,q1,q2⟩:=ns;exact⟨o,es,ep,(hs2.2 C' hne).trans q1,q2⟩
     ·refine KG (KG ?_);exact⟨_,H',I2.turned (t':=s2.toks) (fun b o hb e=>hs'.extBut b o hb e) fp.1 fp.2.1 fp.2.2.2.1 fp.2.2.2.2.1 fp.2.2.2.2.2,F⟩
theorem zD {Γ:Nat->FSp}(C:COk X c Γ)(h2:gL c t tg=true)(h3:ay c e x=true)(h:zq c t e tg x=true):PS X (.Assign [tg] x pos) (TSx X.K (wpS Γ (.set t e))):=by unfold zq at h;rw[KM,KM] at h;obtain⟨⟨ht,he⟩,h⟩:=h;replace h:=au h;obtain⟨y,py,rfl,h⟩:=h;replace h:=B1 h;obtain⟨ek,ev,gens,sc,cpos,rfl,h⟩:=h;obtain⟨i,rfl⟩:=wJ ht;obtain⟨kx,vx,tg,wk,d,ifs,nt,caps,rfl⟩:=D8 he;have h2:(c.N[i]? == some y && c.loc y)=true:=h2;simp only[Bool.and_eq_true,beq_iff_eq] at h2;obtain⟨g1,g2⟩:=C.locx h2.2;rintro pins s σ H D I ⟨m,ρ,st,rf,rh,w⟩;rw[xn] at w;exact False.elim w
mutual
theorem J8 (C:COk X c Γ):∀(e:S) (x:Stmt),Jt c e x=true->PS X x (TSx X.K (wpS Γ e))
 | .set t e,x,h=>by
  replace h:=oN h;obtain⟨tg,x,pos,rfl,h⟩:=h
  ·simp only[Bool.and_eq_true,Bool.or_eq_true] at h;obtain⟨⟨h2,h3⟩,h14⟩:=h;rcases h14 with⟨h1,h4⟩|h14|h14|h14
   rotate_left
   ·exact CA C h2 h3 h14
   rotate_left
   ·exact zD C h2 h3 h14
   rotate_right
   ·have hE:=aR e C _ h3;have hG:=kJ t C _ h2;rintro pins s σ H D I ⟨m,ρ,st,rf,rh,w⟩
    skip
    have rd:C4 (TEx X.K (wpE Γ e)) (TGx X.K (b7 Γ t)) D σ H:=⟨m,ρ,st,rf,rh,ae C.mono e (fun v st1 k m1 H1 x1 e1 r1 r2=>⟨m1,ρ,st1,v,rf.mono e1,r1,r2,aO C.mono t (fun _ _ q=>q.ext e1) k⟩) w⟩;obtain⟨ts,k,p,rfl,h14⟩:=bE h14;rcases Bool.or_eq_true_iff.mp h14 with h14|h14
    ·obtain⟨a,b,d,f,rfl,_⟩:=gN h14;exact jX hE hG rfl rfl rfl pins s σ H D I rd
    ·obtain⟨us,k2,p2,rfl,h14⟩:=bE h14;refine jX hE hG rfl (Af (P:=IH c) h14 fun t ht=>?_) rfl pins s σ H D I rd;obtain⟨y,q,rfl,hy⟩:=au (show aE t _=true from ht);refine⟨y,q,rfl,?_⟩;rcases C.cel y (.inl (by simpa using hy)) with hk|hk <;> rw[hk] <;> rfl
   ·have hE:=aR e C _ h3;have hG:=kJ t C _ h2;rintro pins s σ H D I ⟨m,ρ,st,rf,rh,w⟩
    skip
    have rd:C4 (TEx X.K (wpE Γ e)) (TGx X.K (b7 Γ t)) D σ H:=⟨m,ρ,st,rf,rh,ae C.mono e (fun v st1 k m1 H1 x1 e1 r1 r2=>⟨m1,ρ,st1,v,rf.mono e1,r1,r2,aO C.mono t (fun _ _ q=>q.ext e1) k⟩) w⟩;cases t with
    | name i =>
     obtain⟨y,p,rfl,h2⟩:=au h2;have h2:=Bool.and_eq_true_iff.mp h2;obtain⟨g1,g2⟩:=C.locx h2.2;refine Cg C.ndX (by rw[C.N];exact beq_iff_eq.mp h2.1) g1 hE (gK h1) g2 pins s σ H D I ⟨m,ρ,st,rf,rh,ae C.mono e (fun v st1 k m1 H1 x1 e1 r1 r2=>?_) w⟩
     try simp only[fX,nK,lY] at k
     exact k m1 H1 _ e1 r1 ((rf.mono e1).set i r2)
    | tup ts =>obtain⟨xs,k,p,rfl,_⟩:=bE h2;exact jX hE hG (eT h1) (ir (by rcases h4 with h4|h4;cases h4;exact h4)) rfl pins s σ H D I rd
    | ltup ts =>obtain⟨xs,k,p,rfl,_⟩:=bE h2;exact jX hE hG (eT h1) (ir (by rcases h4 with h4|h4;cases h4;exact h4)) rfl pins s σ H D I rd
    | sub o i =>obtain⟨l,r,p,rfl,_⟩:=cA h2;exact jX hE hG (eT h1) (ir (by rcases h4 with h4|h4;cases h4;exact h4)) rfl pins s σ H D I rd
    | subO o i =>obtain⟨l,r,p,rfl,_⟩:=cA h2;exact jX hE hG (eT h1) (ir (by rcases h4 with h4|h4;cases h4;exact h4)) rfl pins s σ H D I rd
 | .par i j a b,x,h=>by
  replace h:=oN h;obtain⟨tg,vx,pos,rfl,h⟩:=h;replace h:=bE h;obtain⟨ts,k,p1,rfl,h⟩:=h;replace h:=h_ h;obtain⟨ta,tb,rfl,h⟩:=h;replace h:=au h;obtain⟨x,px,rfl,h⟩:=h;replace h:=au h;obtain⟨y,py,rfl,h⟩:=h;replace h:=bE h;obtain⟨us,k2,p2,rfl,h⟩:=h;replace h:=h_ h;obtain⟨u,v,rfl,h⟩:=h
  ·simp only[Bool.and_eq_true,beq_iff_eq,Bool.not_eq_true',beq_eq_false_iff_ne] at h;obtain⟨⟨⟨⟨⟨⟨⟨⟨⟨⟨⟨⟨h1,h2⟩,h3⟩,h4⟩,h5⟩,h6⟩,h7⟩,h8⟩,h9⟩,h10⟩,h11⟩,h12⟩,h13⟩:=h;have hx:=C.lcl _ h5;have hy:=C.lcl _ h6;rintro pins s σ H D I ⟨m,ρ,st,rf,rh,w⟩
   skip
   refine G_ C.calm C.ndX (by rw[C.N];exact h1) (by rw[C.N];exact h2) h3 hx hy (pac (aR a C _ h12) (pac (aR b C _ h13) eI h9) h8)
    (Aq C.bk hx hy h4 h7 h8 h9 h10 h11) rfl pins s σ H D I ⟨m,ρ,st,rf,rh,ae C.mono a (fun v st1 k m1 H1 x1 e1 r1 r2=>⟨m1,ρ,st1,rf.mono e1,r1,
    ae C.mono b (fun u st2 k2 m2 H2 y2 e2 r3 r4=>⟨x1,y2,rfl,?_⟩) k⟩) w⟩
   exact k2 m2 H2 _ (e1.trans e2) r3 ((((rf.mono e1).mono e2).set i (r2.mono e2)).set j r4)
 | .aug i op e,x,h=>by
  replace h:=xQ h;obtain⟨t,o,x,p,rfl,h⟩:=h;replace h:=au h;obtain⟨y,py,rfl,h⟩:=h
  ·simp only[Bool.and_eq_true,beq_iff_eq] at h;obtain⟨⟨⟨h1,h2⟩,h3⟩,h4⟩:=h;subst h3;obtain⟨g1,g2⟩:=C.locx h2;rintro pins s σ H D I ⟨m,ρ,st,rf,rh,w⟩
   skip
   obtain⟨v,ev,w⟩:=w;obtain⟨y,ey,ry⟩:=rf.at_ i v ev;refine Hl C.ndX (by rw[C.N];exact h1) g1 (aR e C _ h4) (GJ _) g2 pins s σ H D I ⟨y,ey,m,ρ,st,rf,rh,ae C.mono e (fun u st1 k m1 H1 x1 e1 r1 r2=>⟨m1,st1,v,u,r1,ry.mono e1,r2,o8 (fun z st2 q m2 H2 z2 e2 r3 r4=>?_) k⟩) w⟩;exact q m2 H2 _ (e1.trans e2) r3 (((rf.mono e1).mono e2).set i r4)
 | .expr e,x,h=>by
  replace h:=AB h;obtain⟨x,p,rfl,h⟩:=h
  ·simp only[Bool.and_eq_true] at h;rintro pins s σ H D I ⟨m,ρ,st,rf,rh,w⟩
   skip
   exact C5 (aR e C _ h.2) (gK h.1) pins s σ H D I ⟨m,ρ,st,rf,rh,ae C.mono e (fun u st1 k m1 H1 x1 e1 r1 r2=>k m1 H1 σ e1 r1 (rf.mono e1)) w⟩
 | .ret e,x,h=>by
  replace h:=pv h;obtain⟨o,p,rfl,h⟩:=h;replace h:=i9 h;obtain⟨x,rfl,h⟩:=h
  ·rintro pins s σ H D I ⟨m,ρ,st,rf,rh,w⟩
   skip
   exact Gq (aR e C _ h) pins s σ H D I ⟨m,ρ,st,rf,rh,w⟩
 | .retN,x,h=>by
  replace h:=pv h;obtain⟨o,p,rfl,h⟩:=h;replace h:=ze h;obtain rfl:=h
  ·rintro pins s σ H D I ⟨m,ρ,st,rf,rh,w⟩
   skip
   exact DF pins s σ H D I (post.here w rh (R_non.mpr rfl))
 | .ifS t a b,x,h=>by
  replace h:=CB h;obtain⟨x,ys,zs,p,rfl,h⟩:=h
  ·simp only[Bool.and_eq_true] at h;obtain⟨⟨h1,h2⟩,h3⟩:=h;rintro pins s σ H D I ⟨m,ρ,st,rf,rh,w⟩
   skip
   refine IT (oj t C _ h1) (kM C a _ h2) (kM C b _ h3) pins s σ H D I ⟨m,ρ,st,rf,rh,aY C.mono t (fun k st1 z m1 H1 e1 r1=>?_) w⟩;cases k with
   | true=>rw[K1 rfl] at z |-;exact⟨m1,ρ,st1,rf.mono e1,r1,aU C.mono a (AE.ext e1) z⟩
   | false=>rw[KW KI] at z |-;exact⟨m1,ρ,st1,rf.mono e1,r1,aU C.mono b (AE.ext e1) z⟩
 | .whileS t b,x,h=>by
  replace h:=sI h;obtain⟨x,ys,p,rfl,h⟩:=h
  ·simp only[Bool.and_eq_true] at h;intro pins s σ H D I w;exact Bm C.pass (oj t C _ h.1) (kM C b _ h.2) pins s σ H D I (xW C.mono w)
 | .forS t it b,x,h=>by
  replace h:=oQ h;obtain⟨tg,x,ys,p,rfl,h⟩:=h
  ·simp only[Bool.and_eq_true] at h;obtain⟨⟨⟨⟨h0,h1⟩,h2⟩,h3⟩,h4⟩:=h;intro pins s σ H D I w;exact zx C.pass C.calm (B3 it C _ h0 h3) (kJ t C _ h2) (kM C b _ h4) (mj h1) pins s σ H D I (C0 C.mono w)
 | .forK t wk e b,x,h=>by replace h:=oQ h;obtain⟨tg,x,ys,p,rfl,h⟩:=h;simp only[Bool.and_eq_true] at h;obtain⟨⟨⟨⟨h0,h1⟩,h2⟩,h3⟩,h4⟩:=h;intro pins s σ H D I w;exact thn (zx C.pass C.calm (JY C h0 h3 fun y hy=>aR e C y hy) (kJ t C _ h2) (kM C b _ h4) (mj h1) pins s σ H (EF X D) I (zI C.mono w)) fun f s' hh=>Dx hh
 | .bad,x,h=>by rintro pins s σ H D I ⟨m,ρ,st,rf,rh,w⟩;exact False.elim w
 | .set2 i j e,x,h=>by
  replace h:=mK h;obtain⟨ts,v,pos,rfl,h⟩:=h;replace h:=h_ h;obtain⟨ta,tb,rfl,h⟩:=h;replace h:=au h;obtain⟨x,px,rfl,h⟩:=h;replace h:=au h;obtain⟨y,py,rfl,h⟩:=h
  ·simp only[Bool.and_eq_true,beq_iff_eq,Bool.not_eq_true',beq_eq_false_iff_ne] at h;obtain⟨⟨⟨⟨⟨⟨h1,h2⟩,h3⟩,h4⟩,h5⟩,h6⟩,h7⟩:=h;obtain⟨a1,a2⟩:=C.locx h4;obtain⟨b1,b2⟩:=C.locx h5;rintro pins s σ H D I ⟨m,ρ,st,rf,rh,w⟩
   skip
   refine wpAny_Assign_two (thn (aR e C _ h7 pins s σ H (fun y H1=>D.nx ((σ.set i (some y)).set j (some y)) H1) I ⟨m,ρ,st,rf,rh,ae C.mono e (fun v st1 k m1 H1 x1 e1 r1 r2=>k m1 H1 _ e1 r1 (((rf.mono e1).set i r2).set j r2)) w⟩) fun v s1 ⟨y,H1,I1,r1,q1⟩=>?_) rfl rfl;refine PySem.wpAny_assign_Name ?_;refine eJ I1 C.ndX (by rw[C.N];exact h1) a1 r1 (fun s2 I2=>?_) a2;refine PySem.wpAny_assign_Name ?_;exact eJ I2 C.ndX (by rw[C.N];exact h2) b1 r1 (fun s3 I3=>⟨_,H1,I3,q1⟩) b2
 | .pass,x,h=>by
  replace h:=vp h;obtain⟨p,rfl⟩:=h
  ·rintro pins s σ H D I ⟨m,ρ,st,rf,rh,w⟩
   skip
   exact D2 pins s σ H D I (postF.here w rh rf)
 | .brk,x,h=>by
  replace h:=yy h;obtain⟨p,rfl⟩:=h
  ·rintro pins s σ H D I ⟨m,ρ,st,rf,rh,w⟩
   skip
   exact zg pins s σ H D I (postF.here w rh rf)
 | .cont,x,h=>by
  replace h:=uD h;obtain⟨p,rfl⟩:=h
  ·rintro pins s σ H D I ⟨m,ρ,st,rf,rh,w⟩
   skip
   exact uc pins s σ H D I (postF.here w rh rf)
theorem kM (C:COk X c Γ):∀(e:Ss) (x:List Stmt),aJ c e x=true->PSs X x (TSx X.K (aD Γ e))
 | .nil,x,h=>by
  have h:x.isEmpty=true:=h;cases x with
  | nil =>
   rintro pins s σ H D I ⟨m,ρ,st,rf,rh,w⟩
   skip
   exact DM pins s σ H D I (postF.here w rh rf)
  | cons _ _=>cases h
 | .cons e es,x,h=>by
  replace h:=aS h;obtain⟨y,ys,rfl,h⟩:=h
  ·simp only[Bool.and_eq_true] at h;rintro pins s σ H D I ⟨m,ρ,st,rf,rh,w⟩
   skip
   refine BA (J8 C e _ h.1) (kM C es _ h.2) pins s σ H D I ⟨m,ρ,st,rf,rh,jB C.mono e ?_ w⟩;exact⟨fun ρ1 st1 k m1 H1 σ1 e1 r1 f1=>⟨m1,ρ1,st1,f1,r1,aU C.mono es (AE.ext e1) k⟩,fun _ _ q=>q,fun _ _ q=>q,fun _ _ q=>q⟩
end
structure GOk (P:Program)(w:World)(K:W.Frag)(mg:Str->Option Value)(base:Heap)(c:Cfg)(Γ:Nat->FSp):Prop where
 fn:∀f x,f<c.lim->c.fns[f]?=some x->∃ps,Has P w K mg base (f+1) x ps (eC K (Γ f))
 blt:∀x∈c.blts,mg x=none
 gl:∀x v,c.gl.lookup x=some v->∃u y,mg x=some u/\RelV y u/\∀m H,R K m H v y
 mono:bD Γ
noncomputable def frame (n:Nat)(as:List PV):Fr:=as.map some++List.replicate (n-as.length) none
noncomputable def ai (st:AH)(Q:EK):a8:={ nx:=fun _ st'=>Ret st Q .non st',rt:=Ret st Q }
theorem jN (rh:RH K m H st)(q:Ret st (post K m H Q) v st'):post K m H Q v st':=by
 rcases q with q|q
 ·exact q
 ·intro m' H' x e r s;obtain⟨st1,q,e2,r3,r4⟩:=qH rh e r s q;exact q m H' x e2 r3 r4
theorem sj {N:List Str}(r:Rs K m H as vs):RF K m H (frame N.length as) (L2.start N vs):=by
 have hl:=r.len;refine⟨by simp[frame,L2.start,hl],fun i v e=>?_⟩;unfold frame at e;unfold L2.start;by_cases hi:i<as.length
 ·rw[K9 (by simpa using hi),K2] at e;cases q:as[i]? with
  | none=>rw[q] at e;cases e
  | some a =>rw[q] at e;cases e;obtain⟨y,e1,r1⟩:=r.get q;exact⟨y,by rw[K9 (by simp;omega),K2,e1];rfl,r1⟩
 ·rw[LH (by simpa using hi),List.getElem?_replicate] at e;split at e <;> cases e
theorem AM {P:Program}{w:World}{K:W.Frag}{mg:Str->Option Value}{base:Heap}{x:Str}{st:Stmt}{N ps:List Str}(S:aq N ps (af st)){f:Addr}{cdv:Value}{A:Around}{outer:List Env}{s:Shared}{H:Hp}{E:XK}
  (hN:c.N=N) (hn:c.names=(af st).names) (hr:Room c.lim (A.deeper (envOfC x (af st) s.heap.objs.size f cdv))) (G:GOk P w K mg base c Γ)
  (lam:c.pc=true->∀ {pins:List (Addr × Obj)}{σ:L2.St}{H2:Hp}{s2:Shared}{b:Addr}{u:Value}{v:V}{Q:VK},L2.Inv (jZ CX0 P w K mg base N x (af st) f cdv A outer s H E).nox pins σ H2 s2->RelV v u->eC K (Γ 1000) [.ref b,v] H2 Q E0 ->
   W.FnAt b s2.heap/\wpAny (model P w) (jZ CX0 P w K mg base N x (af st) f cdv A outer s H E).nox.A (call (.ref b) [u]) (EP (jZ CX0 P w K mg base N x (af st) f cdv A outer s H E).nox pins σ Q) (jZ CX0 P w K mg base N x (af st) f cdv A outer s H E).nox.xe s2)
  (hmo:∀k,c.hm=some k->HmX (jZ CX0 P w K mg base N x (af st) f cdv A outer s H E).nox k) :
  COk (jZ CX0 P w K mg base N x (af st) f cdv A outer s H E).nox c Γ where
 calm:=rfl
 pass:=PassesOwn.never
 N:=hN.symm
 nd:=by rw[hN];exact S.nd
 vis:=fun y h=>by rw[hn] at h;exact h
 loc:=fun y h=>by rw[hn] at h;exact⟨h,.inl rfl⟩
 lcl:=fun y h=>by rw[hn] at h;exact h
 glb:=fun y h=>by rw[hn] at h;exact h
 bk:=by show Env.blockKind (envOfC x (af st) s.heap.objs.size f cdv)=_;unfold Env.blockKind;show (if (af st).kind.isAnnotationScope=true then _ else (af st).kind)=_;rw[S.kind];rfl
 cel:=fun y h=>by rw[hn] at h;exact h
 room:=hr
 fn:=G.fn
 blt:=G.blt
 gl:=G.gl
 mono:=G.mono
 lam:=lam
 hmo:=hmo
theorem GP {code:Ss}(F:At K mg x st ps)(S:aq N ps (af st))(hN:c.N=N)(hn:c.names=(af st).names)(hc:aJ c code (ah st)=true)(G:GOk P w K mg base c Γ)(len:∀as st Q,sp as st Q->as.length=ps.length)(h:∀as st Q,sp as st Q->aD Γ code (frame N.length as) st (ai st Q))(hpc:c.pc=false:=by rfl)(hhm:c.hm=none:=by rfl):Has P w K mg base (c.lim+1) x ps (eC K sp):=by
 refine F.ok S (fun vs H Q E ⟨m,st,as,r1,r2,q⟩=>by rw[<-r1.len];exact len as st _ q) fun f cdv A outer s H vs Q E hr ⟨m,st',as,r1,r2,q⟩=>?_;have C:=AM (E:=E) (H:=H) (outer:=outer) (Γ:=Γ) S hN hn hr G (fun z=>by rw[hpc] at z;cases z) fun k z=>by rw[hhm] at z;cases z
 refine⟨_,kM C code _ hc,m,frame N.length as,st',sj r1,r2,aU G.mono code ?_ (h as st' _ q)⟩;exact⟨fun ρ st2 k m' H' σ' e r f=>jN r2 k m' H' .non e r (R_non.mpr rfl),fun v st2 k=>jN r2 k,fun _ _ k=>k.elim,fun _ _ k=>k.elim⟩
end
end FW
namespace FW
open L2 HX
section
variable {P:Program}{w:World}{K:W.Frag}{mg:Str->Option Value}{base:Heap}{c c':Cfg}{Γ:Nat->FSp}
theorem GOk.next (G:GOk P w K mg base c Γ)(h1:c'.fns=c.fns)(h2:c'.lim=c.lim+1)(h3:c'.blts=c.blts)(h4:c'.gl=c.gl){x:Str}{ps:List Str}(hx:c.fns[c.lim]?=some x)(H:Has P w K mg base (c.lim+1) x ps (eC K (Γ c.lim))):GOk P w K mg base c' Γ where
 fn:=fun f y hf e=>by
  rw[h1] at e;rw[h2] at hf;by_cases hl:f<c.lim
  ·exact G.fn f y hl e
  ·have:f=c.lim:=by omega
   subst this;rw[hx] at e;cases e;exact⟨ps,H⟩
 blt:=by rw[h3];exact G.blt
 gl:=by rw[h4];exact G.gl
 mono:=G.mono
theorem DT {qual:Str}{code:Ss}(F:Fun K x x st f fd)(S:aq N ps (af st))(hN:c.N=N)(hn:c.names=(af st).names)(hc:aJ c code (ah st)=true)(G:GOk P w K mg base c Γ)(len:∀as st Q,sp as st Q->as.length=ps.length)(h:∀as st Q,sp as st Q->aD Γ code (frame N.length as) st (ai st Q))(hpc:c.pc=false:=by rfl)(hhm:c.hm=none:=by rfl):oo P w K mg base CX0 (c.lim+1) f fd ps (eC K sp):=by
 refine F.ok S (fun vs H Q E ⟨m,st,as,r1,r2,q⟩=>by rw[<-r1.len];exact len as st _ q) fun cdv A outer s H vs Q E hr ⟨m,st',as,r1,r2,q⟩=>?_;have C:=AM (E:=E) (H:=H) (outer:=outer) (Γ:=Γ) S hN hn hr G (fun z=>by rw[hpc] at z;cases z) fun k z=>by rw[hhm] at z;cases z
 refine⟨_,kM C code _ hc,m,frame N.length as,st',sj r1,r2,aU G.mono code ?_ (h as st' _ q)⟩;exact⟨fun ρ st2 k m' H' σ' e r f=>jN r2 k m' H' .non e r (R_non.mpr rfl),fun v st2 k=>jN r2 k,fun _ _ k=>k.elim,fun _ _ k=>k.elim⟩
end
def iD:FSp:=fun as st Q=>∃ns:List Int,as=[.rdl (ns.map PV.int)]/\ns.length<=63/\∀st',Q (.bl true) st'
theorem wA:∀ {ns:List Int},Rs K m H (ns.map PV.int) (ns.map V.int)
 | []=>by rw[L6,L6,Rs_nil]
 | n::ns=>by rw[KO,KO,Rs_cons',R_int];exact⟨rfl,wA⟩
structure F_ (K:W.Frag)(h:Heap):Prop where
 at_:∀x∈bg,∀c T,W.tabIn K x=some (c,T)->W.CodeHd h c T/\h.get? T=some (W.tabObj #[])
structure Dw (K:W.Frag):Prop where
 sys:K.lookup sysModules=none
 at_:∀x∈bg,∀c T,W.tabIn K x=some (c,T)->K.lookup T=none/\∀y∈bg,∀d,W.tabIn K y=some (d,T)->y=x
structure lX (K:W.Frag)(mg:Str->Option Value)(base:Heap):Prop where
 hd:∀x∈bg,∀c T,W.tabIn K x=some (c,T)->W.CodeHd base c T
 bm:∃bm ob,mg "__builtins__"=some (.ref bm)/\bm≠builtinsNs/\base.get? bm=some ob/\ob.cls=.type "module"/\ob.dict=some builtinsNs/\ob.data=.plain
theorem Bc {ns:List Int}(hl:ns.length<=63)(hO:∀ys,H a≠some (.lst ys))(hS:SqL K H a (ns.map V.int))(tb:TB K H):eC K iD [.ref a] H (fun v _=>v=.bl true) fun _ _ _=>False:=by
 have hF:RdF K H a (ns.map V.int):=by
  rcases hS with (h|h)|h
  ·exact absurd h (hO _)
  ·exact .inl h
  ·exact .inr h
 refine⟨[],[],[.rdl (ns.map PV.int)],?_,⟨rfl,OM,fun n c a h=>by simp at h,tb⟩,ns,rfl,hl,fun st' m' H' x e r s=>R_bl.mp s⟩;rw[Rs_cons',Rs_nil,R_rdl];exact⟨⟨a,_,rfl,hF,wA⟩,rfl⟩
def mY (K:W.Frag)(b:Addr):Prop:=∃x∈bg,∃c,W.tabIn K x=some (c,b)
open Classical in
noncomputable def eh (K:W.Frag)(a:Addr)(so:Obj)(scr:Option HO):Hp:=fun b=>if b=a then scr else if mY K b then some (.tbl #[]) else if b=sysModules then some (.frz so (.own 0)) else none
theorem yu {K:W.Frag}{x:Str}{s₁:Shared}{vs:List Value}(KX:K.In s₁.heap)(hns:s₁.heap.Ns mainGlobals mg)(hb:s₁.heap.Ns builtinsNs mb)(hbb:∀x:Str,x≠"__name__"->mb x=bootBuiltins x)(hlim:s₁.heap.NoLimit)(hg:s₁.gens=#[])(hsys:∃so es ep,s₁.heap.get? sysModules=some so/\so.data=.dict es ep)(LT:F_ K s₁.heap)(LK:Dw K)(hbm:∃bm ob,mg "__builtins__"=some (.ref bm)/\bm≠builtinsNs/\s₁.heap.get? bm=some ob/\ob.cls=.type "module"/\ob.dict=some builtinsNs/\ob.data=.plain)(ha:s₁.heap.get? a=some { cls:=.type "list",data:=.seq vs.toArray })(hi:IntsAre vs ns)(hl:ns.length<=63)(hr:Room k callerA)(F:∀base:Heap,K.In base->base.Ns mainGlobals mg->lX K mg base->oo P w K mg base CX0 k fa fd [x] (eC K iD))(hbind:∀(s:Shared) (u:Value),BindsTo s fd ⟨[u],[]⟩ [(x,u)]) :
  codeAny (model P w) callerA (.call (.ref fa) ⟨[.ref a],[]⟩) (fun r s'=>r=.ok (.ret (.bool true))/\OldK s₁.heap s'.heap/\s'.os=s₁.os/\AllBare s'.gens) s₁:=by
 have rv:=pJ hi;have lenV:=hi.length;have hl2:ns.length<=sizeLine:=K_ hl (by decide);have tabAt:∀ {b:Addr},mY K b->s₁.heap.get? b=some (W.tabObj #[]):=fun ⟨x,hx,c,e⟩=>(LT.at_ x hx c _ e).2;obtain⟨so,ses,sep,hso0,hsod⟩:=hsys;have naT:¬mY K a:=fun z=>by have e:=tabAt z;rw[ha] at e;cases e
 have core:∀scr:Option HO,(∀ys,scr≠some (.lst ys))->SqL K (eh K a so scr) a (ns.map V.int)->(∀u,scr=some u->(∃o xs,u=.frz o (.lst xs))/\ObjOk P w (eh K a so scr) s₁.heap a u)->(scr≠none->K.lookup a=none) ->
   codeAny (model P w) callerA (.call (.ref fa) ⟨[.ref a],[]⟩) (fun r s'=>r=.ok (.ret (.bool true))/\OldK s₁.heap s'.heap/\s'.os=s₁.os/\AllBare s'.gens) s₁:=by
  intro scr hscr hS hso hK;have atA:eh K a so scr a=scr:=K1 rfl;have atT:∀ {b:Addr},mY K b->eh K a so scr b=some (.tbl #[]):=fun {b} z=>by have:b≠a:=fun q=>naT (q ▸ z);exact(KW this).trans (K1 z)
  have nsA:sysModules≠a:=fun z=>by rw[z,ha] at hso0;cases hso0;cases hsod
  have nsT:¬mY K sysModules:=fun z=>by have e:=tabAt z;rw[hso0] at e;cases e;cases hsod
  have atS:eh K a so scr sysModules=some (.frz so (.own 0)):=(KW nsA).trans ((KW nsT).trans (K1 rfl));have cs:∀b,eh K a so scr b≠none->(b=a/\scr≠none)\/mY K b\/b=sysModules:=fun b z=>by
   by_cases h1:b=a
   ·exact .inl ⟨h1,by rw[h1,atA] at z;exact z⟩
   ·by_cases h2:mY K b
    ·exact .inr (.inl h2)
    ·by_cases h3:b=sysModules
     ·exact .inr (.inr h3)
     ·exact absurd ((KW h1).trans ((KW h2).trans (KW h3))) z
  have hok:HOk P w (eh K a so scr) s₁.heap:=fun b u e=>by
   rcases cs b (by rw[e];simp) with⟨rfl,z⟩|z|rfl
   ·rw[atA] at e;exact(hso u e).2
   ·rw[atT z] at e;cases e;exact tabAt z
   ·rw[atS] at e;cases e;exact⟨hso0,_,hso0⟩
  have base_of:∀ {b:Addr}{o:Obj},s₁.heap.get? b=some o->eh K a so scr b=none->(oD s₁.heap (eh K a so scr)).get? b=some o:=fun e n=>Ac e n;have noD:∀ {b:Addr}{o:Obj},s₁.heap.get? b=some o->(∀its n,o.data≠.seq its n)->(∀qs,o.data≠.fields qs)->b≠sysModules->eh K a so scr b=none:=fun {b o} e n1 n2 n3=>by
   cases q:eh K a so scr b with
   | none=>rfl
   | some u =>
    rcases cs b (by rw[q];simp) with⟨rfl,_⟩|z|z
    ·rw[ha] at e;cases e;exact absurd rfl (n1 _ _)
    ·rw[tabAt z] at e;cases e;exact absurd rfl (n2 _)
    ·exact absurd z n3
  have nsK:∀ {b:Addr}{m:Str->Option Value},b≠sysModules->s₁.heap.Ns b m->(oD s₁.heap (eh K a so scr)).Ns b m:=fun {b m} nb ⟨o,es,ep,e,d,r⟩=>⟨o,es,ep,base_of e (noD e (fun _ _ z=>by rw[d] at z;cases z) (fun _ z=>by rw[d] at z;cases z) nb),d,r⟩;have hKn:∀ {b:Addr}{o:Obj},K.lookup b=some o->eh K a so scr b=none:=fun {b o} e=>by
   cases q:eh K a so scr b with
   | none=>rfl
   | some u =>
    rcases cs b (by rw[q];simp) with⟨rfl,z⟩|⟨x,hx,c,z⟩|rfl
    ·rw[hK z] at e;cases e
    ·rw[(LK.at_ x hx c _ z).1] at e;cases e
    ·rw[LK.sys] at e;cases e
  have hKb:K.In (oD s₁.heap (eh K a so scr)):=fun b o e=>base_of (KX b o e) (hKn e);have hM:Mod K mg (oD s₁.heap (eh K a so scr)):=⟨hKb,nsK (by decide) hns,⟨mb,nsK (by decide) hb,hbb⟩,let ⟨mc,h1,h2⟩:=hlim;⟨mc,nsK (by decide) h1,h2⟩⟩;have e0:yG P w K mg (oD s₁.heap (eh K a so scr)) callerA [] s₁ (eh K a so scr):=⟨rfl,hM,fun b o e=>C1 e,OT (x9 _ _),trivial,fun b hb=>absurd (show b∈([]:List Addr) from hb) (by simp),hok,.of_eq hg⟩;have hB:lX K mg (oD s₁.heap (eh K a so scr)):=by
   refine⟨fun x hx c T e=>?_,?_⟩
   ·obtain⟨o,vs',file,tf,flags,tg,inF,text,tt,q,r⟩:=(LT.at_ x hx c T e).1;have kc:∃oc,K.lookup c=some oc:=by
     have e':=e;unfold W.tabIn at e';split at e'
     ·split at e'
      ·split at e'
       ·split at e'
        ·rename_i hh;split at e'
         ·cases e';exact⟨_,hh⟩
         ·cases e'
        ·cases e'
       ·cases e'
      ·cases e'
     ·cases e'
    obtain⟨oc,kc⟩:=kc;exact⟨o,vs',file,tf,flags,tg,inF,text,tt,base_of q (hKn kc),r⟩
   ·obtain⟨bm,ob,b1,b2,b3,b4,b5,b6⟩:=hbm;exact⟨bm,ob,b1,b2,base_of b3 (noD b3 (fun _ _ z=>by rw[b6] at z;cases z) (fun _ z=>by rw[b6] at z;cases z) fun z=>by rw[z,hso0] at b3;cases b3;rw[hsod] at b6;cases b6),b4,b5,b6⟩
  have tb:TB K (eh K a so scr):=⟨fun x hx c T e=>⟨(LK.at_ x hx c T e).2,#[],atT ⟨x,hx,c,e⟩,trivial,fun pos cv q=>by cases q⟩,so,atS⟩;refine codeAny_mono ((F _ hKb (nsK (by decide) hns) hB).run callerA [] s₁ (eh K a so scr) ⟨[.ref a],[]⟩ [.ref a] [.ref a] _ _ hr e0 (hbind s₁ (.ref a)) (.cons rfl .nil) (Bc hl (by rw[atA];exact hscr) hS tb)) fun r s' h=>?_;cases r with
  | error e=>exact False.elim h
  | ok fl =>
   cases fl with
   | next=>exact False.elim h
   | brk=>exact False.elim h
   | cont=>exact False.elim h
   | ret u =>
    obtain⟨v,H',os,bare,un,hok',r',q⟩:=h;have q':v=.bl true:=q;subst q';obtain rfl:u=Value.bool true:=r';refine⟨rfl,⟨fun b o e=>?_,fun b o e=>un.there b o e (by simp)⟩,os,bare⟩;cases q:eh K a so scr b with
    | none=>exact .inl (un.keep b o e q (by intro z;exact absurd (show b∈([]:List Addr) from z) (by simp)) (by simp))
    | some u =>
     rcases cs b (by rw[q];simp) with⟨rfl,z⟩|z|rfl
     ·rw[atA] at q;obtain⟨⟨ob,xs,rfl⟩,_⟩:=hso u q;have z1:eh K b so scr b=some (.frz ob (.lst xs)):=by rw[atA];exact q
      have z2:=un.frzs b ob _ z1;obtain⟨e1,_⟩:=hok b _ z1;obtain⟨e2,_⟩:=hok' b _ z2;rw[e] at e1;cases e1;exact .inl e2
     ·obtain⟨more,z2⟩:=un.tbls b _ (atT z);have e1:=tabAt z;rw[e] at e1;cases e1;have e2:s'.heap.get? b=some { cls:=.none,data:=.fields (#[]++more) }:=hok' b _ z2;obtain⟨x,hx,c,et⟩:=z;have ht0:=(LT.at_ x hx c b et);exact .inr (.inl ⟨(ht0.1.tab ht0.2).isCodeTable,rfl,#[],more,rfl,e2⟩)
     ·have z2:=un.frzs _ _ _ atS;obtain⟨e2,_⟩:=hok' _ _ z2;rw[e] at hso0;cases hso0;exact .inl e2
 cases hk:K.lookup a with
 | some o =>have e:=KX a o hk;rw[ha] at e;cases e;refine core none (fun _ z=>nomatch z) (.inr ⟨_,vs.toArray,_,hk,rfl,rfl,rfl,by rw[K3,lenV];exact hl2,by simpa using rv⟩) (fun u z=>nomatch z) fun z=>absurd rfl z
 | none =>refine core (some (.frz { cls:=.type "list",data:=.seq vs.toArray } (.lst (ns.map V.int)))) (fun _ z=>nomatch z) (.inl (.inr ⟨{ cls:=.type "list",data:=.seq vs.toArray },K1 rfl⟩)) (fun u z=>?_) fun _=>hk;cases z;exact⟨⟨_,_,rfl⟩,ha,by rw[LA];exact hl2,vs,_,rv,ha⟩
theorem walkF {l:W.OpenLaw}{YP:World->Heap->Prop}{d:DefRec}{K:Params->W.Frag}{x:Str}(hi:importsNone q=true)(hn:l.most=some 63)(hdf:d.params.defaults=[])(hr:Room k callerA)(hY:∀(w:World) (h:Heap),YP w h->(K w.params).In h)(F:∀(w:World) (mg:Str->Option Value) (fa:Addr) (h:Heap),(K w.params).In h->h.Ns mainGlobals mg->mg d.name=some (.ref fa) ->
   ∃fd:FuncData,(∀(s:Shared) (u:Value),BindsTo s fd ⟨[u],[]⟩ [(x,u)])/\Dw (K w.params)/\(∀x∈bg,W.tabIn (K w.params) x=none\/∃d,(recsOf q).find? (fun e=>e.name == x)=some d)/\∀base:Heap,(K w.params).In base->base.Ns mainGlobals mg->lX (K w.params) mg base->oo l.prog w (K w.params) mg base CX0 k fa fd [x] (eC (K w.params) iD)) :
  W.WalkO q loose XP YP l.row.toRowW d [] (fun f vs=>PySem.call f vs):=by
 refine Att.attach_call hn hdf fun w s₀ s₁ mg mb fa o pm cd doc a vs ns G Y ho hd hcd hmg hobj hints hlen hg=>?_;have KX:=hY w _ Y;obtain⟨fd,hb,hK,hq,hF⟩:=F w mg fa _ KX G.T.g hmg;obtain⟨mm,⟨so,es,ep,e1,e2,_⟩,_⟩:=(G.T.seer hi).mods;refine yu KX G.T.g G.T.b G.T.builtins G.T.nolimit hg ⟨so,es,ep,e1,e2⟩ ⟨fun x hx c T e=>?_⟩ hK G.T.bmain hobj hints hlen hr hF hb;rcases hq x hx with z|⟨d,r⟩
 ·rw[z] at e;cases e
 ·exact W.tab_of G.T KX r e
theorem Sub.refl (st:AH):Sub st st:=fun i _=>.inl rfl
theorem Sub.set {c:Cell}(h:Sub st st')(hc:c.bel 0=true):Sub st (st'.set n c):=fun i hi=>by
 by_cases e:n=i
 ·subst e;by_cases hl:n<st'.length
  ·exact .inr ⟨c,KR hl,hc⟩
  ·rw[List.set_eq_of_length_le (by omega)];exact h n hi
 ·rw[KU e];exact h i hi
theorem Tmp.same {st:AH}{Q:EK}{v:PV}(h:v.bel st.length=true)(q:Q v st):Tmp st Q v st:=⟨st,[],by simp,rfl,Sub.refl st,h,q⟩
theorem Tmp.app {st g:AH}{Q:EK}{v:PV}(h:v.bel st.length=true)(q:Q v st):Tmp st Q v (st++g):=⟨st,g,rfl,rfl,Sub.refl st,h,q⟩
theorem Ret.all {Q:EK}(q:Q v st'):Ret st Q v st':=.inl q
theorem ar1 {P:List Value->Prop}(h:∀a,P [a])(us:List Value)(hl:us.length=1):P us:=by
 match us,hl with
 | [a],_=>exact h a
theorem ar2 {P:List Value->Prop}(h:∀a b,P [a,b])(us:List Value)(hl:us.length=2):P us:=by
 match us,hl with
 | [a,b],_=>exact h a b
theorem ar3 {P:List Value->Prop}(h:∀a b c,P [a,b,c])(us:List Value)(hl:us.length=3):P us:=by
 match us,hl with
 | [a,b,c],_=>exact h a b c
theorem ar4 {P:List Value->Prop}(h:∀a b c d,P [a,b,c,d])(us:List Value)(hl:us.length=4):P us:=by
 match us,hl with
 | [a,b,c,d],_=>exact h a b c d
theorem ar5 {P:List Value->Prop}(h:∀a b c d e,P [a,b,c,d,e])(us:List Value)(hl:us.length=5):P us:=by
 match us,hl with
 | [a,b,c,d,e],_=>exact h a b c d e
abbrev DI (K:W.Frag)(x:Str)(st:Stmt):Prop:=∃(f:Addr) (oc:Value) (od:Option Addr) (kV dc pm:Value) (an:Option Addr) (cd ct:Value) (sl:Array (Option Value)),W.nsIn K mainGlobals x=some (some (.ref f))/\K.lookup f=some ⟨oc,od,.func (W.fnOf x x (c_ st) (ah st) (af st) .none kV dc pm an cd ct),sl⟩/\W.codeIn K cd x=true/\W.keepIn K (.ref f)=true
theorem DI_mk {st:Stmt}{kV dc pm:Value}{an:Option Addr}{cd ct:Value}(a:W.nsIn K mainGlobals x=some (some (.ref f)))(l:K.lookup f=some ⟨oc,od,.func (W.fnOf x x (c_ st) (ah st) (af st) .none kV dc pm an cd ct),sl⟩)(c:W.codeIn K cd x=true)(k:W.keepIn K (.ref f)=true):DI K x st:=⟨f,oc,od,kV,dc,pm,an,cd,ct,sl,a,l,c,k⟩
theorem GOk.nx {Γ:Nat->FSp}{c':Cfg}{code:Ss}(G:GOk P w K mg base c Γ)(X:K.In h)(Gn:h.Ns mainGlobals mg)(d:DI K x st)(S:aq N ps (af st))(hc:aJ c code (ah st)=true)(len:∀ {as st Q},sp as st Q->as.length=ps.length)(hw:∀ {as st Q},sp as st Q->aD Γ code (frame N.length as) st (ai st Q))(hb:∀(kV doc pm:Value) (an:Option Addr) (cdv ct:Value) (us:List Value),us.length=ps.length->bindArgs (W.fnOf x x (c_ st) (ah st) (af st) .none kV doc pm an cdv ct) ⟨us,[]⟩=pure (ps.zip us))(hN:c.N=N:=by rfl)(hn:c.names=(af st).names:=by rfl)(hpc:c.pc=false:=by rfl)(hhm:c.hm=none:=by rfl)(h1:c'.fns=c.fns:=by rfl)(h2:c'.lim=c.lim+1:=by rfl)(h3:c'.blts=c.blts:=by rfl)(h4:c'.gl=c.gl:=by rfl)(hx:c.fns[c.lim]?=some x:=by rfl)(hs:Γ c.lim=sp:=by rfl):GOk P w K mg base c' Γ:=by
 obtain⟨f,oc,od,kV,dc,pm,an,cd,ct,sl,a,l,cc,k⟩:=d;subst hs;exact G.next h1 h2 h3 h4 hx (GP (At.mk' X Gn hb a l cc k) S hN hn hc G (fun _ _ _=>len) (fun _ _ _=>hw) hpc hhm)
end FW
namespace FW
open L2 HX
section
variable {P:Program}{w:World}{K:W.Frag}{mg:Str->Option Value}{base:Heap}{c:Cfg}{Γ:Nat->FSp}
theorem vO (z:W.nsIn K mainGlobals x=some none):W.tabIn K x=none:=by unfold W.tabIn;rw[z]
theorem DN (hs:K.lookup sysModules=none)(h:∀x∈bg,W.tabIn K x=none\/∃c T,W.tabIn K x=some (c,T)/\K.lookup T=none/\∀y∈bg,y≠x->∀d,W.tabIn K y≠some (d,T)):Dw K:=⟨hs,fun x hx c T e=>by
 rcases h x hx with z|⟨c',T',z,n,u⟩
 ·rw[z] at e;cases e
 ·rw[z] at e;cases e;exact⟨n,fun y hy d ed=>Classical.byContradiction fun q=>u y hy q d ed⟩⟩
end
end FW
namespace FW
open L2 HX
section
variable {Γ:Nat->FSp}{ρ:Fr}{st:AH}{Q:EK}{D:a8}{a b c:E}{es:Es}
noncomputable def aft (Γ:Nat->FSp)(ss:Ss)(D:a8):a8:={ D with nx:=fun ρ' st'=>aD Γ ss ρ' st' D }
noncomputable def LD (I:Fr->AH->Prop)(D:a8):a8:={ nx:=I,ct:=I,bk:=D.nx,rt:=D.rt }
def Hg (Γ:Nat->FSp)(t:Tg)(b:Ss)(chk:AH->Prop)(D:a8)(xs:List PV)(ρ:Fr)(st:AH):Prop:=lO chk (fun x ρ' st' D'=>b7 Γ t x ρ' st' fun ρ2 st2=>aD Γ b ρ2 st2 D') D xs ρ st
def Jj (Γ:Nat->FSp)(c:E)(b:Ss)(D:a8)(ρ:Fr)(st:AH):Prop:=∃n,eK (wpT Γ c) (aD Γ b) D n ρ st
def t_ (Γ:Nat->FSp)(elt:E)(tg:Tg)(ifs:Es)(chk:AH->Prop)(ρ:Fr)(xs:List PV)(st:AH)(Q:LK):Prop :=
 cQ chk (fun x st2 k=>b7 Γ tg x ρ st2 fun ρ' st3=>gh Γ ifs ρ' st3 fun c st4=>if c=true then wpE Γ elt ρ' st4 fun v st5=>k (some v) st5 else k none st4) xs [] st Q
theorem BG:(aft Γ ss D).nx ρ st=aD Γ ss ρ st D:=rfl
theorem zK:(aft Γ ss D).rt v st=D.rt v st:=rfl
theorem zC:(aft Γ ss D).bk ρ st=D.bk ρ st:=rfl
theorem AN:(aft Γ ss D).ct ρ st=D.ct ρ st:=rfl
theorem xi:(aft Γ ss D).rt=D.rt:=rfl
theorem EU:(LD I D).nx ρ st=I ρ st:=rfl
theorem Eg:(LD I D).ct ρ st=I ρ st:=rfl
theorem FI:(LD I D).bk ρ st=D.nx ρ st:=rfl
theorem Ep:(LD I D).rt v st=D.rt v st:=rfl
theorem Cy:(LD I D).rt=D.rt:=rfl
theorem Fk:(ai st0 Q).nx ρ st=Ret st0 Q .non st:=rfl
theorem EH:(ai st0 Q).rt v st=Ret st0 Q v st:=rfl
theorem Am:(ai st0 Q).rt=Ret st0 Q:=rfl
theorem xj:aD Γ (.cons s (.cons s2 ss)) ρ st D=wpS Γ s ρ st (aft Γ (.cons s2 ss) D):=rfl
theorem wV:wpS Γ (.whileS c x) ρ st D=Jj Γ c x D ρ st:=rfl
theorem Ea:wpS Γ (.forS t it x) ρ st D=jM Γ it ρ st fun xs chk st1=>Hg Γ t x chk D xs ρ st1:=rfl
theorem BH {nt:List Str}{caps:List Nat}:wpE Γ (.comp a tg it ifs nt caps) ρ st Q=jM Γ it ρ st fun xs chk st1 =>
  xs.length<100000/\t_ Γ a tg ifs chk (nt.map (fun _=>none)++caps.map fun i=>(ρ[i]?).join) xs st1 fun vs st2=>Q (.ref st2.length) (st2++[.lst vs]):=rfl
theorem w9 {nt:List Str}{caps:List Nat}:wpE Γ (.compO a tg e ifs nt caps) ρ st Q=wpE Γ e ρ st fun x st1=>∃n,x=.ref n /\
  ((∃kvs,st1[n]?=some (.dk kvs)/\kvs.length<100000/\t_ Γ a tg ifs (fun _=>True) (nt.map (fun _=>none)++caps.map fun i=>(ρ[i]?).join) (bF .items kvs) (st1.set n (.fz kvs)) fun vs st2=>st2[n]?=some (.fz kvs)/\Q (.ref st2.length) (st2.set n (.dk kvs)++[.lst vs])) \/
  ∃kvs,st1[n]?=some (.od kvs)/\kvs.length<100000/\t_ Γ a tg ifs (fun _=>True) (nt.map (fun _=>none)++caps.map fun i=>(ρ[i]?).join) (bB kvs) st1 fun vs st2=>Q (.ref st2.length) (st2++[.lst vs])):=rfl
theorem Bb:wpS Γ (.forK t wk e x) ρ st D=wpE Γ e ρ st fun v st1=>∃n,v=.ref n/\∃kvs,st1[n]?=some (.dk kvs)/\Hg Γ t x (fun _=>True) (fzD n kvs D) (bF wk kvs) ρ (st1.set n (.fz kvs)):=rfl
theorem BF:(fzD n kvs D).nx ρ st=(st[n]?=some (.fz kvs)/\D.nx ρ (st.set n (.dk kvs))):=rfl
theorem iU (G:bD Γ){t:Tg}{b:Ss}{chk:AH->Prop}{D:a8}(I:Nat->Fr->AH->Prop){xs:List PV}{ρ:Fr}{st:AH}(h0:I 0 ρ st)
  (hs:∀i x ρ st,xs[i]?=some x->I i ρ st->chk st/\b7 Γ t x ρ st (fun ρ2 st2=>aD Γ b ρ2 st2 (LD (I (i+1)) D)))
  (hd:∀ρ st,I xs.length ρ st->chk st/\D.nx ρ st):Hg Γ t b chk D xs ρ st:=by
 have key:∀(k i:Nat) (ρ:Fr) (st:AH),i+k=xs.length->I i ρ st->lO chk (fun x ρ' st' D'=>b7 Γ t x ρ' st' fun ρ2 st2=>aD Γ b ρ2 st2 D') D (xs.drop i) ρ st:=by
  intro k
  induction k with
  | zero =>
   intro i ρ st hi h;have:i=xs.length:=by omega
   subst this;rw[List.drop_length];exact hd ρ st h
  | succ k ih =>
   intro i ρ st hi h;have hlt:i<xs.length:=by omega
   rw[MU hlt];obtain⟨h1,h2⟩:=hs i xs[i] ρ st (by simp[hlt]) h;refine⟨h1,aO G t (fun ρ2 st2 k2=>aU G b ?_ k2) h2⟩;exact⟨fun ρ3 st3 z=>ih (i+1) ρ3 st3 (by omega) z,fun _ _ z=>z,fun _ _ z=>z,fun ρ3 st3 z=>ih (i+1) ρ3 st3 (by omega) z⟩
 have:=key xs.length 0 ρ st (by omega) h0
 rwa [ON] at this
theorem ib {c:Fr->AH->BK->Prop}{body:Fr->AH->a8->Prop}{D:a8}(hc:∀ρ st Q Q',(∀b st,Q b st->Q' b st)->c ρ st Q->c ρ st Q')(hb:∀ρ st D D',jG D D'->body ρ st D->body ρ st D') :
  ∀ {n k:Nat}{ρ:Fr}{st:AH},n<=k->eK c body D n ρ st->eK c body D k ρ st
 | 0,k,ρ,st,_,h=>h.elim
 | n+1,0,ρ,st,hk,h=>absurd hk (by omega)
 | n+1,k+1,ρ,st,hk,h=>by
  refine hc _ _ _ _ (fun b st1 z=>?_) h;cases b with
  | false=>exact z
  | true =>
   rw[K1 rfl] at z |-
   refine hb _ _ _ _ ?_ z;exact⟨fun _ _ z=>ib hc hb (by omega) z,fun _ _ z=>z,fun _ _ z=>z,fun _ _ z=>ib hc hb (by omega) z⟩
theorem tu (G:bD Γ){c:E}{b:Ss}{D:a8}(I:Nat->Fr->AH->Prop){n:Nat}{ρ:Fr}{st:AH}(h0:I n ρ st)
  (hs:∀n ρ st,I n ρ st->wpT Γ c ρ st (fun k st1=>if k=true then aD Γ b ρ st1 (LD (fun ρ' st'=>∃m,m<n/\I m ρ' st') D) else D.nx ρ st1)):Jj Γ c b D ρ st:=by
 have hc:∀ρ st Q Q',(∀b st,Q b st->Q' b st)->wpT Γ c ρ st Q->wpT Γ c ρ st Q':=fun _ _ _ _ hk z=>aY G c hk z;have hb:∀ρ st D D',jG D D'->aD Γ b ρ st D->aD Γ b ρ st D':=fun _ _ _ _ hk z=>aU G b hk z;have key:∀(k n:Nat),n<k->∀(ρ:Fr) (st:AH),I n ρ st->eK (wpT Γ c) (aD Γ b) D (n+1) ρ st:=by
  intro k
  induction k with
  | zero=>intro n hn;exact absurd hn (by omega)
  | succ k ih =>
   intro n hn ρ st h;refine hc _ _ _ _ (fun q st1 z=>?_) (hs n ρ st h);cases q with
   | false=>exact z
   | true =>
    rw[K1 rfl] at z |-
    refine hb _ _ _ _ ?_ z;exact⟨fun ρ' st' ⟨m,hm,z⟩=>ib hc hb (by omega) (ih m (by omega) ρ' st' z),fun _ _ z=>z,fun _ _ z=>z,fun ρ' st' ⟨m,hm,z⟩=>ib hc hb (by omega) (ih m (by omega) ρ' st' z)⟩
 exact⟨_,key (n+1) n (by omega) ρ st h0⟩
end
section
variable {Γ:Nat->FSp}
theorem cw (G:bD Γ){chk:AH->Prop}{ρ:Fr}{Q:LK}(I:Nat->List PV->AH->Prop)(h0:I 0 [] st)(hs:∀i x acc st,xs[i]?=some x->I i acc st->chk st/\b7 Γ tg x ρ st fun ρ' st3=>gh Γ ifs ρ' st3 fun c st4=>if c=true then wpE Γ elt ρ' st4 fun v st5=>I (i+1) (acc++[v]) st5 else I (i+1) acc st4)(hd:∀acc st,I xs.length acc st->chk st/\Q acc st):t_ Γ elt tg ifs chk ρ xs st Q:=by
 have key:∀(k i:Nat) (acc:List PV) (st:AH),i+k=xs.length->I i acc st->cQ chk (di Γ elt tg ifs ρ) (xs.drop i) acc st Q:=by
  intro k
  induction k with
  | zero =>
   intro i acc st hi h;have:i=xs.length:=by omega
   subst this;rw[List.drop_length];exact hd acc st h
  | succ k ih =>
   intro i acc st hi h;have hlt:i<xs.length:=by omega
   rw[MU hlt];obtain⟨h1,h2⟩:=hs i xs[i] acc st (by simp[hlt]) h;refine⟨h1,aO G tg (fun ρ2 st2 k2=>bC G ifs (fun c st4 k4=>?_) k2) h2⟩;cases c with
   | true=>rw[K1 rfl] at k4 |-;exact ae G elt (fun v st5 z=>ih (i+1) _ st5 (by omega) z) k4
   | false=>rw[KW KI] at k4 |-;simpa using ih (i+1) _ st4 (by omega) k4
 have:=key xs.length 0 [] st (by omega) h0;rw[ON] at this;exact this
theorem comp_map (G:bD Γ){chk:AH->Prop}{ρ:Fr}{xs:List PV}{Q:LK}(f:PV->PV)(hc:chk st)(hs:∀x∈xs,wpE Γ elt (ρ.set i (some x)) st fun v st'=>v=f x/\st'=st)(q:Q (xs.map f) st):t_ Γ elt (.name i) .nil chk ρ xs st Q:=by
 refine cw G (fun j acc s=>s=st/\acc=(xs.take j).map f) ⟨rfl,by simp⟩ ?_ ?_
 ·rintro j x acc s hx ⟨rfl,rfl⟩;refine⟨hc,?_⟩;simp only[fX,vT];rw[K1 trivial];refine ae G elt (fun v st5 z=>?_) (hs x (K5 hx));obtain⟨rfl,rfl⟩:=z;refine⟨rfl,?_⟩;rw[MB,hx];simp
 ·rintro acc s ⟨rfl,rfl⟩;rw[MF];exact⟨hc,q⟩
theorem a9 {f:PV->Bool}:∀ {xs:List PV},gq (xs.map fun x=>.bl (f x))=some (xs.map f)
 | []=>rfl
 | x::xs=>by simp only[List.map_cons,gq,a9 (xs:=xs),Option.map_some]
end
section
variable {st:AH}{Q:EK}{i j:Int}{n k:Nat}{xs ys:List PV}{x y v:PV}{b b':Bool}{s s':Str}{kB:Bool->Prop}{BQ:BK}
theorem Fs:i_ .Add (.int i) (.int j) st Q=Q (.int (i+j)) st:=rfl
theorem FR:i_ .Sub (.int i) (.int j) st Q=Q (.int (i-j)) st:=rfl
theorem Fm:i_ .Mult (.int i) (.int j) st Q=(CMB i j/\Q (.int (i*j)) st):=rfl
theorem Fo:i_ .FloorDiv (.int i) (.int j) st Q=(CBig j/\Q (.int (i/j)) st):=rfl
theorem FN:i_ .Mod (.int i) (.int j) st Q=(0<j/\Q (.int (i % j)) st):=rfl
theorem EY:i_ .Pow (.int i) (.int j) st Q=(A5 i j/\Q (.int (i ^ j.toNat)) st):=rfl
theorem AC:i_ .Add (.ref n) (.ref k) st Q=∃xs ys,st[n]?=some (.lst xs)/\st[k]?=some (.lst ys)/\xs.length+ys.length<=100000/\Q (.ref st.length) (st++[.lst (xs++ys)]):=rfl
theorem Cf {a b:Str}:i_ .Add (.str a) (.str b) st Q=(a.length+b.length<=100000/\Q (.str (a++b)) st):=rfl
theorem AQ:i_ .Add (.tup xs) (.tup ys) st Q=(xs.length+ys.length<=100000/\Q (.tup (xs++ys)) st):=rfl
theorem JK:fI .Eq x y st Q=eqW st x y fun k=>Q (.bl k) st:=rfl
theorem JG:fI .NotEq x y st Q=eqW st x y fun k=>Q (.bl (!k)) st:=rfl
theorem Ic:fI .Lt (.int i) (.int j) st Q=Q (.bl (decide (i<j))) st:=rfl
theorem JI:fI .Gt (.int i) (.int j) st Q=Q (.bl (decide (j<i))) st:=rfl
theorem JB:fI .GtE (.int i) (.int j) st Q=Q (.bl (decide (j<=i))) st:=rfl
theorem oP:eqW st (.int i) (.int j) kB=kB (decide (i=j)):=rfl
theorem FH:eqW st (.bl b) (.bl b') kB=kB (decide (b=b')):=rfl
theorem xE:eqW st (.str s) (.str s') kB=kB (decide (s=s')):=rfl
theorem pR:bb st (.tup xs)=some xs:=rfl
theorem oX:bb st (.rdl xs)=some xs:=rfl
theorem nv:aT st (.rdl xs)=some xs:=rfl
theorem ax (h:st[n]?=some (.lst xs)):aT st (.ref n)=some xs:=by simp[aT,h]
theorem av (h:st[n]?=some (.lst xs)):bb st (.ref n)=some xs:=by simp[bb,aT,h]
theorem pT:bc st .non=some "NoneType":=rfl
theorem rZ:bc st (.bl b)=some "bool":=rfl
theorem oY:bc st (.int i)=some "int":=rfl
theorem qc:bc st (.str s)=some "str":=rfl
theorem pI:bc st (.tup xs)=some "tuple":=rfl
theorem o_:bc st (.rdl xs)=some "list":=rfl
theorem E_ {z:Str}:ixW (.str z) (.int i) st Q=(z.length<=100000/\∃c,atI z.cps.toList i=some c/\Q (.str ⟨#[c]⟩) st):=rfl
theorem Fx:ixW (.tup xs) (.int i) st Q=∃v,atI xs i=some v/\Q v st:=propext ⟨fun ⟨ys,e,q⟩=>by cases e;exact q,fun q=>⟨xs,rfl,q⟩⟩
theorem Fb:ixW (.rdl xs) (.int i) st Q=∃v,atI xs i=some v/\Q v st:=propext ⟨fun ⟨ys,e,q⟩=>by cases e;exact q,fun q=>⟨xs,rfl,q⟩⟩
theorem Fg:ixW (.ref n) (.int i) st Q=∃xs,bb st (.ref n)=some xs/\∃v,atI xs i=some v/\Q v st:=rfl
theorem mS:atI (x::xs) 0=some x:=f6 (j:=0) rfl
theorem nD:atI (x::y::xs) 1=some y:=f6 (j:=1) rfl
theorem xb:atI (x::y::v::xs) 2=some v:=f6 (j:=2) rfl
theorem wq {u:PV}:atI (x::y::v::u::xs) 3=some u:=f6 (j:=3) rfl
theorem FF:ixW (.tup (x::xs)) (.int 0) st Q=Q x st:=propext ⟨fun ⟨ys,e,w,e2,q⟩=>by cases e;rw[mS] at e2;cases e2;exact q,fun q=>⟨_,rfl,_,mS,q⟩⟩
theorem E9:ixW (.tup (x::y::xs)) (.int 1) st Q=Q y st:=propext ⟨fun ⟨ys,e,w,e2,q⟩=>by cases e;rw[nD] at e2;cases e2;exact q,fun q=>⟨_,rfl,_,nD,q⟩⟩
theorem Ei:ixW (.tup (x::y::v::xs)) (.int 2) st Q=Q v st:=propext ⟨fun ⟨ys,e,w,e2,q⟩=>by cases e;rw[xb] at e2;cases e2;exact q,fun q=>⟨_,rfl,_,xb,q⟩⟩
theorem Fw {u:PV}:ixW (.tup (x::y::v::u::xs)) (.int 3) st Q=Q u st:=propext ⟨fun ⟨ys,e,w,e2,q⟩=>by cases e;rw[wq] at e2;cases e2;exact q,fun q=>⟨_,rfl,_,wq,q⟩⟩
theorem FA:slW (.tup xs) lo hi st Q=Q (.tup (fE xs lo hi)) st:=rfl
theorem EX:slW (.rdl xs) lo hi st Q=Q (.ref st.length) (st++[.lst (fE xs lo hi)]):=by simp[slW,aT]
theorem FB {z:Str}:slW (.str z) lo hi st Q=(z.length<=100000/\Q (.str (l7 z lo hi)) st):=rfl
theorem Ey:slW (.ref n) lo hi st Q=∃xs,aT st (.ref n)=some xs/\Q (.ref st.length) (st++[.lst (fE xs lo hi)]):=rfl
theorem zW {z:Str}:cP .len [.str z] st Q=(z.length<=100000/\Q (.int z.length) st):=rfl
theorem HZ {b:Str}:fI .In (.str a) (.str b) st Q=Q (.bl (!(Builtin.Str.occurrences b a 0 b.length 1).isEmpty)) st:=rfl
theorem Eh:smW .join (.str z) y st Q=∃ss:List Str,aT st y=some (ss.map PV.str)/\JoinOk z ss=true/\Q (.str (Txt.join z ss)) st:=rfl
theorem Ft {a b:Str}:fI .Lt (.str a) (.str b) st Q=Q (.bl (decide (a.cps.toList<b.cps.toList))) st:=rfl
theorem Iq {b:Str}:fI .NotIn (.str a) (.str b) st Q=Q (.bl (!(!(Builtin.Str.occurrences b a 0 b.length 1).isEmpty))) st:=rfl
theorem FL:fI .NotIn (.int i) (.tup xs) st Q=∃ns:List Int,xs=ns.map PV.int/\Q (.bl (!(ns.any fun j=>j == i))) st:=rfl
theorem FM:fI .In (.str a) (.ref n) st Q=inR a n st fun k=>Q (.bl k) st:=rfl
theorem ES:fI .NotIn (.str a) (.ref n) st Q=inR a n st fun k=>Q (.bl (!k)) st:=rfl
theorem Bd:ixW (.ref n) (.str z) st Q=∃kvs v,(st[n]?=some (.dk kvs)\/st[n]?=some (.fz kvs))/\fD kvs (.inr z)=some v/\Q v st:=rfl
theorem BL:qO (.ref n) (.str z) v st kS=∃kvs,st[n]?=some (.dk kvs)/\kvs.length<=1000/\kS (st.set n (.dk (ly kvs (.inr z) v))):=rfl
theorem zU:cP .len [.tup xs] st Q=Q (.int xs.length) st:=propext ⟨fun ⟨ys,e,q⟩=>by cases e;exact q,fun q=>⟨xs,rfl,q⟩⟩
theorem Cz:cP .len [.rdl xs] st Q=Q (.int xs.length) st:=propext ⟨fun ⟨ys,e,q⟩=>by cases e;exact q,fun q=>⟨xs,rfl,q⟩⟩
theorem zF:cP .len [.ref n] st Q=∃xs,bb st (.ref n)=some xs/\Q (.int xs.length) st:=rfl
theorem Eu:cP .max2 [.int i,.int j] st Q=Q (.int (if i<j then j else i)) st:=rfl
theorem ED:cP .min2 [.int i,.int j] st Q=Q (.int (if j<i then j else i)) st:=rfl
theorem sC:cP .divmod [.int i,.int j] st Q=(CBig j/\Q (.tup [.int (i/j),.int (i % j)]) st):=rfl
theorem BZ:cP .int1 [.bl b] st Q=Q (.int (b2z b)) st:=rfl
theorem Ap:cP .tuple1 [.tup xs] st Q=Q (.tup xs) st:=propext ⟨fun ⟨ys,e,q⟩=>by cases e;exact q,fun q=>⟨xs,rfl,q⟩⟩
theorem Bt:cP .tuple1 [.ref n] st Q=∃xs,bb st (.ref n)=some xs/\Q (.tup xs) st:=rfl
theorem wO:cP .list1 [.tup xs] st Q=Q (.ref st.length) (st++[.lst xs]):=propext ⟨fun ⟨ys,e,q⟩=>by cases e;exact q,fun q=>⟨xs,rfl,q⟩⟩
theorem v9:cP .list1 [.ref n] st Q=∃xs,bb st (.ref n)=some xs/\Q (.ref st.length) (st++[.lst xs]):=rfl
theorem El:cP .all1 [x] st Q=∃xs bs,aT st x=some xs/\gq xs=some bs/\Q (.bl (bs.all id)) st:=rfl
theorem E5:cP .any1 [x] st Q=∃xs bs,aT st x=some xs/\gq xs=some bs/\Q (.bl (bs.any id)) st:=rfl
theorem wa:cP .sortS [x] st Q=∃ss:List Str,aT st x=some (ss.map PV.str)/\ss.length<64/\∀ss':List Str,ss'.Perm ss->PyProof.Rows.sortedS ss'=true->Q (.ref st.length) (st++[.lst (ss'.map PV.str)]):=rfl
theorem wD:cP .sortD [.ref n] st Q=∃kvs,(st[n]?=some (.dk kvs)\/st[n]?=some (.fz kvs))/\∃ss:List Str,kvs.map (·.1)=ss.map Sum.inr/\ss.length<64/\∀ss':List Str,ss'.Perm ss->PyProof.Rows.sortedS ss'=true->Q (.ref st.length) (st++[.lst (ss'.map PV.str)]):=propext ⟨fun ⟨_,e,q⟩=>by cases e;exact q,fun q=>⟨_,rfl,q⟩⟩
theorem t5:sg .insert (.ref n) [.int i,v] st Q=∃xs,st[n]?=some (.lst xs)/\xs.length<100000/\0<=i/\i<=xs.length/\Q .non (st.set n (.lst (xs.take i.toNat++v::xs.drop i.toNat))):=rfl
theorem Em {xs:List PV}:unW .rev (.tup xs) st Q=Q (.tup xs.reverse) st:=rfl
theorem Ek:unW .ssT x st Q=∃ss:List Str,bb st x=some (ss.map PV.str)/\ss.length<60/\∀ss':List Str,PyProof.Rows.sortedS ss'=true->ss'.Nodup->(∀i,i∈ss'↔i∈ss)->ss'.length<=ss.length->Q (.ref st.length) (st++[.lst (ss'.map PV.str)]):=rfl
theorem E8:unW .isE x st Q=∃xs,aT st x=some xs/\Q (.bl xs.isEmpty) st:=rfl
theorem wz {x:PV}:cP .repr2 [x] st Q=k9 st Q x:=rfl
theorem wM {n:Nat}:cP .listD [.ref n] st Q=∃n',PV.ref n=.ref n'/\∃kvs,st[n']?=some (.dk kvs)/\kvs.length<1000/\Q (.ref st.length) (st++[.lst (kvs.map fun p=>kP p.1)]):=rfl
theorem EM:sg .append (.ref n) [v] st Q=∃xs,st[n]?=some (.lst xs)/\xs.length<100000/\Q .non (st.set n (.lst (xs++[v]))):=rfl
theorem Jo:fc (.bl b) st BQ=BQ b st:=rfl
theorem Jk:fc .non st BQ=BQ false st:=rfl
theorem Iu:fc (.int i) st BQ=BQ (i != 0) st:=rfl
theorem Ir:fc (.tup xs) st BQ=BQ (!xs.isEmpty) st:=by simp[fc,bb]
theorem Jm:fc (.ref n) st BQ=∃xs,bb st (.ref n)=some xs/\BQ (!xs.isEmpty) st:=rfl
theorem BU:qO (.ref n) (.int j) v st kS=∃xs,st[n]?=some (.lst xs)/\∃q,ixN xs.length j=some q/\kS (st.set n (.lst (xs.set q v))):=rfl
theorem Bl:n6 .Add (.int i) (.int j) st Q=Q (.int (i+j)) st:=rfl
theorem Aw:n6 .Add (.ref n) (.ref k) st Q=∃xs ys,st[n]?=some (.lst xs)/\st[k]?=some (.lst ys)/\xs.length+ys.length<=100000/\Q (.ref n) (st.set n (.lst (xs++ys))):=rfl
theorem BX:n6 .Sub (.int i) (.int j) st Q=Q (.int (i-j)) st:=rfl
end
theorem A_:((0:Nat):Int)=0:=rfl
theorem zS:((1:Nat):Int)=1:=rfl
theorem B_:((2:Nat):Int)=2:=rfl
theorem Aj:((3:Nat):Int)=3:=rfl
theorem Bn:((4:Nat):Int)=4:=rfl
theorem Cs:((5:Nat):Int)=5:=rfl
theorem B7:((6:Nat):Int)=6:=rfl
theorem ie {s g:AH}{k:Nat}:(s++g)[s.length+k]?=g[k]?:=by rw[LH (OB _ _),Nat.add_sub_cancel_left]
theorem jr {s g:AH}:(s++g)[s.length]?=g[0]?:=ie (k:=0)
theorem aw {st:AH}{c:Cell}:(st++[c])[st.length]?=some c:=by simp
theorem br {st g:AH}{n:Nat}(h:st[n]?=some c):(st++g)[n]?=some c:=by rw[K9 (KQ.mp h).1];exact h
theorem ak {st:AH}{n:Nat}(h:st[n]?=some c):n<st.length:=(KQ.mp h).1
end FW
namespace My
open PySem L2 HX FW
noncomputable def top (i:Nat):Stmt:=PySem.Challenge.pw_hourstairs_k51_nets_known.main.body.getD i (.Pass ⟨0,0,0,0⟩)
theorem aC {st:AH}{v:PV}(h:v.bel st.length=true):∃n,bc st v=some n:=by
 cases v with
 | ref k =>
  rw[PV.bel] at h;have hk:=LL h;have e:st[k]?=some st[k]:=K6 hk;cases q:st[k] with
  | lst xs=>exact ⟨"list",by simp [bc,e,q]⟩
  | dk xs=>exact ⟨"dict",by simp [bc,e,q]⟩
  | fz xs=>exact ⟨"dict",by simp [bc,e,q]⟩
  | od xs=>exact ⟨"dict",by simp [bc,e,q]⟩
 | fn a=>rw[PV.bel] at h;cases h
 | _=>exact⟨_,rfl⟩
noncomputable def b9:PV->Bool
 | .int _=>true
 | _=>false
theorem l8 (h:bc st v=some n):b9 v=(aH "int" n && !aH "bool" n):=by
 cases v with
 | ref k =>unfold bc at h;simp only at h;split at h <;> cases h <;> rfl
 | fn a=>cases h
 | _=>cases h;rfl
noncomputable def aG:PV->Bool
 | .tup [.int n,.int d]=>decide (0<=n/\1<=d/\Nat.gcd n.natAbs d.natAbs=1)
 | _=>false
theorem a6 (h:bc st v=some n):(aH "tuple" n=true->∃xs,v=.tup xs)/\(aH "tuple" n=false->aG v=false):=by
 cases v with
 | tup xs=>cases h;exact⟨fun _=>⟨xs,rfl⟩,fun z=>absurd z (by decide)⟩
 | ref k =>unfold bc at h;simp only at h;split at h <;> cases h <;> exact⟨fun z=>absurd z (by decide),fun _=>rfl⟩
 | fn a=>cases h
 | _=>cases h;exact⟨fun z=>absurd z (by decide),fun _=>rfl⟩
theorem mr {x:PV}:aG (.tup [x,y])=(match x,y with | .int n,.int d=>decide (0<=n/\1<=d/\Nat.gcd n.natAbs d.natAbs=1)|_,_=>false):=by cases x <;> cases y <;> rfl
theorem tI {xs:List PV}(hl:xs.length≠2):aG (.tup xs)=false:=by
 match xs,hl with
 | [],_=>rfl
 | [x],_=>cases x <;> rfl
 | [_,_],hl=>exact absurd rfl hl
 | x::y::_::_,_=>cases x <;> cases y <;> rfl
theorem nO:∀ {xs:List PV}{x:PV},PV.bels k xs=true->x∈xs->x.bel k=true
 | [],x,_,h=>nomatch h
 | y::ys,x,z,h=>by
  rw[PV.bels,KM] at z;rcases K8.mp h with rfl|h
  ·exact z.1
  ·exact nO z.2 h
theorem sD {n d:Int}(h0:0<=n)(h1:1<=d):decide (((Nat.gcd n.toNat d.toNat:Nat):Int)=1)=decide (0<=n/\1<=d/\Nat.gcd n.natAbs d.natAbs=1):=by
 have e1:n.natAbs=n.toNat:=by omega
 have e2:d.natAbs=d.toNat:=by omega
 rw[e1,e2];simp[h0,h1];omega
theorem xw {d:Nat}(h:0<d)(h2:d<2 ^ 8000):CBig (Nat.gcd n d:Nat):=by have h3:0<Nat.gcd n d:=Nat.gcd_pos_of_pos_right _ h;have h4:Nat.gcd n d<=d:=Nat.gcd_le_right _ h;refine⟨by omega,?_⟩;have h5:((Nat.gcd n d:Nat):Int).natAbs=Nat.gcd n d:=rfl;rw[h5];have:Nat.gcd n d<2 ^ 8000:=MS h4 h2;have:=(OL (by omega)).mpr this;omega
noncomputable abbrev pc (q r:Int):Cell:=.lst [.int q,.int r]
theorem Hr:(pc q r).bel k=true:=by simp[pc,Cell.bel,PV.bels,PV.bel]
theorem HB:A5 10 18:=⟨by decide,by decide,by decide⟩
theorem lR {j:Int}(h:0<j)(h2:j<2 ^ 200):CBig j:=CBig.of h (Int.lt_of_lt_of_le h2 (by
 have:((2:Int) ^ 200)=((2 ^ 200:Nat):Int):=by rw[OD];rfl
 have e2:((2:Int) ^ 8999)=((2 ^ 8999:Nat):Int):=by rw[OD];rfl
 rw[this,e2];exact Int.ofNat_le.mpr (ND (by decide) (by decide))))
theorem oS {i:Int}(h1:-(2 ^ 64)<i)(h2:i<2 ^ 64):CMB i j:=.inr (.inl ⟨h1,h2⟩)
theorem E4 {j:Int}(h1:-(2 ^ 64)<j)(h2:j<2 ^ 64):CMB i j:=.inr (.inr ⟨h1,h2⟩)
theorem zL {ns:List Int}{k:Nat}(h:k<ns.length):atI (ns.map PV.int) (k:Int)=some (.int (ns.getD k 0)):=by refine f6 ?_;rw[K2,LW,K6 h];rfl
theorem Ia:(10:Nat) ^ 12<2 ^ 8000:=KZ (by decide:(10:Nat) ^ 12<2 ^ 64) (ND (by decide) (by decide))
theorem Di {n d:Nat}(h:0<d):Nat.gcd (n/Nat.gcd n d) (d/Nat.gcd n d)=1:=Nat.gcd_div_gcd_div_gcd_of_pos_right h
theorem DG {d:Nat}(h:0<d):0<d/Nat.gcd n d:=Nat.div_pos (Nat.gcd_le_right _ h) (Nat.gcd_pos_of_pos_right _ h)
theorem iT {n i:Nat}(h:(bU 0 ((n:Int).toNat))[i]?=some v):v=.int i/\i<n:=by
 unfold bU at h;rw[K2] at h;have hi:i<n:=by
  by_cases hi:i<n
  ·exact hi
  ·rw[L4 (by simp;omega)] at h;cases h
 rw[List.getElem?_range (by simpa using hi)] at h;cases h;exact⟨by simp,hi⟩
theorem oU:lC st (.tup [.int a,.int b])=some (.tuple [.int a,.int b]):=by simp[lC,PV.toD,PV.toDs]
theorem k5 (a b:Int):SeqAt.shaped (.tuple [.int a,.int b])=true:=by simp[SeqAt.shaped,PyData.canLay0,PyData.canLayAll0,PyData.depth,PyData.depthAll]
theorem An (a b c d:Int):PyData.eqv (.tuple [.int a,.int b]) (.tuple [.int c,.int d])=(decide (a=c) && decide (b=d)):=by simp[PyData.eqv,PyData.eqvAll,Bool.beq_eq_decide_eq]
theorem sA {a b c d:Int}{k:Bool->Prop}(h:k (decide (a=c) && decide (b=d))):eqW st (.tup [.int a,.int b]) (.tup [.int c,.int d]) k :=
 ⟨_,_,oU,oU,k5 _ _,k5 _ _,by rw[An];exact h⟩
def cB:FSp:=fun as st Q=>∃v,as=[v]/\v.bel st.length=true/\Q (.bl (b9 v)) st
theorem n5 {as st Q Q'}(h:∀v st,Q v st->Q' v st)(q:cB as st Q):cB as st Q':=by obtain⟨v,e,b,q⟩:=q;exact⟨v,e,b,h _ _ q⟩
theorem qC {as st Q}(q:cB as st Q):as.length=1:=by obtain⟨v,rfl,_⟩:=q;rfl
def a5:FSp:=fun as st Q=>∃n d:Nat,as=[.int n,.int d]/\Q (.int (Nat.gcd n d:Nat)) st
theorem iu {as st Q Q'}(h:∀v st,Q v st->Q' v st)(q:a5 as st Q):a5 as st Q':=by obtain⟨n,d,e,q⟩:=q;exact⟨n,d,e,h _ _ q⟩
theorem i6 {as st Q}(q:a5 as st Q):as.length=2:=by obtain⟨n,d,rfl,_⟩:=q;rfl
def bu:FSp:=fun as st Q=>∃v,as=[v]/\v.bel st.length=true/\Q (.bl (aG v)) st
theorem j0 {as st Q Q'}(h:∀v st,Q v st->Q' v st)(q:bu as st Q):bu as st Q':=by obtain⟨v,e,b,q⟩:=q;exact⟨v,e,b,h _ _ q⟩
theorem lN {as st Q}(q:bu as st Q):as.length=1:=by obtain⟨v,rfl,_⟩:=q;rfl
noncomputable abbrev fr (p:Nat × Nat):PV:=.tup [.int p.1,.int p.2]
noncomputable def fw (n d:Nat):Nat × Nat:=(n/Nat.gcd n d,d/Nat.gcd n d)
theorem uq {d:Nat}(h:0<d):0<(fw n d).2:=DG h
theorem uk {d:Nat}(h:0<d):Nat.gcd (fw n d).1 (fw n d).2=1:=Di h
theorem si (n d:Nat):(fw n d).1<=n:=Nat.div_le_self _ _
theorem B8 (n d:Nat):(fw n d).2<=d:=Nat.div_le_self _ _
theorem xG (h:Nat.gcd n d=1):fw n d=(n,d):=by simp[fw,h]
theorem GK (h1:Nat.gcd a b=1)(h2:Nat.gcd c d=1)(hb:0<b)(hd:0<d)(h:a*d=c*b):a=c/\b=d:=by
 have hbd:b ∣ d:=by have:b ∣ a*d:=⟨c,by rw[h,Nat.mul_comm]⟩;exact Nat.Coprime.dvd_of_dvd_mul_left (show Nat.Coprime b a by unfold Nat.Coprime;rw[NW];exact h1) this
 have hdb:d ∣ b:=by have:d ∣ c*b:=⟨a,by rw[<-h,Nat.mul_comm]⟩;exact Nat.Coprime.dvd_of_dvd_mul_left (show Nat.Coprime d c by unfold Nat.Coprime;rw[NW];exact h2) this
 have e:b=d:=Nat.dvd_antisymm hbd hdb;subst e;exact⟨Nat.eq_of_mul_eq_mul_right hb h,rfl⟩
structure Cop (p:Nat × Nat):Prop where
 pos:0<p.2
 one:Nat.gcd p.1 p.2=1
theorem Cop.low {d:Nat}(h:0<d):Cop (fw n d):=⟨uq h,uk h⟩
theorem Cop.ext (h1:Cop p)(h2:Cop q)(h:p.1*q.2=q.1*p.2):p=q:=by obtain⟨e1,e2⟩:=GK h1.one h2.one h1.pos h2.pos h;exact Prod.ext e1 e2
structure Sz (k:Nat)(p:Nat × Nat):Prop where
 a:p.1<2 ^ k
 b:p.2<2 ^ k
 pos:0<p.2
theorem Sz.mono {k:Nat}(h:Sz j p)(hk:j<=k):Sz k p:=⟨KZ h.a (ND (by decide) hk),KZ h.b (ND (by decide) hk),h.pos⟩
def Kz (p q:Nat × Nat):Prop:=p.1*q.2<q.1*p.2
noncomputable instance (p q:Nat × Nat):Decidable (Kz p q):=inferInstanceAs (Decidable (_<_))
mutual
noncomputable def aV:Nat->PV->Bool
 | _,.int _=>true
 | _,.non=>true
 | 0,.tup _=>false
 | n+1,.tup xs=>cT n xs
 | _,.bl _=>false
 | _,.str _=>false
 | _,.ref _=>false
 | _,.rdl _=>false
 | _,.fn _=>false
noncomputable def cT:Nat->List PV->Bool
 | _,[]=>true
 | n,x::xs=>aV n x && cT n xs
end
mutual
theorem fG:∀ {n:Nat}{v:PV},aV n v=true->∃d,v.toD=some d/\d.canLay0=true/\d.depth<=n+1
 | n,.int i,_=>⟨.int i,by simp[PV.toD],by simp[PyData.canLay0],by simp[PyData.depth]⟩
 | n,.non,_=>⟨.none,by simp[PV.toD],by simp[PyData.canLay0],by simp[PyData.depth]⟩
 | 0,.tup xs,h=>by simp[aV] at h
 | n+1,.tup xs,h=>by rw[aV] at h;obtain⟨ds,e,h1,h2⟩:=bY h;exact⟨.tuple ds,by simp[PV.toD,e],by simp[PyData.canLay0,h1],by simp[PyData.depth];omega⟩
 | n,.bl _,h=>by cases n <;> simp[aV] at h
 | n,.str _,h=>by cases n <;> simp[aV] at h
 | n,.ref _,h=>by cases n <;> simp[aV] at h
 | n,.rdl _,h=>by cases n <;> simp[aV] at h
 | n,.fn _,h=>by cases n <;> simp[aV] at h
theorem bY:∀ {n:Nat}{vs:List PV},cT n vs=true->∃ds,PV.toDs vs=some ds/\PyData.canLayAll0 ds=true/\PyData.depthAll ds<=n+1
 | n,[],_=>⟨[],by simp[PV.toDs],by simp[PyData.canLayAll0],by simp[PyData.depthAll]⟩
 | n,x::xs,h=>by rw[cT,KM] at h;obtain⟨d,e1,h1,h2⟩:=fG h.1;obtain⟨ds,e2,h3,h4⟩:=bY h.2;exact⟨d::ds,by simp[PV.toDs,e1,e2],by simp[PyData.canLayAll0,h1,h3],by simp[PyData.depthAll];omega⟩
end
mutual
theorem pV:∀ {n:Nat}{v w:PV}{d e:PyData},aV n v=true->aV n w=true->v.toD=some d->w.toD=some e->PyData.eqv d e=v.same w
 | n,.int i,w,d,e,_,hw,hd,he=>by
  simp[PV.toD] at hd;subst hd;cases w with
  | int j=>simp[PV.toD] at he;subst he;simp[PyData.eqv,PV.same,Bool.beq_eq_decide_eq]
  | non=>simp[PV.toD] at he;subst he;simp[PyData.eqv,PV.same]
  | tup ys =>
   cases n with
   | zero=>simp[aV] at hw
   | succ n =>rw[aV] at hw;obtain⟨ds,e1,h1,h2⟩:=bY hw;simp[PV.toD,e1] at he;subst he;simp[PyData.eqv,PV.same]
  | _=>cases n <;> simp[aV] at hw
 | n,.non,w,d,e,_,hw,hd,he=>by
  simp[PV.toD] at hd;subst hd;cases w with
  | int j=>simp[PV.toD] at he;subst he;simp[PyData.eqv,PV.same]
  | non=>simp[PV.toD] at he;subst he;simp[PyData.eqv,PV.same]
  | tup ys =>
   cases n with
   | zero=>simp[aV] at hw
   | succ n =>rw[aV] at hw;obtain⟨ds,e1,h1,h2⟩:=bY hw;simp[PV.toD,e1] at he;subst he;simp[PyData.eqv,PV.same]
  | _=>cases n <;> simp[aV] at hw
 | 0,.tup xs,w,d,e,hv,_,_,_=>by simp[aV] at hv
 | n+1,.tup xs,w,d,e,hv,hw,hd,he=>by
  rw[aV] at hv;obtain⟨ds,e1,h1,h2⟩:=bY hv;simp[PV.toD,e1] at hd;subst hd;cases w with
  | int j=>simp[PV.toD] at he;subst he;simp[PyData.eqv,PV.same]
  | non=>simp[PV.toD] at he;subst he;simp[PyData.eqv,PV.same]
  | tup ys =>rw[aV] at hw;obtain⟨es,e2,h3,h4⟩:=bY hw;simp[PV.toD,e2] at he;subst he;simp only[PyData.eqv,PV.same];exact mw hv hw e1 e2
  | _=>simp[aV] at hw
 | n,.bl _,_,_,_,h,_,_,_=>by cases n <;> simp[aV] at h
 | n,.str _,_,_,_,h,_,_,_=>by cases n <;> simp[aV] at h
 | n,.ref _,_,_,_,h,_,_,_=>by cases n <;> simp[aV] at h
 | n,.rdl _,_,_,_,h,_,_,_=>by cases n <;> simp[aV] at h
 | n,.fn _,_,_,_,h,_,_,_=>by cases n <;> simp[aV] at h
theorem mw:∀ {n:Nat}{vs ws:List PV}{ds es:List PyData},cT n vs=true->cT n ws=true->PV.toDs vs=some ds->PV.toDs ws=some es->PyData.eqvAll ds es=PV.sames vs ws
 | n,[],ws,ds,es,_,hw,hd,he=>by
  simp[PV.toDs] at hd;subst hd;cases ws with
  | nil=>simp[PV.toDs] at he;subst he;simp[PyData.eqvAll,PV.sames]
  | cons y ys =>
   obtain⟨zs,e1,h1,h2⟩:=bY hw;rw[e1] at he;cases he;cases es with
   | nil =>rw[PV.toDs] at e1;split at e1 <;> simp at e1
   | cons=>simp[PyData.eqvAll,PV.sames]
 | n,x::xs,ws,ds,es,hv,hw,hd,he=>by
  rw[cT,KM] at hv;obtain⟨d1,a1,b1,c1⟩:=fG hv.1;obtain⟨ds1,a2,b2,c2⟩:=bY hv.2;simp[PV.toDs,a1,a2] at hd;subst hd;cases ws with
  | nil=>simp[PV.toDs] at he;subst he;simp[PyData.eqvAll,PV.sames]
  | cons y ys =>rw[cT,KM] at hw;obtain⟨d3,a3,b3,c3⟩:=fG hw.1;obtain⟨ds4,a4,b4,c4⟩:=bY hw.2;simp[PV.toDs,a3,a4] at he;subst he;rw[PyData.eqvAll,PV.sames,pV hv.1 hw.1 a1 a3,mw hv.2 hw.2 a2 a4]
end
theorem rX {v:PV}(h:v.toD=some d):lC st v=some d:=by
 cases v with
 | ref n=>simp[PV.toD] at h
 | _=>exact h
theorem D5 {n:Nat}{k:Bool->Prop}(hn:n<=60)(hv:aV n v=true)(hw:aV n w=true)(h:k (v.same w)):eqW st v w k:=by
 obtain⟨d,e1,h1,h2⟩:=fG hv;obtain⟨e,e2,h3,h4⟩:=fG hw;have big:∃d e,lC st v=some d/\lC st w=some e/\SeqAt.shaped d=true/\SeqAt.shaped e=true/\k (PyData.eqv d e):=by
  refine⟨d,e,rX e1,rX e2,?_,?_,?_⟩
  ·simp[SeqAt.shaped,h1];omega
  ·simp[SeqAt.shaped,h3];omega
  ·rw[pV hv hw e1 e2];exact h
 cases v with
 | int i =>
  cases w with
  | int j =>show k (decide (i=j));simp only[PV.same,Bool.beq_eq_decide_eq] at h;exact h
  | _=>exact big
 | bl i=>cases n <;> simp[aV] at hv
 | str i=>cases n <;> simp[aV] at hv
 | _=>exact big
mutual
theorem r_:∀(v:PV),v.same v=true
 | .non=>by simp[PV.same]
 | .bl _=>by simp[PV.same]
 | .int _=>by simp[PV.same]
 | .str _=>by simp[PV.same]
 | .ref _=>by simp[PV.same]
 | .fn _=>by simp[PV.same]
 | .tup xs=>by rw[PV.same];exact fQ xs
 | .rdl xs=>by rw[PV.same];exact fQ xs
theorem fQ:∀(vs:List PV),PV.sames vs vs=true
 | []=>by simp[PV.sames]
 | x::xs=>by rw[PV.sames,r_ x,fQ xs];rfl
end
theorem hU:∀ {vs:List PV},(∀v∈vs,aV n v=true)->cT n vs=true
 | [],_=>by rw[cT]
 | x::xs,h=>by rw[cT,h x (by simp),hU fun v hv=>h v (by simp[hv])];rfl
def PK (q r:Int):Prop:=0<=q/\0<=r/\r<8589934592
def Pot (st:AH)(p:Nat):Prop:=∃q r,st[p]?=some (pc q r)/\PK q r
theorem Pot.lt (h:Pot st p):p<st.length:=by obtain⟨q,r,e,_⟩:=h;exact ak e
theorem Pot.app {g:AH}(h:Pot st p):Pot (st++g) p:=by obtain⟨q,r,e,z⟩:=h;exact⟨q,r,br e,z⟩
structure Gr (st:AH)(p:Nat)(st':AH):Prop where
 len:st.length<=st'.length
 old:∀i,i<st.length->i≠p->st'[i]?=st[i]?
 pot:Pot st' p
 was:p<st.length
theorem Gr.refl (h:Pot st p):Gr st p st:=⟨KJ _,fun _ _ _=>rfl,h,h.lt⟩
theorem Gr.trans (a:Gr st p s1)(b:Gr s1 p s2):Gr st p s2:=⟨K_ a.len b.len,fun i h1 h2=>(b.old i (KZ h1 a.len) h2).trans (a.old i h1 h2),b.pot,a.was⟩
theorem Gr.app {g:AH}(a:Gr st p s1):Gr st p (s1++g) :=
 ⟨by rw[LJ];exact K_ a.len (OB _ _),fun i h1 h2=>by rw[K9 (KZ h1 a.len)];exact a.old i h1 h2,a.pot.app,a.was⟩
theorem Gr.set (a:Gr st p s1)(z:PK q r):Gr st p (s1.set p (pc q r)) :=
 ⟨by rw[MV];exact a.len,fun i h1 h2=>by rw[KU (Ne.symm h2)];exact a.old i h1 h2,⟨q,r,KR a.pot.lt,z⟩,a.was⟩
theorem Gr.setN {n:Nat}(a:Gr st p s1)(h:st.length<=n):Gr st p (s1.set n c):=by
 have hn:n≠p:=fun e=>by have:=a.was;omega
 refine⟨by rw[MV];exact a.len,fun i h1 h2=>by rw[KU (by omega)];exact a.old i h1 h2,?_,a.was⟩;obtain⟨q,r,e,z⟩:=a.pot;exact⟨q,r,by rw[KU hn];exact e,z⟩
theorem Gr.get {n:Nat}(a:Gr st p s1)(h:st[n]?=some c)(hn:n≠p):s1[n]?=some c:=(a.old n (ak h) hn).trans h
theorem Gr.tmp {v:PV}{Q:EK}(a:Gr st p s1)(hv:v.bel st.length=true)(k:∀s2,Gr st p s2->s2.length=st.length->Q v s2):Tmp st Q v s1:=by
 have hl:(s1.take st.length).length=st.length:=by rw[MI];exact Nat.min_eq_left a.len
 have hg:∀i,i<st.length->(s1.take st.length)[i]?=s1[i]?:=fun i hi=>by rw[MZ hi]
 obtain⟨q,r,e,z⟩:=a.pot;refine⟨s1.take st.length,s1.drop st.length,(List.take_append_drop _ _).symm,hl,fun i hi=>?_,hv,k _ ⟨by omega,fun i h1 h2=>(hg i h1).trans (a.old i h1 h2),⟨q,r,(hg p a.was).trans e,z⟩,a.was⟩ hl⟩;by_cases hp:i=p
 ·subst hp;exact .inr ⟨pc q r,(hg i a.was).trans e,Hr⟩
 ·exact .inl ((hg i hi).trans (a.old i hi hp))
theorem Fd:A5 10 11:=⟨by decide,by decide,by decide⟩
theorem mF {L:List PV}{P:PV->Prop}(h:∀v∈L,P v){y:Int}(y0:0<=y)(y1:y<L.length):∃v,atI L y=some v/\P v:=by
 obtain⟨m,rfl⟩:∃m:Nat,y=m:=⟨y.toNat,by omega⟩;have hm:m<L.length:=by omega
 exact⟨L[m],f6 (K6 hm),h _ (M3 hm)⟩
theorem Gr.ne (a:Gr st p s1):s1.length≠p:=fun e=>by have:=a.pot.lt;omega
theorem ng:gJ st (.ref n) st'=(st'[n]?=st[n]?):=rfl
theorem Ke {L:List PV}:fE L (some 1) none=L.drop 1:=by
 unfold fE;have:=HT.sIx_nat L.length 0 1;rw[show ((1:Nat):Int)=(1:Int) from rfl] at this;rw[HT.sIx_none,this];cases L with
 | nil=>rfl
 | cons x xs =>
  have:min 1 (x::xs).length=1:=by simp only[List.length_cons];omega
  rw[this];exact NU (by simp)
theorem jj {v:PV}(h:v∈fE L lo hi):v∈L:=N0 (N1 h)
theorem wF (L:List PV)(lo hi:Option Int):(fE L lo hi).length<=L.length:=by unfold fE;rw[MI,NY];omega
theorem a0 (h:aG v=true):∃n d:Nat,v=fr (n,d)/\0<d:=by
 unfold aG at h;split at h
 ·rename_i n d;have:=LL h;refine⟨n.toNat,d.toNat,?_,by omega⟩;show PV.tup [.int n,.int d]=PV.tup [.int (n.toNat:Int),.int (d.toNat:Int)];rw[NK this.1,NK (by omega)]
 ·cases h
theorem Bs {as st Q Q'}(h:∀v st,Q v st->Q' v st)(q:iD as st Q):iD as st Q':=by obtain⟨n,e,h1,q⟩:=q;exact⟨n,e,h1,fun z=>h _ _ (q z)⟩
theorem D6 {as st Q}(q:iD as st Q):as.length=1:=by obtain⟨n,rfl,_⟩:=q;rfl
mutual
noncomputable def cx:PV->Bool
 | .int i=>decide (i.natAbs<10 ^ 12)
 | .str z=>decide (z.length<=9)
 | .tup xs=>decide (xs.length<=6) && kK xs
 | .non=>true
 | .bl _=>true
 | .ref _=>true
 | .rdl _=>false
 | .fn _=>false
noncomputable def kK:List PV->Bool
 | []=>true
 | x::xs=>cx x && kK xs
end
noncomputable def ky:PV->Bool
 | .str z=>decide (z.length<=9) && PyData.strOk z
 | .int i=>decide (i.natAbs<10 ^ 12)
 | .non=>true
 | .bl _=>true
 | .tup [.str z]=>decide (z.length<=1) && PyData.strOk z
 | _=>false
noncomputable abbrev letS:Str:="abcdefghijklmnopqrstuvwxyz"
noncomputable def GG (c:Nat):Bool:=!(Builtin.Str.occurrences letS ⟨#[c]⟩ 0 letS.length 1).isEmpty
noncomputable def aB:PV->Bool
 | .str z=>decide (0<z.length) && decide (z.length<=8) && z.cps.toList.all GG
 | _=>false
inductive Ok (st:AH):Nat->PV->Prop where
 | non (n:Nat):Ok st n .non
 | bl (n:Nat) (b:Bool):Ok st n (.bl b)
 | int {n:Nat}{i:Int} (h:i.natAbs<10 ^ 12):Ok st n (.int i)
 | str {n:Nat}{z:Str} (h:z.length<=9) (o:PyData.strOk z=true):Ok st n (.str z)
 | tup {n:Nat}{xs:List PV} (l:xs.length<=6) (h:∀x∈xs,Ok st n x):Ok st (n+1) (.tup xs)
 | lst {n k:Nat}{xs:List PV} (e:st[k]?=some (.lst xs)) (l:xs.length<=6) (h:∀x∈xs,Ok st n x):Ok st (n+1) (.ref k)
 | dk {n k:Nat}{ps:List (Str × PV)} (e:st[k]?=some (.dk (ps.map fun p=>(Sum.inr p.1,p.2)))) (l:ps.length<=6) (hk:∀p∈ps,p.1.length<=9/\PyData.strOk p.1=true) (h:∀p∈ps,Ok st n p.2):Ok st (n+1) (.ref k)
 | od {n k:Nat}{kvs:List (PV × PV)} (e:st[k]?=some (.od kvs)) (l:kvs.length<=6) (hk:∀p∈kvs,ky p.1=true) (h:∀p∈kvs,Ok st n p.2) (b:∃p∈kvs,aB p.1=false):Ok st (n+1) (.ref k)
def OkA (A:Nat->Prop)(s:AH)(n:Nat)(v:PV):Prop:=∀t:AH,(∀i,A i->i<s.length->t[i]?=s[i]?)->Ok t n v
def Pre (st st':AH):Prop:=∀i,i<st.length->st'[i]?=st[i]?
theorem Pre.refl:Pre st st:=fun _ _=>rfl
theorem Pre.app {g:AH}:Pre st (st++g):=fun i h=>K9 h
theorem Pre.get (h:Pre st s){k:Nat}(e:st[k]?=some c):s[k]?=some c:=(h k (ak e)).trans e
theorem Pre.len (h:Pre st s):st.length<=s.length:=by
 by_cases z:st.length<=s.length
 ·exact z
 ·have:=h s.length (by omega);rw[L4 (KJ _),K6 (by omega)] at this;cases this
theorem Pre.trans (h:Pre a b)(k:Pre b c):Pre a c:=fun i hi=>(k i (KZ hi h.len)).trans (h i hi)
theorem Ok.cells {s:AH}(h:∀(k:Nat) c,st[k]?=some c->s[k]?=some c)(o:Ok st n v):Ok s n v:=by
 induction o with
 | non n=>exact .non n
 | bl n b=>exact .bl n b
 | int h=>exact .int h
 | str h o=>exact .str h o
 | tup l _ ih=>exact .tup l ih
 | lst e l _ ih=>exact .lst (h _ _ e) l ih
 | dk e l hk _ ih=>exact .dk (h _ _ e) l hk ih
 | od e l hk _ b ih=>exact .od (h _ _ e) l hk ih b
theorem Ok.pre (h:Pre st s)(o:Ok st n v):Ok s n v:=o.cells fun k c e=>h.get e
theorem Ok.up {m:Nat}(o:Ok st n v)(h:n<=m):Ok st m v:=by
 induction o generalizing m with
 | non n=>exact .non m
 | bl n b=>exact .bl m b
 | int h'=>exact .int h'
 | str h' o=>exact .str h' o
 | tup l _ ih=>obtain⟨m,rfl⟩:∃j,m=j+1:=⟨m-1,by omega⟩;exact .tup l fun x hx=>ih x hx (by omega)
 | lst e l _ ih=>obtain⟨m,rfl⟩:∃j,m=j+1:=⟨m-1,by omega⟩;exact .lst e l fun x hx=>ih x hx (by omega)
 | dk e l hk _ ih=>obtain⟨m,rfl⟩:∃j,m=j+1:=⟨m-1,by omega⟩;exact .dk e l hk fun x hx=>ih x hx (by omega)
 | od e l hk _ b ih=>obtain⟨m,rfl⟩:∃j,m=j+1:=⟨m-1,by omega⟩;exact .od e l hk (fun x hx=>ih x hx (by omega)) b
theorem rM:∀ {xs:List PV},(∀x∈xs,x.bel k=true)->PV.bels k xs=true
 | [],_=>by rw[PV.bels]
 | x::xs,h=>by rw[PV.bels,KM];exact⟨h x KP,rM fun y hy=>h y (KN _ hy)⟩
theorem tQ:∀ {xs:List PV},(∀x∈xs,cx x=true)->kK xs=true
 | [],_=>by rw[kK]
 | x::xs,h=>by rw[kK,KM];exact⟨h x KP,tQ fun y hy=>h y (KN _ hy)⟩
theorem qe:∀ {xs:List PV}{x:PV},kK xs=true->x∈xs->cx x=true
 | y::xs,x,h,hx=>by
  rw[kK,KM] at h;rcases K8.mp hx with rfl|hx
  ·exact h.1
  ·exact qe h.2 hx
theorem Ok.any (o:Ok st n v):v.bel st.length=true/\cx v=true:=by
 induction o with
 | non n=>exact⟨by rw[PV.bel],by rw[cx]⟩
 | bl n b=>exact⟨by rw[PV.bel],by rw[cx]⟩
 | int h=>exact⟨by rw[PV.bel],by rw[cx];exact LF h⟩
 | str h o=>exact⟨by rw[PV.bel],by rw[cx];exact LF h⟩
 | tup l _ ih=>exact⟨by rw[PV.bel];exact rM fun x hx=>(ih x hx).1,by rw[cx,KM];exact⟨LF l,tQ fun x hx=>(ih x hx).2⟩⟩
 | lst e l _ ih=>exact⟨by rw[PV.bel];exact LF (ak e),by rw[cx]⟩
 | dk e l hk _ ih=>exact⟨by rw[PV.bel];exact LF (ak e),by rw[cx]⟩
 | od e l hk _ b ih=>exact⟨by rw[PV.bel];exact LF (ak e),by rw[cx]⟩
theorem Ds (h:ky v=true)(k:Nat):v.bel k=true/\cx v=true:=by
 unfold ky at h;split at h
 ·exact⟨by rw[PV.bel],by rw[cx];exact((KM _ _).mp h).1⟩
 ·exact⟨by rw[PV.bel],by rw[cx];exact h⟩
 ·exact⟨by rw[PV.bel],by rw[cx]⟩
 ·exact⟨by rw[PV.bel],by rw[cx]⟩
 ·have h:=LL ((KM _ _).mp h).1;exact⟨by simp[PV.bel,PV.bels],by simp[cx,kK];omega⟩
 ·cases h
noncomputable def eqS:PV->PV->Bool
 | .str a,.str b=>decide (a=b)
 | _,_=>false
noncomputable def upP:List PV->Bool
 | .str a::.str b::r=>decide (a.cps.toList<b.cps.toList) && upP (.str b::r)
 | _=>true
noncomputable def cG:PV->Bool
 | .tup xs=>xs.all aB && upP xs
 | _=>false
noncomputable def bN:PV->Bool
 | .tup [a,b,c,d]=>aG a && aG b && aG c && aG d && (match a,b,c,d with
  | .tup [.int an,.int ad],.tup [.int bn,.int bd],.tup [.int cn,.int cd],.tup [.int dn,.int dd] =>
   !decide (bn*ad<an*bd) && !decide (cn*ad<an*cd) && !decide (dn*bd<bn*dd) && (!(decide (an=bn) && decide (ad=bd)) || (decide (cn=dn) && decide (cd=dd)))
  | _,_,_,_=>false)
 | _=>false
noncomputable def fP:PV->Bool
 | .tup xs=>xs.all bN
 | _=>false
noncomputable def gQ:PV->PV
 | .tup [_,b,_,_]=>b
 | _=>.non
noncomputable def jE:PV->PV->Bool
 | .tup [.int en,.int ed],.tup [.int bn,.int bd]=>decide (en*bd<bn*ed)
 | _,_=>false
noncomputable def eN (e:PV):PV->Bool
 | .tup [a,b,.tup rs]=>aB a && aB b && !eqS a b && rs.all bN && rs.all fun r=>!jE e (gQ r)
 | _=>false
noncomputable def bf (st:AH):PV->Option (List (PV × PV))
 | .ref k=>match st[k]? with
  | some (.dk kvs)=>some (bp kvs)
  | some (.od kvs)=>some kvs
  | _=>none
 | _=>none
noncomputable def qW (st:AH):PV->Bool
 | .tup [e,w,d]=>aG e && cG w && (match bf st d with
  | some kvs=>kvs.all fun p=>aB p.1 && eN e p.2
  | none=>false)
 | _=>false
abbrev Any (st:AH)(v:PV):Prop:=v.bel st.length=true/\cx v=true
noncomputable abbrev sV (ns:List Str):List PV:=ns.map PV.str
noncomputable abbrev kd (ps:List (Str × PV)):List (Key × PV):=ps.map fun p=>(Sum.inr p.1,p.2)
abbrev Mo (s:FSp):Prop:=∀ {as:List PV}{st:AH}{Q Q':EK},(∀v st,Q v st->Q' v st)->s as st Q->s as st Q'
abbrev Ln (s:FSp)(n:Nat):Prop:=∀ {as:List PV}{st:AH}{Q:EK},s as st Q->as.length=n
local macro_rules | `(tactic| walk_at "MO")=>`(tactic| (intro as st Q Q' h q;repeat (first|exact h _ _ q|(obtain ⟨a,q⟩:=q;first|refine Exists.intro a ?_|refine And.intro a ?_)|(intro a;replace q:=q a))))
local macro_rules | `(tactic| walk_at "LN")=>`(tactic| (intro as st Q q;repeat (obtain ⟨a,q⟩:=q;try exact congrArg List.length a)))
def bj:FSp:=fun as st Q=>∃p q,as=[fr p,fr q]/\Sz 60 p/\Sz 60 q/\Q (.bl (decide (p.1*q.2<q.1*p.2))) st
theorem iJ:Mo bj:=by walk_at "MO"
theorem jF:Ln bj 2:=by walk_at "LN"
noncomputable abbrev fm:=bj
theorem lE {as st Q Q'}(h:∀v st,Q v st->Q' v st)(q:bj as st Q):bj as st Q':=iJ h q
theorem mT {as st Q}(q:bj as st Q):as.length=2:=jF q
def bG:FSp:=fun as st Q=>∃v,as=[v]/\Any st v/\Q (.bl (bN v)) st
theorem jh:Mo bG:=by walk_at "MO"
theorem kX:Ln bG 1:=by walk_at "LN"
noncomputable abbrev dF:=bG
theorem jA {as st Q Q'}(h:∀v st,Q v st->Q' v st)(q:bG as st Q):bG as st Q':=jh h q
theorem j6 {as st Q}(q:bG as st Q):as.length=1:=kX q
def dq:FSp:=fun as st Q=>∃v,as=[v]/\Any st v/\Q (.bl (fP v)) st
theorem oy:Mo dq:=by walk_at "MO"
theorem qv:Ln dq 1:=by walk_at "LN"
def bI:FSp:=fun as st Q=>∃v,as=[v]/\Any st v/\Q (.bl (aB v)) st
theorem jK:Mo bI:=by walk_at "MO"
theorem k6:Ln bI 1:=by walk_at "LN"
noncomputable abbrev dH:=bI
theorem je {as st Q Q'}(h:∀v st,Q v st->Q' v st)(q:bI as st Q):bI as st Q':=jK h q
theorem ku {as st Q}(q:bI as st Q):as.length=1:=k6 q
def dA:FSp:=fun as st Q=>∃v,as=[v]/\Any st v/\Q (.bl (cG v)) st
theorem oq:Mo dA:=by walk_at "MO"
theorem qV:Ln dA 1:=by walk_at "LN"
def bh:FSp:=fun as st Q=>∃v,as=[v]/\Any st v/\Q (.bl (aG v)) st
theorem iA:Mo bh:=by walk_at "MO"
theorem i7:Ln bh 1:=by walk_at "LN"
def fC:FSp:=fun as st Q=>∃v e,as=[v,fr e]/\Any st v/\Sz 60 e/\Q (.bl (eN (fr e) v)) st
theorem tW:Mo fC:=by walk_at "MO"
theorem va:Ln fC 2:=by walk_at "LN"
def bS:FSp:=fun as st Q=>∃e v,as=[fr e,v]/\Any st v/\Sz 60 e/\Q (.bl (eN (fr e) v)) st
theorem j9:Mo bS:=by walk_at "MO"
theorem lP:Ln bS 2:=by walk_at "LN"
def bW:FSp:=fun as st Q=>∃v,as=[v]/\Ok st 6 v/\Q (.bl (qW st v)) st
theorem kR:Mo bW:=by walk_at "MO"
theorem mQ:Ln bW 1:=by walk_at "LN"
noncomputable abbrev eG:=bW
theorem jY {as st Q Q'}(h:∀v st,Q v st->Q' v st)(q:bW as st Q):bW as st Q':=kR h q
theorem lD {as st Q}(q:bW as st Q):as.length=1:=mQ q
noncomputable def yT:PV->List Str
 | .tup (.str a::.str b::_)=>[a,b]
 | _=>[]
noncomputable def plL (ws:List Str)(ps:List (Str × PV)):List Str:=ws++(ps.map fun p=>yT p.2).flatten
structure SrtOf (ss L:List Str):Prop where
 so:PyProof.Rows.sortedS ss=true
 nd:ss.Nodup
 mem:∀i,i∈ss↔i∈L
def aX:FSp:=fun as st Q=>∃(e:PV) (ws:List Str) (d:Nat) (ps:List (Str × PV)),as=[.tup [e,.tup (sV ws),.ref d]]/\st[d]?=some (.dk (kd ps))/\ws.length<=6/\ps.length<=6/\(∀p∈ps,∃a b r,p.2=.tup [.str a,.str b,r])/\∀ss n st',SrtOf ss (plL ws ps)->ss.length<=18->Pre st st'->st.length<=n->st'[n]?=some (.lst (sV ss))->Q (.ref n) st'
theorem gG:Mo aX:=by walk_at "MO"
theorem iL:Ln aX 1:=by walk_at "LN"
noncomputable abbrev eM:=aX
theorem jV {as st Q Q'}(h:∀v st,Q v st->Q' v st)(q:aX as st Q):aX as st Q':=gG h q
theorem lK {as st Q}(q:aX as st Q):as.length=1:=iL q
structure Nm (z:Str):Prop where
 len:z.length<=8
 ok:PyData.strOk z=true
structure Gn (st:AH)(p t:Nat)(st':AH):Prop where
 len:st.length<=st'.length
 old:∀i,i<st.length->i≠p->i≠t->st'[i]?=st[i]?
 pot:Pot st' p
theorem Gn.trans (a:Gn st p t s1)(b:Gn s1 p t s2):Gn st p t s2:=⟨K_ a.len b.len,fun i h1 h2 h3=>(b.old i (KZ h1 a.len) h2 h3).trans (a.old i h1 h2 h3),b.pot⟩
theorem Gn.get {n:Nat}(a:Gn st p t s1)(h:st[n]?=some c)(hn:n≠p)(ht:n≠t):s1[n]?=some c:=(a.old n (ak h) hn ht).trans h
theorem Gn.gr {t:Nat}(a:Gr st p s1)(ht:st.length<=t)(b:Gn s1 p t s2):Gr st p s2:=⟨K_ a.len b.len,fun i h1 h2=>(b.old i (KZ h1 a.len) h2 (by omega)).trans (a.old i h1 h2),b.pot,a.was⟩
structure Fz (p:Nat × Nat):Prop where
 a:p.1<10 ^ 12
 b:p.2<10 ^ 12
 p:0<p.2
def RdT (v:PV):Prop:=∃a b c d,v=.tup [fr a,fr b,fr c,fr d]/\Fz a/\Fz b/\Fz c/\Fz d/\b.1<=4*10 ^ 11
def TieT (v:PV):Prop:=∃a b L,v=.tup [.str a,.str b,.tup L]/\Nm a/\Nm b/\(∀r∈L,RdT r)/\L.length<=4
structure DP (ws:List Str)(ps:List (Str × PV)):Prop where
 wl:ws.length<=4
 wn:∀z∈ws,Nm z
 pl:ps.length<=5
 pn:∀p∈ps,Nm p.1
 pt:∀p∈ps,TieT p.2
def eL:FSp:=fun as st Q=>∃(ns:List Int) (k:Nat),as=[.rdl (ns.map .int),.int k]/\ns.length<=63/\∀z,Q (.int z) st
theorem rH:Mo eL:=by walk_at "MO"
theorem sx:Ln eL 2:=by walk_at "LN"
def dv:FSp:=fun as st Q=>∃(ns:List Int) (k:Nat),as=[.rdl (ns.map .int),.int k]/\ns.length<=63/\k<64/\∀q r,PK q r->Q (.ref st.length) (st++[pc q r])
theorem nY:Mo dv:=by walk_at "MO"
theorem qw:Ln dv 2:=by walk_at "LN"
def cM:FSp:=fun as st Q=>∃(p:Nat) (many:Int),as=[.ref p,.int many]/\Pot st p/\0<many/\many<2 ^ 200/\∀x st',0<=x->x<many->Gr st p st'->Q (.int x) st'
theorem mC:Mo cM:=by walk_at "MO"
theorem om:Ln cM 2:=by walk_at "LN"
def Bh (st:AH)(p:Nat)(v:PV)(n:Nat)(f:Nat->PV):Prop:=(∃z,v=.str z/\z.length=n/\∀(i:Nat) c,z.cps.toList[i]?=some c->f i=.str ⟨#[c]⟩)\/∃m xs,v=.ref m/\m≠p/\st[m]?=some (.lst xs)/\xs.length=n/\∀(i:Nat) x,xs[i]?=some x->f i=x
def bK:FSp:=fun as st Q=>∃(p:Nat) (v:PV) (n:Nat) (f:Nat->PV),as=[.ref p,v]/\Pot st p/\0<n/\n<=1000/\Bh st p v n f/\∀i st',i<n->Gr st p st'->Q (f i) st'
theorem lI:Mo bK:=by walk_at "MO"
theorem my:Ln bK 2:=by walk_at "LN"
def cO:FSp:=fun as st Q=>∃(p t:Nat) (names:List Str),as=[.ref p,.ref t]/\Pot st p/\t≠p/\st[t]?=some (.lst (sV names))/\names.length<20/\(∀z∈names,Nm z)/\∀z st',Nm z->Gn st p t st'->st'[t]?=some (.lst (sV (names++[z])))->Q (.str z) st'
theorem mW:Mo cO:=by walk_at "MO"
theorem ot:Ln cO 2:=by walk_at "LN"
def du:FSp:=fun as st Q=>∃n d:Nat,as=[.int n,.int d]/\0<d/\d<2 ^ 8000/\Q (fr (fw n d)) st
theorem nR:Mo du:=by walk_at "MO"
theorem qi:Ln du 2:=by walk_at "LN"
def cK:FSp:=fun as st Q=>∃(p:Nat) (room:Int),as=[.ref p,.int room]/\Pot st p/\0<room/\room<=2*10 ^ 11/\∀v st',RdT v->Gr st p st'->Q v st'
theorem me:Mo cK:=by walk_at "MO"
theorem og:Ln cK 2:=by walk_at "LN"
def cq:FSp:=fun as st Q=>∃p:Nat,as=[.ref p]/\Pot st p/\∀n L st',Gr st p st'->st.length<=n->st'[n]?=some (.lst L)->(∀v∈L,RdT v)->L.length<=4->Q (.ref n) st'
theorem lH:Mo cq:=by walk_at "MO"
theorem mP:Ln cq 1:=by walk_at "LN"
def cj:FSp:=fun as st Q=>∃(p:Nat) (room:Int),as=[.ref p,.int room]/\Pot st p/\0<room/\room<=2*10 ^ 11/\∀L st',Gr st p st'->(∀v∈L,RdT v)->L.length<=4->Q (.tup L) st'
theorem lG:Mo cj:=by walk_at "MO"
theorem lZ:Ln cj 2:=by walk_at "LN"
def dD:FSp:=fun as st Q=>∃(p d:Nat) (ps:List (Str × PV)),as=[.ref p,.ref d]/\Pot st p/\d≠p/\st[d]?=some (.dk (kd ps))/\(∀q∈ps,TieT q.2)/\∀e st',Fz e->Gr st p st'->Q (fr e) st'
theorem oz:Mo dD:=by walk_at "MO"
theorem rE:Ln dD 2:=by walk_at "LN"
def dB:FSp:=fun as st Q=>∃p:Nat,as=[.ref p]/\Pot st p/\∀e ws d ps st',Gr st p st'->st.length<=d->st'[d]?=some (.dk (kd ps))->DP ws ps->Fz e->Q (.tup [fr e,.tup (sV ws),.ref d]) st'
theorem oH:Mo dB:=by walk_at "MO"
theorem rD:Ln dB 1:=by walk_at "LN"
def cy:FSp:=fun as st Q=>∃p:Nat,as=[.ref p]/\Pot st p/\∀v st',Gr st p st'->OkA (fun i=>st.length<=i) st' 1 v->Q v st'
theorem nZ:Mo cy:=by walk_at "MO"
theorem rK:Ln cy 1:=by walk_at "LN"
def bR:FSp:=fun as st Q=>∃(p:Nat) (xs:List PV) (x:PV),as=[.ref p,.tup xs,x]/\Pot st p/\xs.length<=6/\∀ys st',Gr st p st'->ys.length<=6->(∀y∈ys,y=x\/y∈xs)->Q (.tup ys) st'
theorem nW:Mo bR:=by walk_at "MO"
theorem qf:Ln bR 3:=by walk_at "LN"
def aZ:FSp:=fun as st Q=>∃(p:Nat) (L:List PV),as=[.ref p,.tup L]/\Pot st p/\(∀v∈L,RdT v)/\L.length<=4/\∀v st',Gr st p st'->OkA (fun i=>st.length<=i) st' 3 v->Q v st'
theorem fJ:Mo aZ:=by walk_at "MO"
theorem gA:Ln aZ 2:=by walk_at "LN"
def ba:FSp:=fun as st Q=>∃(p:Nat) (v:PV),as=[.ref p,v]/\Pot st p/\TieT v/\∀w st',Gr st p st'->OkA (fun i=>st.length<=i) st' 4 w->Q w st'
theorem gB:Mo ba:=by walk_at "MO"
theorem iw:Ln ba 2:=by walk_at "LN"
def bQ:FSp:=fun as st Q=>∃(p:Nat) (e:Nat × Nat) (ws:List Str) (d:Nat) (ps:List (Str × PV)),as=[.ref p,.tup [fr e,.tup (sV ws),.ref d]]/\Pot st p/\d≠p/\st[d]?=some (.dk (kd ps))/\DP ws ps/\Fz e/\∀w st',Gr st p st'->Ok st' 6 w->Q w st'
theorem kG:Mo bQ:=by walk_at "MO"
theorem lB:Ln bQ 2:=by walk_at "LN"
noncomputable abbrev cu:PV:=(.int 8)
noncomputable abbrev fL:PV:=(.str "abcdefghijklmnopqrstuvwxyz")
noncomputable def Γ:Nat->FSp
 | 0=>cB
 | 1=>a5
 | 2=>bu
 | 3=>bj
 | 4=>bG
 | 5=>dq
 | 6=>bI
 | 7=>dA
 | 8=>fC
 | 9=>bW
 | 10=>aX
 | 11=>eL
 | 12=>dv
 | 13=>cM
 | 14=>bK
 | 15=>cO
 | 16=>du
 | 17=>fm
 | 18=>cK
 | 19=>cq
 | 20=>cj
 | 21=>dD
 | 22=>dB
 | 23=>bh
 | 24=>dF
 | 25=>dH
 | 26=>bS
 | 27=>eG
 | 28=>cy
 | 29=>bR
 | 30=>aZ
 | 31=>ba
 | 32=>bQ
 | 33=>eM
 | 34=>iD
 | _=>fun _ _ _=>False
theorem Γ_0:Γ 0=cB:=id rfl
theorem Γ_1:Γ 1=a5:=id rfl
theorem Γ_2:Γ 2=bu:=id rfl
theorem Γ_3:Γ 3=bj:=id rfl
theorem Γ_4:Γ 4=bG:=id rfl
theorem Γ_5:Γ 5=dq:=id rfl
theorem Γ_6:Γ 6=bI:=id rfl
theorem Γ_7:Γ 7=dA:=id rfl
theorem Γ_8:Γ 8=fC:=id rfl
theorem Γ_9:Γ 9=bW:=id rfl
theorem Im:Γ 10=aX:=id rfl
theorem Hy:Γ 11=eL:=id rfl
theorem Hx:Γ 12=dv:=id rfl
theorem Ju:Γ 13=cM:=id rfl
theorem JD:Γ 14=bK:=id rfl
theorem JR:Γ 15=cO:=id rfl
theorem HG:Γ 16=du:=id rfl
theorem Jd:Γ 17=fm:=id rfl
theorem JM:Γ 18=cK:=id rfl
theorem IA:Γ 19=cq:=id rfl
theorem IU:Γ 20=cj:=id rfl
theorem Ik:Γ 21=dD:=id rfl
theorem HS:Γ 22=dB:=id rfl
theorem Jb:Γ 23=bh:=id rfl
theorem IM:Γ 24=dF:=id rfl
theorem JP:Γ 25=dH:=id rfl
theorem IS:Γ 26=bS:=id rfl
theorem I_:Γ 27=eG:=id rfl
theorem IZ:Γ 28=cy:=id rfl
theorem IF:Γ 29=bR:=id rfl
theorem HY:Γ 30=aZ:=id rfl
theorem HJ:Γ 31=ba:=id rfl
theorem IV:Γ 32=bQ:=id rfl
theorem JL:Γ 33=eM:=id rfl
theorem Jw:Γ 34=iD:=id rfl
theorem Γm:bD Γ:=by
 intro f vs st Q Q' h q
 match f,q with
 | 0,q=>exact n5 (st:=st) h q
 | 1,q=>exact iu (st:=st) h q
 | 2,q=>exact j0 (st:=st) h q
 | 3,q=>exact iJ (st:=st) h q
 | 4,q=>exact jh (st:=st) h q
 | 5,q=>exact oy (st:=st) h q
 | 6,q=>exact jK (st:=st) h q
 | 7,q=>exact oq (st:=st) h q
 | 8,q=>exact tW (st:=st) h q
 | 9,q=>exact kR (st:=st) h q
 | 10,q=>exact gG (st:=st) h q
 | 11,q=>exact rH (st:=st) h q
 | 12,q=>exact nY (st:=st) h q
 | 13,q=>exact mC (st:=st) h q
 | 14,q=>exact lI (st:=st) h q
 | 15,q=>exact mW (st:=st) h q
 | 16,q=>exact nR (st:=st) h q
 | 17,q=>exact lE (st:=st) h q
 | 18,q=>exact me (st:=st) h q
 | 19,q=>exact lH (st:=st) h q
 | 20,q=>exact lG (st:=st) h q
 | 21,q=>exact oz (st:=st) h q
 | 22,q=>exact oH (st:=st) h q
 | 23,q=>exact iA (st:=st) h q
 | 24,q=>exact jA (st:=st) h q
 | 25,q=>exact je (st:=st) h q
 | 26,q=>exact j9 (st:=st) h q
 | 27,q=>exact jY (st:=st) h q
 | 28,q=>exact nZ (st:=st) h q
 | 29,q=>exact nW (st:=st) h q
 | 30,q=>exact fJ (st:=st) h q
 | 31,q=>exact gB (st:=st) h q
 | 32,q=>exact kG (st:=st) h q
 | 33,q=>exact jV (st:=st) h q
 | 34,q=>exact Bs (st:=st) h q
 | _+35,q=>exact q.elim
noncomputable def JV:List Str:=((["is_whole","common_divisor","is_fraction","is_below","is_ride","is_rides","is_name","is_names","is_tie","is_net","places_of","_law_at","_law_pot","_law_take","_law_drawn","_law_name","_law_low","_law_under","_law_ride","_law_chain","_law_rides","_law_end","_law_net","_law_is_moment","_law_is_ride","_law_is_name","_law_is_tie","_law_is_net","_law_odd","_law_put"]:List Str)++(["_law_spoilt_rides","_law_spoilt_tie","_law_spoilt","_law_places","law"]:List Str))
noncomputable def Gs:List Str:=["isinstance","bool","int","len","tuple","all","str","zip","any","dict","sorted","set","list","max","divmod","range","min","repr"]
noncomputable def glL:List (Str × PV):=[("LETTERS",fL),("MOST_LETTERS",cu)]
noncomputable def mkc (N:List Str)(s:Stmt)(k:Nat):Cfg:={ N:=N,names:=(af s).names,fns:=JV,lim:=k,blts:=Gs,gl:=glL }
local macro_rules | `(tactic| walk_at "SC")=>`(tactic| exact ⟨rfl,rfl,rfl,by decide +kernel,rfl,by decide +kernel,by decide +kernel⟩)
noncomputable abbrev fK:Stmt:=top 1
theorem sX:aq ["thing"] ["thing"] (af fK):=by walk_at "SC"
noncomputable def mX:Cfg:=mkc ["thing"] fK 0
noncomputable def e_:Ss:=(.cons (.ret (.bop true (.cons (.inst (.var 0) "int") (.cons (.not (.inst (.var 0) "bool")) .nil)))) .nil)
theorem vM:aJ mX  e_ (ah fK)=true:=by decide +kernel
noncomputable abbrev b8:Stmt:=top 2
theorem ji:aq ["n","d"] ["n","d"] (af b8):=by walk_at "SC"
noncomputable def fH:Cfg:=mkc ["n","d"] b8 1
noncomputable def cf:Ss:=(.cons (.whileS (.cmp .NotEq (.var 1) (.int 0)) (.cons (.par 0 1 (.var 1) (.bin .Mod (.var 0) (.var 1))) .nil)) (.cons (.ret (.var 0)) .nil))
theorem kh:aJ fH  cf (ah b8)=true:=by decide +kernel
noncomputable abbrev c8:Stmt:=top 3
theorem nj:aq ["thing","n","d"] ["thing"] (af c8):=by walk_at "SC"
noncomputable def iC:Cfg:=mkc ["thing","n","d"] c8 2
noncomputable def cX:Ss:=(.cons (.ifS (.bop false (.cons (.not (.inst (.var 0) "tuple")) (.cons (.cmp .NotEq (.blt .len (.cons (.var 0) .nil)) (.int 2)) .nil))) (.cons (.ret (.bl false)) .nil) .nil) (.cons (.set (.tup (.cons (.name 1) (.cons (.name 2) .nil))) (.var 0)) (.cons (.ifS (.bop false (.cons (.not (.call 0 (.cons (.var 1) .nil))) (.cons (.not (.call 0 (.cons (.var 2) .nil))) .nil))) (.cons (.ret (.bl false)) .nil) .nil) (.cons (.ret (.bop true (.cons (.cmp .GtE (.var 1) (.int 0)) (.cons (.cmp .GtE (.var 2) (.int 1)) (.cons (.cmp .Eq (.call 1 (.cons (.var 1) (.cons (.var 2) .nil))) (.int 1)) .nil))))) .nil))))
theorem oi:aJ iC  cX (ah c8)=true:=by decide +kernel
noncomputable abbrev fR:Stmt:=top 4
theorem uA:aq ["one","other"] ["one","other"] (af fR):=by walk_at "SC"
noncomputable def ny:Cfg:=mkc ["one","other"] fR 3
noncomputable def e6:Ss:=(.cons (.ret (.cmp .Lt (.bin .Mult (.ix (.var 0) (.int 0)) (.ix (.var 1) (.int 1))) (.bin .Mult (.ix (.var 1) (.int 0)) (.ix (.var 0) (.int 1))))) .nil)
theorem uZ:aJ ny  e6 (ah fR)=true:=by decide +kernel
noncomputable abbrev gW:Stmt:=top 6
theorem uM:aq ["thing","first","last","come","comes"] ["thing"] (af gW):=by walk_at "SC"
noncomputable def pH:Cfg:=mkc ["thing","first","last","come","comes"] gW 4
noncomputable def fO:Ss:=(.cons (.ifS (.bop false (.cons (.not (.inst (.var 0) "tuple")) (.cons (.cmp .NotEq (.blt .len (.cons (.var 0) .nil)) (.int 4)) (.cons (.not (.tmp (.blt .all1 (.cons (.comp (.call 2 (.cons (.var 0) .nil)) (.name 0) (.seq (.var 0)) .nil ["part"] []) .nil)))) .nil)))) (.cons (.ret (.bl false)) .nil) .nil) (.cons (.set (.tup (.cons (.name 1) (.cons (.name 2) (.cons (.name 3) (.cons (.name 4) .nil))))) (.var 0)) (.cons (.ifS (.bop false (.cons (.call 3 (.cons (.var 2) (.cons (.var 1) .nil))) (.cons (.call 3 (.cons (.var 3) (.cons (.var 1) .nil))) (.cons (.call 3 (.cons (.var 4) (.cons (.var 2) .nil))) .nil)))) (.cons (.ret (.bl false)) .nil) .nil) (.cons (.ret (.bop false (.cons (.cmp .NotEq (.var 1) (.var 2)) (.cons (.cmp .Eq (.var 3) (.var 4)) .nil)))) .nil))))
theorem yI:aJ pH  fO (ah gW)=true:=by decide +kernel
noncomputable abbrev fZ:Stmt:=top 7
theorem tL:aq ["thing"] ["thing"] (af fZ):=by walk_at "SC"
noncomputable def l_:Cfg:=mkc ["thing"] fZ 5
noncomputable def fk:Ss:=(.cons (.ret (.bop true (.cons (.inst (.var 0) "tuple") (.cons (.tmp (.blt .all1 (.cons (.comp (.call 4 (.cons (.var 0) .nil)) (.name 0) (.seq (.var 0)) .nil ["ride"] []) .nil))) .nil)))) .nil)
theorem vA:aJ l_  fk (ah fZ)=true:=by decide +kernel
noncomputable abbrev gU:Stmt:=top 11
theorem uY:aq ["thing"] ["thing"] (af gU):=by walk_at "SC"
noncomputable def oZ:Cfg:=mkc ["thing"] gU 6
noncomputable def fM:Ss:=(.cons (.ifS (.bop false (.cons (.not (.inst (.var 0) "str")) (.cons (.cmp .Eq (.var 0) (.str "")) (.cons (.cmp .Gt (.blt .len (.cons (.var 0) .nil)) (.gv "MOST_LETTERS" cu)) .nil)))) (.cons (.ret (.bl false)) .nil) .nil) (.cons (.ret (.tmp (.blt .all1 (.cons (.comp (.cmp .In (.var 0) (.gv "LETTERS" fL)) (.name 0) (.chars (.var 0)) .nil ["sign"] []) .nil)))) .nil))
theorem xY:aJ oZ  fM (ah gU)=true:=by decide +kernel
noncomputable abbrev gc:Stmt:=top 12
theorem tq:aq ["thing"] ["thing"] (af gc):=by walk_at "SC"
noncomputable def m9:Cfg:=mkc ["thing"] gc 7
noncomputable def ft:Ss:=(.cons (.ifS (.bop false (.cons (.not (.inst (.var 0) "tuple")) (.cons (.not (.tmp (.blt .all1 (.cons (.comp (.call 6 (.cons (.var 0) .nil)) (.name 0) (.seq (.var 0)) .nil ["name"] []) .nil)))) .nil))) (.cons (.ret (.bl false)) .nil) .nil) (.cons (.ret (.tmp (.blt .all1 (.cons (.comp (.cmp .Lt (.var 0) (.var 1)) (.tup (.cons (.name 0) (.cons (.name 1) .nil))) (.zip (.var 0) (.sl (.var 0) (.yes (.int 1)) .no)) .nil ["ahead","name"] []) .nil)))) .nil))
theorem u5:aJ m9  ft (ah gc)=true:=by decide +kernel
noncomputable abbrev jm:Stmt:=top 13
theorem yn:aq ["thing","end","a","b","rides"] ["thing","end"] (af jm):=by walk_at "SC"
noncomputable def ud:Cfg:=mkc ["thing","end","a","b","rides"] jm 8
noncomputable def gC:Ss:=(.cons (.ifS (.bop false (.cons (.not (.inst (.var 0) "tuple")) (.cons (.cmp .NotEq (.blt .len (.cons (.var 0) .nil)) (.int 3)) .nil))) (.cons (.ret (.bl false)) .nil) .nil) (.cons (.set (.tup (.cons (.name 2) (.cons (.name 3) (.cons (.name 4) .nil)))) (.var 0)) (.cons (.ifS (.bop false (.cons (.not (.call 6 (.cons (.var 2) .nil))) (.cons (.not (.call 6 (.cons (.var 3) .nil))) (.cons (.cmp .Eq (.var 2) (.var 3)) (.cons (.not (.call 5 (.cons (.var 4) .nil))) .nil))))) (.cons (.ret (.bl false)) .nil) .nil) (.cons (.ret (.not (.tmp (.blt .any1 (.cons (.comp (.call 3 (.cons (.var 1) (.cons (.ix (.var 0) (.int 1)) .nil))) (.name 0) (.seq (.var 4)) .nil ["ride"] [1]) .nil))))) .nil))))
theorem BY:aJ ud  gC (ah jm)=true:=by decide +kernel
noncomputable abbrev jf:Stmt:=top 14
theorem yf:aq ["thing","end","waits","ties"] ["thing"] (af jf):=by walk_at "SC"
noncomputable def sZ:Cfg:=mkc ["thing","end","waits","ties"] jf 9
noncomputable def gI:Ss:=(.cons (.ifS (.bop false (.cons (.not (.inst (.var 0) "tuple")) (.cons (.cmp .NotEq (.blt .len (.cons (.var 0) .nil)) (.int 3)) .nil))) (.cons (.ret (.bl false)) .nil) .nil) (.cons (.set (.tup (.cons (.name 1) (.cons (.name 2) (.cons (.name 3) .nil)))) (.var 0)) (.cons (.ifS (.bop false (.cons (.not (.call 2 (.cons (.var 1) .nil))) (.cons (.not (.call 7 (.cons (.var 2) .nil))) (.cons (.not (.inst (.var 3) "dict")) .nil)))) (.cons (.ret (.bl false)) .nil) .nil) (.cons (.ret (.tmp (.blt .all1 (.cons (.compO (.bop true (.cons (.call 6 (.cons (.var 0) .nil)) (.cons (.call 8 (.cons (.var 1) (.cons (.var 2) .nil))) .nil))) (.tup (.cons (.name 0) (.cons (.name 1) .nil))) (.var 3) .nil ["name","tie"] [1]) .nil)))) .nil))))
theorem Cn:aJ sZ  gI (ah jf)=true:=by decide +kernel
noncomputable abbrev eR:Stmt:=top 15
theorem qB:aq ["net","end","waits","ties","names","a","b","rides"] ["net"] (af eR):=by walk_at "SC"
noncomputable def kN:Cfg:=mkc ["net","end","waits","ties","names","a","b","rides"] eR 10
noncomputable def eA:Ss:=(.cons (.set (.tup (.cons (.name 1) (.cons (.name 2) (.cons (.name 3) .nil)))) (.var 0)) (.cons (.set (.name 4) (.blt .list1 (.cons (.var 2) .nil))) (.cons (.forK (.tup (.cons (.name 5) (.cons (.name 6) (.cons (.name 7) .nil)))) .values (.var 3) (.cons (.aug 4 .Add (.lst (.cons (.var 5) (.cons (.var 6) .nil)))) .nil)) (.cons (.ret (.un .ssT (.var 4))) .nil))))
theorem su:aJ kN  eA (ah eR)=true:=by decide +kernel
noncomputable abbrev g_:Stmt:=top 17
theorem vd:aq ["_law_script","_law_k"] ["_law_script","_law_k"] (af g_):=by walk_at "SC"
noncomputable def pO:Cfg:=mkc ["_law_script","_law_k"] g_ 11
noncomputable def fN:Ss:=(.cons (.ret (.ite (.cmp .Lt (.var 1) (.blt .len (.cons (.var 0) .nil))) (.ix (.var 0) (.var 1)) (.int 0))) .nil)
theorem yj:aJ pO  fN (ah g_)=true:=by decide +kernel
noncomputable abbrev f7:Stmt:=top 18
theorem uh:aq ["_law_script","_law_k","_law_cell"] ["_law_script","_law_k"] (af f7):=by walk_at "SC"
noncomputable def mD:Cfg:=mkc ["_law_script","_law_k","_law_cell"] f7 12
noncomputable def fg:Ss:=(.cons (.set (.name 2) (.call 11 (.cons (.var 0) (.cons (.var 1) .nil)))) (.cons (.ret (.lst (.cons (.blt .max2 (.cons (.int 0) (.cons (.bin .Sub (.var 2) (.bin .Pow (.int 10) (.int 18))) .nil))) (.cons (.bin .Mod (.bin .Add (.bin .Mod (.var 2) (.int 2147483629)) (.bin .Mult (.int 48271) (.bin .Add (.var 1) (.int 1)))) (.int 2147483629)) .nil)))) .nil))
theorem vb:aJ mD  fg (ah f7)=true:=by decide +kernel
noncomputable abbrev eX:Stmt:=top 19
theorem qR:aq ["_law_pot_here","_law_many","_law_digit"] ["_law_pot_here","_law_many"] (af eX):=by walk_at "SC"
noncomputable def k_:Cfg:=mkc ["_law_pot_here","_law_many","_law_digit"] eX 13
noncomputable def eB:Ss:=(.cons (.ifS (.cmp .Gt (.ix (.var 0) (.int 0)) (.int 0)) (.cons (.set (.tup (.cons (.sub (.var 0) (.int 0)) (.cons (.name 2) .nil))) (.blt .divmod (.cons (.ix (.var 0) (.int 0)) (.cons (.var 1) .nil)))) (.cons (.ret (.var 2)) .nil)) .nil) (.cons (.set (.sub (.var 0) (.int 1)) (.bin .Mod (.bin .Add (.bin .Mult (.ix (.var 0) (.int 1)) (.int 39373)) (.int 7919)) (.int 2147483629))) (.cons (.ret (.bin .Mod (.bin .FloorDiv (.bin .Mod (.bin .Mult (.ix (.var 0) (.int 1)) (.ix (.var 0) (.int 1))) (.int 2147483563)) (.int 11)) (.var 1))) .nil)))
theorem sL:aJ k_  eB (ah eX)=true:=by decide +kernel
noncomputable abbrev dS:Stmt:=top 20
theorem nV:aq ["_law_pot_here","_law_some"] ["_law_pot_here","_law_some"] (af dS):=by walk_at "SC"
noncomputable def ju:Cfg:=mkc ["_law_pot_here","_law_some"] dS 14
noncomputable def dG:Ss:=(.cons (.ret (.ix (.var 1) (.call 13 (.cons (.var 0) (.cons (.blt .len (.cons (.var 1) .nil)) .nil))))) .nil)
theorem rJ:aJ ju  dG (ah dS)=true:=by decide +kernel
noncomputable abbrev eP:Stmt:=top 21
theorem qx:aq ["_law_pot_here","_law_taken","_law_letters","_law_name_here"] ["_law_pot_here","_law_taken"] (af eP):=by walk_at "SC"
noncomputable def lr:Cfg:=mkc ["_law_pot_here","_law_taken","_law_letters","_law_name_here"] eP 15
noncomputable def eF:Ss:=(.cons (.set (.name 2) (.str "abcdefghijklmnopqrstuvwxyz")) (.cons (.set (.name 3) (.tmp (.smx .join (.str "") (.comp (.call 14 (.cons (.var 1) (.cons (.var 2) .nil))) (.name 0) (.range1 (.bin .Add (.int 1) (.bin .Mult (.call 13 (.cons (.var 0) (.cons (.int 2) .nil))) (.call 13 (.cons (.var 0) (.cons (.int 8) .nil)))))) .nil ["_law_k"] [0,2])))) (.cons (.ifS (.cmp .Eq (.call 13 (.cons (.var 0) (.cons (.int 12) .nil))) (.int 11)) (.cons (.set (.name 3) (.call 14 (.cons (.var 0) (.cons (.lst (.cons (.str "tie") (.cons (.str "ride") (.cons (.str "waits") (.cons (.str "end") (.cons (.str "without") .nil)))))) .nil)))) .nil) .nil) (.cons (.ifS (.cmp .In (.var 3) (.var 1)) (.cons (.set (.name 3) (.tmp (.ix (.comp (.bin .Add (.sl (.var 2) .no (.yes (.int 7))) (.var 0)) (.name 0) (.chars (.var 2)) (.cons (.cmp .NotIn (.bin .Add (.sl (.var 2) .no (.yes (.int 7))) (.var 0)) (.var 1)) .nil) ["_law_letter"] [1,3]) (.int 0)))) .nil) .nil) (.cons (.expr (.met .append (.var 1) (.cons (.var 3) .nil))) (.cons (.ret (.var 3)) .nil))))))
theorem sU:aJ lr  eF (ah eP)=true:=by decide +kernel
noncomputable abbrev gf:Stmt:=top 22
theorem tJ:aq ["_law_n","_law_d","_law_one","_law_other"] ["_law_n","_law_d"] (af gf):=by walk_at "SC"
noncomputable def mf:Cfg:=mkc ["_law_n","_law_d","_law_one","_law_other"] gf 16
noncomputable def fh:Ss:=(.cons (.par 2 3 (.var 0) (.var 1)) (.cons (.whileS (.cmp .Gt (.var 3) (.int 0)) (.cons (.par 2 3 (.var 3) (.bin .Mod (.var 2) (.var 3))) .nil)) (.cons (.ret (.tup (.cons (.bin .FloorDiv (.var 0) (.var 2)) (.cons (.bin .FloorDiv (.var 1) (.var 2)) .nil)))) .nil)))
theorem vI:aJ mf  fh (ah gf)=true:=by decide +kernel
noncomputable abbrev dQ:Stmt:=top 23
theorem nS:aq ["_law_one","_law_other"] ["_law_one","_law_other"] (af dQ):=by walk_at "SC"
noncomputable def jD:Cfg:=mkc ["_law_one","_law_other"] dQ 17
noncomputable def dI:Ss:=(.cons (.ret (.cmp .Lt (.bin .Mult (.ix (.var 0) (.int 0)) (.ix (.var 1) (.int 1))) (.bin .Mult (.ix (.var 1) (.int 0)) (.ix (.var 0) (.int 1))))) .nil)
theorem qA:aJ jD  dI (ah dQ)=true:=by decide +kernel
noncomputable abbrev eY:Stmt:=top 24
theorem qP:aq ["_law_pot_here","_law_room","_law_den","_law_first","_law_final","_law_come","_law_comes"] ["_law_pot_here","_law_room"] (af eY):=by walk_at "SC"
noncomputable def k8:Cfg:=mkc ["_law_pot_here","_law_room","_law_den","_law_first","_law_final","_law_come","_law_comes"] eY 18
noncomputable def ej:Ss:=(.cons (.set (.name 2) (.bin .Add (.int 1) (.call 13 (.cons (.var 0) (.cons (.tmp (.ix (.lst (.cons (.int 6) (.cons (.bin .Pow (.int 10) (.int 11)) .nil))) (.blt .int1 (.cons (.cmp .Gt (.var 1) (.int 99)) .nil)))) .nil))))) (.cons (.set (.name 3) (.call 13 (.cons (.var 0) (.cons (.var 1) .nil)))) (.cons (.set (.name 4) (.bin .Add (.var 3) (.bin .Mult (.call 13 (.cons (.var 0) (.cons (.var 1) .nil))) (.blt .int1 (.cons (.cmp .Gt (.call 13 (.cons (.var 0) (.cons (.int 4) .nil))) (.int 0)) .nil))))) (.cons (.set (.name 5) (.bin .Add (.var 3) (.bin .Mult (.call 13 (.cons (.var 0) (.cons (.var 1) .nil))) (.blt .int1 (.cons (.cmp .Gt (.call 13 (.cons (.var 0) (.cons (.int 3) .nil))) (.int 0)) .nil))))) (.cons (.set (.name 6) (.bin .Add (.var 4) (.bin .Mult (.call 13 (.cons (.var 0) (.cons (.var 1) .nil))) (.blt .int1 (.cons (.cmp .Gt (.call 13 (.cons (.var 0) (.cons (.int 3) .nil))) (.int 0)) .nil))))) (.cons (.ifS (.cmp .Eq (.var 4) (.var 3)) (.cons (.set (.name 6) (.var 5)) .nil) .nil) (.cons (.ret (.tmp (.blt .tuple1 (.cons (.comp (.call 16 (.cons (.var 0) (.cons (.var 1) .nil))) (.name 0) (.seq (.tup (.cons (.var 3) (.cons (.var 4) (.cons (.var 5) (.cons (.var 6) .nil)))))) .nil ["_law_number"] [2]) .nil)))) .nil)))))))
theorem sY:aJ k8  ej (ah eY)=true:=by decide +kernel
noncomputable abbrev dN:Stmt:=top 25
theorem n_:aq ["_law_pot_here","_law_den","_law_found","_law_end_here","_law_high","_law_k","_law_begin","_law_low_here","_law_ride_here"] ["_law_pot_here"] (af dN):=by walk_at "SC"
noncomputable def jz:Cfg:=mkc ["_law_pot_here","_law_den","_law_found","_law_end_here","_law_high","_law_k","_law_begin","_law_low_here","_law_ride_here"] dN 19
noncomputable def dJ:Ss:=(.cons (.set (.name 1) (.bin .Add (.int 1) (.call 13 (.cons (.var 0) (.cons (.int 6) .nil))))) (.cons (.set (.name 2) (.lst .nil)) (.cons (.set (.tup (.cons (.name 3) (.cons (.name 4) .nil))) (.tup (.cons (.int 0) (.cons (.int 0) .nil)))) (.cons (.forS (.name 5) (.range1 (.bin .Add (.int 1) (.call 13 (.cons (.var 0) (.cons (.int 3) .nil))))) (.cons (.set (.name 6) (.var 3)) (.cons (.set (.name 3) (.bin .Add (.bin .Add (.var 6) (.call 13 (.cons (.var 0) (.cons (.int 9) .nil)))) (.blt .int1 (.cons (.cmp .Gt (.var 5) (.int 0)) .nil)))) (.cons (.set (.name 7) (.bin .Add (.blt .max2 (.cons (.var 4) (.cons (.var 6) .nil))) (.bin .Mult (.call 13 (.cons (.var 0) (.cons (.int 4) .nil))) (.call 13 (.cons (.var 0) (.cons (.int 2) .nil)))))) (.cons (.set (.name 4) (.bin .Add (.blt .max2 (.cons (.var 7) (.cons (.var 3) .nil))) (.bin .Mult (.call 13 (.cons (.var 0) (.cons (.int 5) .nil))) (.blt .int1 (.cons (.cmp .Gt (.var 3) (.var 6)) .nil))))) (.cons (.set (.name 8) (.tmp (.blt .tuple1 (.cons (.comp (.call 16 (.cons (.var 0) (.cons (.var 1) .nil))) (.name 0) (.seq (.tup (.cons (.var 6) (.cons (.var 3) (.cons (.var 7) (.cons (.var 4) .nil)))))) .nil ["_law_number"] [1]) .nil)))) (.cons (.expr (.met .insert (.var 2) (.cons (.call 13 (.cons (.var 0) (.cons (.bin .Add (.blt .len (.cons (.var 2) .nil)) (.int 1)) .nil))) (.cons (.var 8) .nil)))) .nil))))))) (.cons (.ret (.bin .Add (.var 2) (.sl (.var 2) .no (.yes (.bin .FloorDiv (.call 13 (.cons (.var 0) (.cons (.int 4) .nil))) (.int 3)))))) .nil)))))
theorem rT:aJ jz  dJ (ah dN)=true:=by decide +kernel
noncomputable abbrev dR:Stmt:=top 26
theorem ox:aq ["_law_pot_here","_law_room"] ["_law_pot_here","_law_room"] (af dR):=by walk_at "SC"
noncomputable def jt:Cfg:=mkc ["_law_pot_here","_law_room"] dR 20
noncomputable def dE:Ss:=(.cons (.ifS (.cmp .Eq (.call 13 (.cons (.var 0) (.cons (.int 3) .nil))) (.int 0)) (.cons (.ret (.blt .tuple1 (.cons (.call 19 (.cons (.var 0) .nil)) .nil))) .nil) .nil) (.cons (.ret (.tmp (.blt .tuple1 (.cons (.comp (.call 18 (.cons (.var 1) (.cons (.var 2) .nil))) (.name 0) (.range1 (.call 13 (.cons (.var 0) (.cons (.int 4) .nil)))) .nil ["_law_k"] [0,1]) .nil)))) .nil))
theorem qy:aJ jt  dE (ah dR)=true:=by decide +kernel
noncomputable abbrev fT:Stmt:=top 27
theorem sE:aq ["_law_pot_here","_law_ties","_law_end_here","_law_start","_law_goal","_law_rides_here","_law_ride_here"] ["_law_pot_here","_law_ties"] (af fT):=by walk_at "SC"
noncomputable def mN:Cfg:=mkc ["_law_pot_here","_law_ties","_law_end_here","_law_start","_law_goal","_law_rides_here","_law_ride_here"] fT 21
noncomputable def fo:Ss:=(.cons (.set (.name 2) (.tup (.cons (.int 0) (.cons (.int 1) .nil)))) (.cons (.forK (.tup (.cons (.name 3) (.cons (.name 4) (.cons (.name 5) .nil)))) .values (.var 1) (.cons (.forS (.name 6) (.seq (.var 5)) (.cons (.ifS (.call 17 (.cons (.var 2) (.cons (.ix (.var 6) (.int 1)) .nil))) (.cons (.set (.name 2) (.ix (.var 6) (.int 1))) .nil) .nil) .nil)) .nil)) (.cons (.ifS (.cmp .Gt (.call 13 (.cons (.var 0) (.cons (.int 3) .nil))) (.int 0)) (.cons (.set (.name 2) (.tup (.cons (.bin .Add (.bin .Add (.bin .FloorDiv (.ix (.var 2) (.int 0)) (.ix (.var 2) (.int 1))) (.int 1)) (.call 13 (.cons (.var 0) (.cons (.int 5) .nil)))) (.cons (.int 1) .nil)))) .nil) .nil) (.cons (.ret (.var 2)) .nil))))
theorem uW:aJ mN  fo (ah fT)=true:=by decide +kernel
noncomputable abbrev gk:Stmt:=top 28
theorem uB:aq ["_law_pot_here","_law_taken","_law_named","_law_ties","_law_places_here","_law_room","_law_k","_law_a","_law_b","_law_waits"] ["_law_pot_here"] (af gk):=by walk_at "SC"
noncomputable def mU:Cfg:=mkc ["_law_pot_here","_law_taken","_law_named","_law_ties","_law_places_here","_law_room","_law_k","_law_a","_law_b","_law_waits"] gk 22
noncomputable def fj:Ss:=(.cons (.set (.tup (.cons (.name 1) (.cons (.name 2) (.cons (.name 3) .nil)))) (.tup (.cons (.lst .nil) (.cons (.lst .nil) (.cons .dct0 .nil))))) (.cons (.set (.name 4) (.comp (.call 15 (.cons (.var 1) (.cons (.var 2) .nil))) (.name 0) (.range1 (.bin .Add (.int 2) (.call 13 (.cons (.var 0) (.cons (.int 3) .nil))))) .nil ["_law_k"] [0,1])) (.cons (.set (.name 5) (.call 14 (.cons (.var 0) (.cons (.lst (.cons (.int 12) (.cons (.int 40) (.cons (.bin .Mult (.int 2) (.bin .Pow (.int 10) (.int 11))) .nil)))) .nil)))) (.cons (.forS (.name 6) (.range1 (.call 13 (.cons (.var 0) (.cons (.int 6) .nil)))) (.cons (.set (.name 7) (.call 13 (.cons (.var 0) (.cons (.blt .len (.cons (.var 4) .nil)) .nil)))) (.cons (.set (.name 8) (.bin .Mod (.bin .Add (.bin .Add (.var 7) (.int 1)) (.call 13 (.cons (.var 0) (.cons (.bin .Sub (.blt .len (.cons (.var 4) .nil)) (.int 1)) .nil)))) (.blt .len (.cons (.var 4) .nil)))) (.cons (.set (.sub (.var 3) (.call 15 (.cons (.var 0) (.cons (.var 2) .nil)))) (.tup (.cons (.ix (.var 4) (.var 7)) (.cons (.ix (.var 4) (.var 8)) (.cons (.call 20 (.cons (.var 0) (.cons (.var 5) .nil))) .nil))))) .nil)))) (.cons (.set (.name 9) (.blt .tuple1 (.cons (.blt .sortS (.cons (.comp (.var 0) (.name 0) (.seq (.var 4)) (.cons (.cmp .Eq (.call 13 (.cons (.var 1) (.cons (.int 2) .nil))) (.int 1)) .nil) ["_law_place"] [0]) .nil)) .nil))) (.cons (.ret (.tup (.cons (.call 21 (.cons (.var 0) (.cons (.var 3) .nil))) (.cons (.var 9) (.cons (.var 3) .nil))))) .nil))))))
theorem uJ:aJ mU  fj (ah gk)=true:=by decide +kernel
noncomputable abbrev bZ:Stmt:=top 29
theorem jk:aq ["_law_thing"] ["_law_thing"] (af bZ):=by walk_at "SC"
noncomputable def fv:Cfg:=mkc ["_law_thing"] bZ 23
noncomputable def b_:Ss:=(.cons (.ifS (.bop false (.cons (.not (.inst (.var 0) "tuple")) (.cons (.cmp .NotEq (.blt .len (.cons (.var 0) .nil)) (.int 2)) .nil))) (.cons (.ret (.bl false)) .nil) .nil) (.cons (.ifS (.bop false (.cons (.tmp (.blt .any1 (.cons (.comp (.bop false (.cons (.inst (.var 0) "bool") (.cons (.not (.inst (.var 0) "int")) .nil))) (.name 0) (.seq (.var 0)) .nil ["_law_one"] []) .nil))) (.cons (.cmp .Lt (.ix (.var 0) (.int 0)) (.int 0)) (.cons (.cmp .Lt (.ix (.var 0) (.int 1)) (.int 1)) .nil)))) (.cons (.ret (.bl false)) .nil) .nil) (.cons (.ret (.cmp .Eq (.call 16 (.cons (.ix (.var 0) (.int 0)) (.cons (.ix (.var 0) (.int 1)) .nil))) (.var 0))) .nil)))
theorem kC:aJ fv  b_ (ah bZ)=true:=by decide +kernel
noncomputable abbrev cI:Stmt:=top 30
theorem lF:aq ["_law_thing","_law_first","_law_final","_law_come","_law_comes"] ["_law_thing"] (af cI):=by walk_at "SC"
noncomputable def gS:Cfg:=mkc ["_law_thing","_law_first","_law_final","_law_come","_law_comes"] cI 24
noncomputable def cE:Ss:=(.cons (.ifS (.bop false (.cons (.not (.inst (.var 0) "tuple")) (.cons (.cmp .NotEq (.blt .len (.cons (.var 0) .nil)) (.int 4)) (.cons (.not (.tmp (.blt .all1 (.cons (.comp (.call 23 (.cons (.var 0) .nil)) (.name 0) (.seq (.var 0)) .nil ["_law_one"] []) .nil)))) .nil)))) (.cons (.ret (.bl false)) .nil) .nil) (.cons (.set (.tup (.cons (.name 1) (.cons (.name 2) (.cons (.name 3) (.cons (.name 4) .nil))))) (.var 0)) (.cons (.ifS (.bop false (.cons (.call 17 (.cons (.var 2) (.cons (.var 1) .nil))) (.cons (.call 17 (.cons (.var 3) (.cons (.var 1) .nil))) (.cons (.call 17 (.cons (.var 4) (.cons (.var 2) .nil))) .nil)))) (.cons (.ret (.bl false)) .nil) .nil) (.cons (.ret (.bop false (.cons (.cmp .NotEq (.var 1) (.var 2)) (.cons (.cmp .Eq (.var 3) (.var 4)) .nil)))) .nil))))
theorem mI:aJ gS  cE (ah cI)=true:=by decide +kernel
noncomputable abbrev cH:Stmt:=top 31
theorem lu:aq ["_law_thing"] ["_law_thing"] (af cH):=by walk_at "SC"
noncomputable def gF:Cfg:=mkc ["_law_thing"] cH 25
noncomputable def cJ:Ss:=(.cons (.ifS (.bop false (.cons (.not (.inst (.var 0) "str")) (.cons (.cmp .NotIn (.blt .len (.cons (.var 0) .nil)) (.tup (.cons (.int 1) (.cons (.int 2) (.cons (.int 3) (.cons (.int 4) (.cons (.int 5) (.cons (.int 6) (.cons (.int 7) (.cons (.int 8) .nil)))))))))) .nil))) (.cons (.ret (.bl false)) .nil) .nil) (.cons (.ret (.un .isE (.comp (.var 0) (.name 0) (.chars (.var 0)) (.cons (.cmp .NotIn (.var 0) (.str "abcdefghijklmnopqrstuvwxyz")) .nil) ["_law_sign"] []))) .nil))
theorem mR:aJ gF  cJ (ah cH)=true:=by decide +kernel
noncomputable abbrev dh:Stmt:=top 32
theorem ma:aq ["_law_end_here","_law_thing"] ["_law_end_here","_law_thing"] (af dh):=by walk_at "SC"
noncomputable def iM:Cfg:=mkc ["_law_end_here","_law_thing"] dh 26
noncomputable def cV:Ss:=(.cons (.ifS (.bop false (.cons (.not (.inst (.var 1) "tuple")) (.cons (.cmp .NotEq (.blt .len (.cons (.var 1) .nil)) (.int 3)) (.cons (.not (.call 25 (.cons (.ix (.var 1) (.int 0)) .nil))) (.cons (.not (.call 25 (.cons (.ix (.var 1) (.int 1)) .nil))) .nil))))) (.cons (.ret (.bl false)) .nil) .nil) (.cons (.ifS (.bop false (.cons (.cmp .Eq (.ix (.var 1) (.int 0)) (.ix (.var 1) (.int 1))) (.cons (.not (.inst (.ix (.var 1) (.int 2)) "tuple")) .nil))) (.cons (.ret (.bl false)) .nil) .nil) (.cons (.ret (.tmp (.blt .all1 (.cons (.comp (.bop true (.cons (.call 24 (.cons (.var 0) .nil)) (.cons (.not (.call 17 (.cons (.var 1) (.cons (.ix (.var 0) (.int 1)) .nil)))) .nil))) (.name 0) (.seq (.ix (.var 1) (.int 2))) .nil ["_law_ride_here"] [0]) .nil)))) .nil)))
theorem oK:aJ iM  cV (ah dh)=true:=by decide +kernel
noncomputable abbrev de:Stmt:=top 33
theorem nL:aq ["_law_thing"] ["_law_thing"] (af de):=by walk_at "SC"
noncomputable def iG:Cfg:=mkc ["_law_thing"] de 27
noncomputable def cY:Ss:=(.cons (.ifS (.bop false (.cons (.not (.inst (.var 0) "tuple")) (.cons (.cmp .NotEq (.blt .len (.cons (.var 0) .nil)) (.int 3)) (.cons (.not (.call 23 (.cons (.ix (.var 0) (.int 0)) .nil))) .nil)))) (.cons (.ret (.bl false)) .nil) .nil) (.cons (.ifS (.bop false (.cons (.not (.inst (.ix (.var 0) (.int 1)) "tuple")) (.cons (.not (.tmp (.blt .all1 (.cons (.comp (.call 25 (.cons (.var 0) .nil)) (.name 0) (.seq (.ix (.var 0) (.int 1))) .nil ["_law_place"] []) .nil)))) .nil))) (.cons (.ret (.bl false)) .nil) .nil) (.cons (.ifS (.bop false (.cons (.cmp .NotEq (.blt .list1 (.cons (.ix (.var 0) (.int 1)) .nil)) (.un .ssT (.ix (.var 0) (.int 1)))) (.cons (.not (.inst (.ix (.var 0) (.int 2)) "dict")) .nil))) (.cons (.ret (.bl false)) .nil) .nil) (.cons (.ret (.tmp (.blt .all1 (.cons (.compO (.bop true (.cons (.call 25 (.cons (.var 0) .nil)) (.cons (.call 26 (.cons (.ix (.var 2) (.int 0)) (.cons (.var 1) .nil))) .nil))) (.tup (.cons (.name 0) (.cons (.name 1) .nil))) (.ix (.var 0) (.int 2)) .nil ["_law_name_here","_law_tie"] [0]) .nil)))) .nil))))
theorem nX:aJ iG  cY (ah de)=true:=by decide +kernel
noncomputable abbrev gj:Stmt:=top 34
theorem sf:aq ["_law_pot_here","_law_some"] ["_law_pot_here"] (af gj):=by walk_at "SC"
noncomputable def mV:Cfg:=mkc ["_law_pot_here","_law_some"] gj 28
noncomputable def e7:Ss:=(.cons (.set (.name 1) (.lst (.cons .non (.cons (.int 7) (.cons (.bl true) (.cons (.str "a") (.cons (.str "Abc") (.cons (.str "abcdefghi") (.cons (.str "a b") (.cons (.str "") (.cons (.str "tie") (.cons (.tup .nil) (.cons (.lst .nil) (.cons .dct0 (.cons (.tup (.cons (.int 1) .nil)) (.cons (.tup (.cons (.int 1) (.cons (.int 1) .nil))) (.cons (.tup (.cons (.int 2) (.cons (.int 4) .nil))) (.cons (.tup (.cons (.int 0) (.cons (.int 2) .nil))) (.cons (.tup (.cons (.int 1) (.cons (.int 0) .nil))) .nil))))))))))))))))))) (.cons (.set (.name 1) (.bin .Add (.var 1) (.lst (.cons (.tup (.cons (.neg (.int 1)) (.cons (.int 1) .nil))) (.cons (.tup (.cons (.bl true) (.cons (.int 1) .nil))) (.cons (.tup (.cons (.int 1) (.cons (.bl true) .nil))) (.cons (.lst (.cons (.int 1) (.cons (.int 1) .nil))) (.cons (.tup (.cons (.int 1) (.cons (.int 1) (.cons (.int 1) .nil)))) (.cons (.tup (.cons (.str "1") (.cons (.int 1) .nil))) (.cons (.tup (.cons (.bin .Sub (.bin .Pow (.int 10) (.int 12)) (.int 1)) (.cons (.int 1) .nil))) (.cons (.tup (.cons (.str "a") (.cons (.str "b") .nil))) (.cons (.tup (.cons .non (.cons (.int 1) .nil))) .nil)))))))))))) (.cons (.ret (.call 14 (.cons (.var 0) (.cons (.bin .Add (.var 1) (.lst (.cons (.str "a~") (.cons (.str "{b") (.cons (.str "a_") (.cons (.str "`") .nil)))))) .nil)))) .nil)))
theorem v5:aJ mV  e7 (ah gj)=true:=by decide +kernel
noncomputable abbrev fU:Stmt:=top 35
theorem tK:aq ["_law_pot_here","_law_row","_law_thing","_law_found"] ["_law_pot_here","_law_row","_law_thing"] (af fU):=by walk_at "SC"
noncomputable def m5:Cfg:=mkc ["_law_pot_here","_law_row","_law_thing","_law_found"] fU 29
noncomputable def ff:Ss:=(.cons (.set (.name 3) (.blt .list1 (.cons (.var 1) .nil))) (.cons (.ifS (.un .isE (.var 3)) (.cons (.ret (.tup (.cons (.var 2) .nil))) .nil) .nil) (.cons (.set (.sub (.var 3) (.call 13 (.cons (.var 0) (.cons (.blt .len (.cons (.var 3) .nil)) .nil)))) (.var 2)) (.cons (.ret (.blt .tuple1 (.cons (.var 3) .nil))) .nil))))
theorem vj:aJ m5  ff (ah fU)=true:=by decide +kernel
noncomputable abbrev bt:Stmt:=top 36
theorem gP:aq ["_law_pot_here","_law_rides_here","_law_way","_law_ride_here"] ["_law_pot_here","_law_rides_here"] (af bt):=by walk_at "SC"
noncomputable def dM:Cfg:=mkc ["_law_pot_here","_law_rides_here","_law_way","_law_ride_here"] bt 30
noncomputable def bJ:Ss:=(.cons (.set (.name 2) (.call 13 (.cons (.var 0) (.cons (.int 6) .nil)))) (.cons (.ifS (.cmp .Eq (.var 2) (.int 0)) (.cons (.ret (.blt .list1 (.cons (.var 1) .nil))) .nil) .nil) (.cons (.ifS (.bop false (.cons (.cmp .Eq (.var 2) (.int 1)) (.cons (.cmp .Eq (.var 1) (.tup .nil)) .nil))) (.cons (.ret (.bin .Add (.var 1) (.tup (.cons (.call 28 (.cons (.var 0) .nil)) .nil)))) .nil) .nil) (.cons (.set (.name 3) (.ix (.var 1) (.int 0))) (.cons (.ifS (.cmp .Eq (.var 2) (.int 2)) (.cons (.ret (.call 29 (.cons (.var 0) (.cons (.var 1) (.cons (.call 29 (.cons (.var 0) (.cons (.var 3) (.cons (.call 28 (.cons (.var 0) .nil)) .nil)))) .nil))))) .nil) .nil) (.cons (.ifS (.cmp .Eq (.var 2) (.int 3)) (.cons (.ret (.call 29 (.cons (.var 0) (.cons (.var 1) (.cons (.call 29 (.cons (.var 0) (.cons (.var 3) (.cons (.ix (.var 3) (.call 13 (.cons (.var 0) (.cons (.int 4) .nil)))) .nil)))) .nil))))) .nil) .nil) (.cons (.ret (.call 29 (.cons (.var 0) (.cons (.var 1) (.cons (.ix (.lst (.cons (.bin .Add (.var 3) (.sl (.var 3) .no (.yes (.int 1)))) (.cons (.sl (.var 3) .no (.yes (.int 3))) (.cons (.blt .list1 (.cons (.var 3) .nil)) (.cons (.un .rev (.var 3)) .nil))))) (.call 13 (.cons (.var 0) (.cons (.int 4) .nil)))) .nil))))) .nil)))))))
theorem iy:aJ dM  bJ (ah bt)=true:=by decide +kernel
noncomputable abbrev bM:Stmt:=top 37
theorem iW:aq ["_law_pot_here","_law_tie","_law_a","_law_b","_law_rides_here","_law_way"] ["_law_pot_here","_law_tie"] (af bM):=by walk_at "SC"
noncomputable def eS:Cfg:=mkc ["_law_pot_here","_law_tie","_law_a","_law_b","_law_rides_here","_law_way"] bM 31
noncomputable def bV:Ss:=(.cons (.set (.tup (.cons (.name 2) (.cons (.name 3) (.cons (.name 4) .nil)))) (.var 1)) (.cons (.set (.name 5) (.call 13 (.cons (.var 0) (.cons (.int 8) .nil)))) (.cons (.ifS (.cmp .Lt (.var 5) (.int 3)) (.cons (.ret (.tup (.cons (.var 2) (.cons (.var 3) (.cons (.call 30 (.cons (.var 0) (.cons (.var 4) .nil))) .nil))))) .nil) .nil) (.cons (.ifS (.cmp .Eq (.var 5) (.int 3)) (.cons (.ret (.call 29 (.cons (.var 0) (.cons (.var 1) (.cons (.call 28 (.cons (.var 0) .nil)) .nil))))) .nil) .nil) (.cons (.ret (.ix (.lst (.cons (.tup (.cons (.var 2) (.cons (.var 2) (.cons (.var 4) .nil)))) (.cons (.tup (.cons (.var 2) (.cons (.var 3) .nil))) (.cons (.tup (.cons (.var 2) (.cons (.var 3) (.cons (.var 4) (.cons (.var 4) .nil))))) (.cons (.lst (.cons (.var 2) (.cons (.var 3) (.cons (.var 4) .nil)))) .nil))))) (.bin .Sub (.var 5) (.int 4)))) .nil)))))
theorem jy:aJ eS  bV (ah bM)=true:=by decide +kernel
noncomputable abbrev c6:Stmt:=top 38
theorem mJ:aq ["_law_pot_here","_law_net_here","_law_end_here","_law_waits","_law_ties","_law_way","_law_other","_law_key","_law_name_here"] ["_law_pot_here","_law_net_here"] (af c6):=by walk_at "SC"
noncomputable def iP:Cfg:=mkc ["_law_pot_here","_law_net_here","_law_end_here","_law_waits","_law_ties","_law_way","_law_other","_law_key","_law_name_here"] c6 32
noncomputable def cU:Ss:=(.cons (.set (.tup (.cons (.name 2) (.cons (.name 3) (.cons (.name 4) .nil)))) (.var 1)) (.cons (.set (.name 5) (.call 13 (.cons (.var 0) (.cons (.int 12) .nil)))) (.cons (.ifS (.cmp .Eq (.var 5) (.int 0)) (.cons (.ret (.call 28 (.cons (.var 0) .nil))) .nil) .nil) (.cons (.ifS (.cmp .Lt (.var 5) (.int 3)) (.cons (.ret (.call 29 (.cons (.var 0) (.cons (.var 1) (.cons (.call 28 (.cons (.var 0) .nil)) .nil))))) .nil) .nil) (.cons (.ifS (.cmp .Eq (.var 5) (.int 3)) (.cons (.ret (.tup (.cons (.var 2) (.cons (.bin .Add (.var 3) (.sl (.var 3) .no (.yes (.int 1)))) (.cons (.var 4) .nil))))) .nil) .nil) (.cons (.ifS (.cmp .Eq (.var 5) (.int 4)) (.cons (.ret (.tup (.cons (.var 2) (.cons (.ix (.lst (.cons (.blt .list1 (.cons (.var 3) .nil)) (.cons (.un .rev (.var 3)) (.cons (.bin .Add (.var 3) (.tup (.cons (.str "a") .nil))) .nil)))) (.call 13 (.cons (.var 0) (.cons (.int 3) .nil)))) (.cons (.var 4) .nil))))) .nil) .nil) (.cons (.ifS (.cmp .Eq (.var 5) (.int 5)) (.cons (.ret (.ix (.lst (.cons (.blt .list1 (.cons (.var 1) .nil)) (.cons (.bin .Add (.var 1) (.tup (.cons (.int 1) .nil))) (.cons (.sl (.var 1) .no (.yes (.int 2))) (.cons (.tup (.cons (.var 2) (.cons (.var 3) (.cons (.blt .listD (.cons (.var 4) .nil)) .nil)))) .nil))))) (.call 13 (.cons (.var 0) (.cons (.int 4) .nil))))) .nil) .nil) (.cons (.set (.name 6) (.dcp (.var 4))) (.cons (.ifS (.bop false (.cons (.cmp .Eq (.var 5) (.int 6)) (.cons (.eqd false (.var 4) .dct0) .nil))) (.cons (.set (.name 7) (.call 14 (.cons (.var 0) (.cons (.lst (.cons (.int 7) (.cons .non (.cons (.str "") (.cons (.str "A") (.cons (.tup (.cons (.str "a") .nil)) (.cons (.str "abcdefghi") (.cons (.bl true) (.cons (.str "b") .nil))))))))) .nil)))) (.cons (.set (.subO (.var 6) (.var 7)) (.tup (.cons (.str "a") (.cons (.str "b") (.cons (.tup .nil) .nil))))) (.cons (.ret (.tup (.cons (.var 2) (.cons (.var 3) (.cons (.var 6) .nil))))) .nil))) .nil) (.cons (.set (.name 8) (.call 14 (.cons (.var 0) (.cons (.blt .sortD (.cons (.var 4) .nil)) .nil)))) (.cons (.set (.sub (.var 6) (.var 8)) (.call 31 (.cons (.var 0) (.cons (.ix (.var 4) (.var 8)) .nil)))) (.cons (.ret (.tup (.cons (.var 2) (.cons (.var 3) (.cons (.var 6) .nil))))) .nil))))))))))))
theorem oJ:aJ iP  cU (ah c6)=true:=by decide +kernel
noncomputable abbrev c9:Stmt:=top 39
theorem nP:aq ["_law_net_here","_law_found","_law_a","_law_b","_law_rides_here"] ["_law_net_here"] (af c9):=by walk_at "SC"
noncomputable def iO:Cfg:=mkc ["_law_net_here","_law_found","_law_a","_law_b","_law_rides_here"] c9 33
noncomputable def cW:Ss:=(.cons (.set (.name 1) (.blt .list1 (.cons (.ix (.var 0) (.int 1)) .nil))) (.cons (.forK (.tup (.cons (.name 2) (.cons (.name 3) (.cons (.name 4) .nil)))) .values (.ix (.var 0) (.int 2)) (.cons (.set (.name 1) (.bin .Add (.var 1) (.lst (.cons (.var 2) (.cons (.var 3) .nil))))) .nil)) (.cons (.ret (.un .ssT (.var 1))) .nil)))
theorem ou:aJ iO  cW (ah c9)=true:=by decide +kernel
noncomputable abbrev kI:Stmt:=top 40
theorem GX:aq ["_law_script","_law_k","_law_pot_here","_law_thing","_law_due","_law_before","_law_told"] ["_law_script"] (af kI):=by walk_at "SC"
noncomputable def Fl:Cfg:=mkc ["_law_script","_law_k","_law_pot_here","_law_thing","_law_due","_law_before","_law_told"] kI 34
noncomputable def nC:Ss:=(.cons (.forS (.name 1) (.range1 (.blt .max2 (.cons (.int 1) (.cons (.blt .min2 (.cons (.blt .len (.cons (.var 0) .nil)) (.cons (.int 10) .nil))) .nil)))) (.cons (.set (.name 2) (.call 12 (.cons (.var 0) (.cons (.var 1) .nil)))) (.cons (.set (.name 3) (.call 22 (.cons (.var 2) .nil))) (.cons (.ifS (.cmp .Eq (.call 13 (.cons (.var 2) (.cons (.int 2) .nil))) (.int 1)) (.cons (.set (.name 3) (.call 32 (.cons (.var 2) (.cons (.var 3) .nil)))) .nil) .nil) (.cons (.set (.name 4) (.call 27 (.cons (.var 3) .nil))) (.cons (.set (.name 5) (.blt .repr2 (.cons (.var 3) .nil))) (.cons (.ifS (.cmp .NotEq (.blt .repr2 (.cons (.call 9 (.cons (.var 3) .nil)) .nil)) (.blt .repr2 (.cons (.var 4) .nil))) (.cons (.ret (.bl false)) .nil) .nil) (.cons (.ifS (.var 4) (.cons (.set (.name 6) (.call 10 (.cons (.var 3) .nil))) (.cons (.ifS (.bop false (.cons (.not (.inst (.var 6) "list")) (.cons (.cmp .NotEq (.var 6) (.call 33 (.cons (.var 3) .nil))) .nil))) (.cons (.ret (.bl false)) .nil) .nil) (.cons (.expr (.met .append (.var 6) (.cons (.str "zz") .nil))) (.cons (.ifS (.cmp .NotEq (.call 10 (.cons (.var 3) .nil)) (.call 33 (.cons (.var 3) .nil))) (.cons (.ret (.bl false)) .nil) .nil) .nil)))) .nil) (.cons (.ifS (.bop false (.cons (.cmp .NotEq (.blt .repr2 (.cons (.var 3) .nil)) (.var 5)) (.cons (.cmp .NotEq (.blt .repr2 (.cons (.call 9 (.cons (.var 3) .nil)) .nil)) (.blt .repr2 (.cons (.var 4) .nil))) .nil))) (.cons (.ret (.bl false)) .nil) .nil) .nil))))))))) (.cons (.ret (.bl true)) .nil))
theorem Jl:aJ Fl  nC (ah kI)=true:=by decide +kernel
local macro_rules | `(tactic| walk_at "WP")=>do
 let l<-(("oM BG zK zC AN xi EU Eg FI Ep Cy Fk EH Am AA BR xj xn EV Ez Ca E7 CH JJ wV Ea Bb BF AX CJ Ef AY ET FJ JA Fh E1 IC FD Fp CF FC Ex Ee Fq ER Ie EN ID HE zN E3 CD Eo BH Ed E6 FK FP Ih Iz w9 wm Em Ek E8 wz wM zf xg HN Ew Fj HP Fy Fu Fv Bj EW A6 FO IR BD wN Cb wI vT Ar we CK xo zR Fc Cr rY fX nK lY xa sk Fs FR Fm Fo FN EY AC AQ Cf zW E_ HZ FM ES Bd BL FL JK JG Ic JI JB oP FH xE pR oX nv pT rZ oY qc pI o_ Fx Fb Fg mS nD xb wq FA EX Ey FB zU Cz zF Eu ED sC BZ Ap Bt wO v9 El E5 wa wD t5 EM Jo Jk Iu Ir Jm BU Bl Aw BX Er Eh Ft Iq frame Γ_0 Γ_1 Γ_2 Γ_3 Γ_4 Γ_5 Γ_6 Γ_7 Γ_8 Γ_9 Im Hy Hx Ju JD JR HG Jd JM IA IU Ik HS Jb IM JP IS I_ IZ IF HY HJ IV JL Jw Nat.add_assoc ie jr List.append_assoc List.length_append List.length_set List.map_cons List.map_nil List.length_cons List.length_nil List.replicate List.cons_append List.nil_append List.append_nil List.getElem?_cons_zero List.getElem?_cons_succ List.set_cons_zero List.set_cons_succ Option.some.injEq Cell.lst.injEq PV.int.injEq PV.bl.injEq PV.ref.injEq PV.str.injEq PV.tup.injEq PV.rdl.injEq List.cons.injEq and_true true_and exists_eq_left exists_eq_left' exists_eq_right exists_and_left exists_and_right exists_const Bool.not_true Bool.not_false Bool.not_not Bool.not_eq_true' decide_eq_true_eq decide_eq_false_iff_not false_and and_false false_or or_false if_true if_false Bool.false_eq_true reduceCtorEq reduceIte not_false_eq_true Nat.add_zero Nat.zero_add Nat.reduceAdd Nat.reduceSub Nat.reduceLeDiff Int.reduceToNat Int.reducePow Int.reduceLT Int.reduceLE Int.reduceNeg Int.reduceAdd Int.reduceSub Int.reduceMul zh xC exists_eq exists_eq' exists_false ne_eq not_true_eq_false and_assoc Option.join_some Option.join_none decide_true decide_false A_ zS B_ Aj Bn Cs B7 Int.reduceEq Nat.reduceEqDiff Bool.not_eq_false Bool.not_eq_true Bool.and_true Bool.true_and Bool.and_false Bool.false_and Bool.or_false Bool.or_true".splitOn " ").toArray.mapM fun s=>`(Lean.Parser.Tactic.simpLemma|$(Lean.mkIdent s.toName):ident))
 `(tactic|simp only[↓FF,↓E9,↓Ei,↓Fw,$l,*])
theorem qG (hp:Sz 60 p)(hq:Sz 60 q):CMB (p.1:Int) (q.2:Int):=oS (by omega) (by have:=hp.a;omega)
theorem uS {as st Q}(h:bj as st Q):aD Γ e6 (frame 2 as) st (ai st Q):=by obtain⟨p,q,rfl,hp,hq,k⟩:=h;unfold e6;walk_at "WP";refine⟨qG hp hq,qG hq hp,?_⟩;rw[<-M_,<-M_];simp only[Int.ofNat_lt];exact .inl k
theorem qD {as st Q}(h:fm as st Q):aD Γ dI (frame 2 as) st (ai st Q):=by obtain⟨p,q,rfl,hp,hq,k⟩:=h;unfold dI;walk_at "WP";refine⟨qG hp hq,qG hq hp,?_⟩;rw[<-M_,<-M_];simp only[Int.ofNat_lt];exact .inl k
theorem yg {as st Q}(h:eL as st Q):aD Γ fN (frame 2 as) st (ai st Q):=by
 obtain⟨ns,m,rfl,hl,k⟩:=h;unfold fN;walk_at "WP";rw[LA];by_cases hk:m<ns.length
 ·rw[K1 (by omega)];exact⟨_,zL hk,.inl (k _)⟩
 ·rw[KW (by omega)];exact .inl (k _)
theorem vG {as st Q}(h:dv as st Q):aD Γ fg (frame 3 as) st (ai st Q):=by obtain⟨ns,m,rfl,hl,hm,k⟩:=h;unfold fg;walk_at "WP";refine⟨ns,m,rfl,hl,fun z=>?_⟩;walk_at "WP";refine⟨HB,oS (by decide) (by decide),.inl (k _ _ ⟨?_,by omega,by omega⟩)⟩;split <;> omega
theorem ui {as st Q}(h:cM as st Q):aD Γ eB (frame 3 as) st (ai st Q):=by
 obtain⟨p,many,rfl,⟨q,r,hp,hq,hr0,hr1⟩,hm,hm2,k⟩:=h;have g0:Gr st p st:=.refl ⟨q,r,hp,hq,hr0,hr1⟩;unfold eB;walk_at "WP";refine⟨_,av hp,_,mS,?_⟩;walk_at "WP";by_cases hz:0<q
 ·rw[K1 hz];refine⟨_,av hp,_,mS,?_⟩;walk_at "WP";refine⟨lR hm hm2,_,hp,0,rfl,?_⟩;exact .inl (k _ _ (OG _ (by omega)) (N_ _ hm) (g0.set ⟨Int.ediv_nonneg (by omega) (by omega),hr0,hr1⟩))
 ·rw[KW hz];refine⟨_,av hp,_,nD,?_⟩;walk_at "WP";refine⟨E4 (by decide) (by decide),_,hp,1,rfl,?_⟩;have hs:∀z,(st.set p (pc q z))[p]?=some (pc q z):=fun z=>KR (ak hp);refine⟨_,av (hs _),_,nD,_,av (hs _),_,nD,?_⟩;walk_at "WP";refine⟨oS (by omega) (by omega),lR (by decide) (by decide),hm,?_⟩;exact .inl (k _ _ (OG _ (by omega)) (N_ _ hm) (g0.set ⟨hq,by omega,by omega⟩))
theorem ax {st:AH}{n:Nat}(h:st[n]?=some (.lst xs)):aT st (.ref n)=some xs:=by simp[aT,h]
theorem iq {α:Type}{xs:List α}{i:Nat}{x:α}(h:xs[i]?=some x):atI xs (i:Int)=some x:=f6 h
theorem qJ {as st Q}(h:bK as st Q):aD Γ dG (frame 2 as) st (ai st Q):=by
 obtain⟨p,v,n,f,rfl,hp,h0,h1,hs,k⟩:=h;unfold dG;walk_at "WP";rcases hs with⟨z,rfl,hz,hf⟩|⟨m,xs,rfl,hm,hx,hl,hf⟩
 ·refine⟨by omega,p,n,by rw[hz],hp,by omega,by omega,fun x s1 a1 b1 g1=>?_⟩;obtain⟨x,rfl⟩:∃j:Nat,x=j:=⟨x.toNat,by omega⟩;have hx:x<z.cps.toList.length:=by have:z.cps.toList.length=z.length:=LI;omega
  have e:=K6 hx;refine⟨by omega,_,iq e,?_⟩;rw[<-hf _ _ e];exact .inl (k _ _ (by omega) g1)
 ·refine⟨xs,av hx,p,n,by rw[hl],hp,by omega,by omega,fun x s1 a1 b1 g1=>?_⟩;obtain⟨x,rfl⟩:∃j:Nat,x=j:=⟨x.toNat,by omega⟩;have e:=K6 (show x<xs.length by omega);refine⟨xs,av (g1.get hx hm),_,iq e,?_⟩;rw[<-hf _ _ e];exact .inl (k _ _ (by omega) g1)
theorem uV {as st Q}(h:du as st Q):aD Γ fh (frame 4 as) st (ai st Q):=by
 obtain⟨n,d,rfl,h0,h1,k⟩:=h;unfold fh;walk_at "WP";refine tu Γm (fun j ρ s=>s=st/\∃a:Nat,ρ=[some (.int n),some (.int d),some (.int a),some (.int j)]/\Nat.gcd a j=Nat.gcd n d) (n:=d) ⟨rfl,n,rfl,rfl⟩ ?_;rintro m ρ s ⟨rfl,a,rfl,hg⟩;walk_at "WP";by_cases hb:(0:Int)<m
 ·rw[K1 hb];exact⟨hb,a % m,OP _ (by omega),m,rfl,by simp,by rw[<-hg,NW a m,Nat.gcd_rec m a,NW]⟩
 ·rw[KW hb];have:m=0:=by omega
  subst this;rw[Nat.gcd_zero_right] at hg;subst hg;refine⟨xw h0 h1,xw h0 h1,?_⟩;rw[<-Int.natCast_ediv,<-Int.natCast_ediv];exact .inl k
theorem bz (b:Bool):b2z b=0\/b2z b=1:=by cases b <;> simp[b2z]
theorem rQ {x:Int}(h:0<=x):0<=x*b2z b/\x*b2z b<=x:=by rcases bz b with e|e <;> rw[e] <;> omega
theorem qY:CMB x (b2z b):=by rcases bz b with e|e <;> rw[e] <;> exact E4 (by decide) (by decide)
noncomputable def nxE (P:Fr->AH->Prop):a8:={ nx:=P,rt:=fun _ _=>False }
theorem Hf:(nxE P).nx ρ st=P ρ st:=rfl
local macro_rules | `(tactic| walk_at "WPN")=>`(tactic| ((try walk_at "WP");repeat (simp only [Hf];try walk_at "WP")))
theorem bA {D:a8}(P:Fr->AH->Prop)(h1:wpS Γ s ρ st (nxE P))(h2:∀ρ' st',P ρ' st'->aD Γ ss ρ' st' D):aD Γ (.cons s ss) ρ st D:=by
 cases ss with
 | nil=>exact jB (D:=nxE P) Γm s ⟨fun ρ st z=>h2 ρ st z,fun _ _ z=>False.elim z,fun _ _ z=>False.elim z,fun _ _ z=>False.elim z⟩ h1
 | cons s2 ss=>exact jB (D:=nxE P) (D':=aft Γ (.cons s2 ss) D) Γm s ⟨fun ρ st z=>h2 ρ st z,fun _ _ z=>False.elim z,fun _ _ z=>False.elim z,fun _ _ z=>False.elim z⟩ h1
theorem a7 {P:Prop}[Decidable P]{A B:Prop}(h1:P->A)(h2:¬P->B):(if P then A else B):=by split;exact h1 ‹_›;exact h2 ‹_›
noncomputable def abc:List Nat:=[97,98,99,100,101,102,103,104,105,106,107,108,109,110,111,112,113,114,115,116,117,118,119,120,121,122]
theorem CG:("abcdefghijklmnopqrstuvwxyz":Str).cps.toList=abc:=by decide +kernel
theorem CQ:("abcdefghijklmnopqrstuvwxyz":Str).length=26:=by decide +kernel
theorem Nm.app {c:Nat}(h:Nm z)(hl:z.length<=7)(hc:c∈abc):Nm (z++(⟨#[c]⟩:Str)):=by
 have hc':c<1114112:=by
  have:∀c∈abc,c<1114112:=by decide
  exact this c hc
 refine⟨?_,?_⟩
 ·rw[strLen_append];show z.length+1<=8;omega
 ·show (z.cps++#[c]).all (·< 1114112)=true;have o:z.cps.all (·< 1114112)=true:=h.ok;rw[Array.all_append,o];simp[hc']
theorem Nm.nil:Nm "":=⟨by decide +kernel,by decide +kernel⟩
theorem Nm.cut (h:Nm z):Nm (l7 z none (some 7))/\(l7 z none (some 7)).length<=7:=by
 have li:(Builtin.Str.strSliceIndices none (some 7) 1 z.length).length<=7:=by unfold Builtin.Str.strSliceIndices sliceRange;simp;omega
 unfold l7;split
 ·rename_i e;have e:=eq_of_beq e;exact⟨h,by omega⟩
 ·have l2:((Builtin.Str.strSliceIndices none (some 7) 1 z.length).filterMap (z.cps[·]?)).length<=7:=K_ (M0 _ _) li;refine⟨⟨?_,?_⟩,?_⟩
  ·show (List.toArray _).size<=8;rw[K3];omega
  ·show (List.toArray _).all (·< 1114112)=true;rw[List.all_toArray,ML];intro c hc;obtain⟨i,_,hi⟩:=NN.mp hc;exact Array.all_eq_true_iff_forall_mem.mp h.ok c (Array.mem_of_getElem? hi)
  ·show (List.toArray _).size<=7;rw[K3];exact l2
theorem Ak:∀ {xs ys:List Str},xs.Nodup->(∀x∈xs,x∈ys)->xs.length<=ys.length
 | [],ys,_,_=>LS _
 | x::xs,ys,hn,h=>by rw[KY] at hn;have hx:=h x KP;have:=Ak (xs:=xs) (ys:=ys.erase x) hn.2 fun y hy=>(List.mem_erase_of_ne (a:=y) (b:=x) (fun e=>hn.1 (by rw[<-e];exact hy))).mpr (h y (KN _ hy));rw[List.length_erase_of_mem hx] at this;have:0<ys.length:=List.length_pos_of_mem hx;simp only[List.length_cons];omega
noncomputable def iE (z:Str):List Str:=abc.map fun c=>z++(⟨#[c]⟩:Str)
theorem zM:(iE z).Nodup:=by
 unfold iE;refine List.pairwise_map.mpr ?_;have:abc.Nodup:=by decide
 refine List.Pairwise.imp (fun {a b} ne e=>ne ?_) this;have e2:(z.cps++#[a])=(z.cps++#[b]):=LP Str.cps e;have e3:=LP Array.toList e2;simpa using e3
theorem vh {names:List Str}(h:names.length<26):∃x r,(iE z).filter (fun x=>!(names.any fun j=>j == x))=x::r:=by
 cases q:(iE z).filter (fun x=>!(names.any fun j=>j == x)) with
 | cons x r=>exact⟨x,r,rfl⟩
 | nil =>
  have all:∀x∈iE z,x∈names:=fun x hx=>by have:=List.filter_eq_nil_iff.mp q x hx;simp only[Bool.not_eq_true,Bool.not_eq_false'] at this;obtain⟨j,hj,e⟩:=List.any_eq_true.mp this;rw[<-eq_of_beq e];exact hj
  have:=Ak zM all;have:(iE z).length=26:=by simp[iE,abc]
  omega
theorem yY:bo ("abcdefghijklmnopqrstuvwxyz":Str)=abc.map fun c=>.str ⟨#[c]⟩:=by unfold bo;rw[CG]
noncomputable def jl (names:List Str)(xs:List Str):List Str:=xs.filter fun x=>!(names.any fun j=>j == x)
theorem yi {names xs:List Str}{i:Nat}(h:xs[i]?=some x)(e:(names.any fun j=>j == x)=false):jl names (xs.take (i+1))=jl names (xs.take i)++[x]:=by unfold jl;rw[MB,h];simp only[Option.toList_some,List.filter_append];rw[List.filter_cons_of_pos (by rw[e];rfl),N6]
theorem Ct {names xs:List Str}{i:Nat}(h:xs[i]?=some x)(e:(names.any fun j=>j == x)=true):jl names (xs.take (i+1))=jl names (xs.take i):=by unfold jl;rw[MB,h];simp only[Option.toList_some,List.filter_append];rw[List.filter_cons_of_neg (by rw[e];decide),N6,M8]
theorem Ej {names:List Str}(h:∀z∈names,Nm z){y:Int}(y0:0<=y)(y1:y<names.length):∃z,atI (sV names) y=some (.str z)/\Nm z:=by
 obtain⟨v,ev,z,rfl,hz⟩:=mF (L:=sV names) (P:=fun v=>∃z,v=.str z/\Nm z) (fun v hv=>by obtain⟨z,hz,rfl⟩:=K7.mp hv;exact⟨z,rfl,h z hz⟩) y0 (by simpa[sV] using y1)
 exact⟨z,ev,hz⟩
theorem qb (h1:PyData.strOk a=true)(h2:PyData.strOk b=true):PyData.strOk (a++b)=true:=by show (a.cps++b.cps).all (·< 1114112)=true;rw[Array.all_append,show a.cps.all (·< 1114112)=true from h1,show b.cps.all (·< 1114112)=true from h2];rfl
theorem nG:∀ {S:List Str},(∀y∈S,PyData.strOk y=true)->PyData.strOk (Str.join "" S)=true
 | [],_=>by rw[Str.join];decide +kernel
 | [x],h=>by rw[Str.join];exact h x KP
 | x::y::r,h=>by rw[Str.join.eq_3 _ _ _ (by simp)];exact qb (qb (h x KP) (by decide +kernel)) (nG fun z hz=>h z (KN _ hz))
theorem Ce {S:List Str}(h:∀y∈S,y.length<=1):(Txt.join "" S).length<=S.length:=by
 rw [show Txt.join "" S=Str.join "" S from PySem.StrLaws.glued_eq_join "" S];have:=PySem.StrLaws.join_length_le "" S;have s:=PySem.StrLaws.sumLen_le S h;have e:(Str.ofString "").length=0:=by decide +kernel
 rw[e] at this;omega
theorem C7 {S:List Str}(h:∀y∈S,y.length<=1)(l:S.length<=1000):JoinOk "" S=true:=by
 unfold JoinOk;have e0:S.length*1+S.length*(Str.ofString "").length<=16777216:=by
  have e:(Str.ofString "").length=0:=by decide +kernel
  rw[e];omega
 rw[PySem.StrLaws.joinFits h e0];rfl
theorem F2:Bh st p (.str "abcdefghijklmnopqrstuvwxyz") 26 fun i=>.str ⟨#[abc.getD i 97]⟩:=.inl ⟨_,rfl,CQ,fun i c e=>by rw[CG] at e;show PV.str ⟨#[abc.getD i 97]⟩=_;rw[LW,e];rfl⟩
theorem BP (i:Nat):abc.getD i 97∈abc:=by
 by_cases h:i<abc.length
 ·rw[LW,K6 h];exact M3 h
 ·rw[LW,L4 (by omega)];decide
theorem Nm.lets {S:List Str}(h:∀y∈S,∃c∈abc,y=⟨#[c]⟩)(l:S.length<=8):Nm (Txt.join "" S):=by
 refine⟨K_ (Ce fun y hy=>?_) l,?_⟩
 ·obtain⟨c,_,rfl⟩:=h y hy;exact KJ 1
 ·rw [show Txt.join "" S=Str.join "" S from PySem.StrLaws.glued_eq_join "" S];refine nG fun y hy=>?_;obtain⟨c,hc,rfl⟩:=h y hy;have:∀c∈abc,PyData.strOk ⟨#[c]⟩=true:=by decide +kernel
  exact this c hc
noncomputable def ixF (L:List PV)(i:Nat):PV:=L.getD i .non
theorem qo {st:AH}{p m:Nat}(ne:m≠p)(e:st[m]?=some (.lst L)):Bh st p (.ref m) L.length (ixF L):=.inr ⟨m,L,rfl,ne,e,rfl,fun i x e=>by unfold ixF;rw[LW,e];rfl⟩
theorem qF {L:List PV}{i:Nat}(h:i<L.length):ixF L i∈L:=by unfold ixF;rw[LW,K6 h];exact M3 h
theorem tG {as st Q}(h:cO as st Q):aD Γ eF (frame 4 as) st (ai st Q):=by
 obtain⟨p,t,names,rfl,hp,ht,hn,nl,hN,k⟩:=h;have pl:=hp.lt;unfold eF;refine bA (fun ρ s=>st=s/\ρ=[some (.ref p),some (.ref t),some (.str "abcdefghijklmnopqrstuvwxyz"),none]) (by walk_at "WPN") ?_;rintro _ _ ⟨rfl,rfl⟩;refine bA (fun ρ s=>Gr st p s/\∃z,Nm z/\ρ=[some (.ref p),some (.ref t),some (.str "abcdefghijklmnopqrstuvwxyz"),some (.str z)]) ?_ ?_
 ·walk_at "WPN";refine⟨p,2,rfl,hp,by decide,by decide,fun x s1 x0 x1 g1=>?_⟩;refine⟨p,8,rfl,g1.pot,by decide,by decide,fun y s2 y0 y1 g2=>?_⟩;have xy:0<=x*y/\x*y<=7:=by
   have:x=0\/x=1:=by omega
   rcases this with rfl|rfl <;> omega
  walk_at "WPN";obtain⟨N,hN⟩:∃N:Nat,1+x*y=N:=⟨(1+x*y).toNat,by omega⟩;rw[hN];have hj:(bU 0 (N:Int).toNat).length=N:=by simp[bU]
  refine⟨oS (by omega) (by omega),by omega,by omega,by omega,?_⟩;refine cw Γm (fun i acc s=>Gr st p s/\∃S:List Str,acc=sV S/\S.length=i/\∀y∈S,∃c∈abc,y=(⟨#[c]⟩:Str)) ⟨g1.trans g2,[],rfl,rfl,fun y hy=>(nomatch hy)⟩ ?_ ?_
  ·rintro i v acc s hi ⟨g,S,rfl,hl,hS⟩;refine⟨trivial,?_⟩;walk_at "WPN";refine⟨p,_,26,_,rfl,g.pot,by decide,by decide,F2,fun i' s3 hi' g3=>⟨g.trans g3,S++[⟨#[abc.getD i' 97]⟩],by simp[sV],by simp[hl],fun y hy=>?_⟩⟩;rcases LC.mp hy with hy|hy
   ·exact hS y hy
   ·rw[K4] at hy;exact⟨_,BP i',hy⟩
  ·rintro acc s ⟨g,S,rfl,hl,hS⟩;refine⟨trivial,?_⟩;rw[hj] at hl;refine⟨S,ax aw,C7 (fun y hy=>by obtain⟨c,_,rfl⟩:=hS y hy;exact KJ 1) (by omega),?_⟩;exact g.app.tmp (by rw[PV.bel]) fun s5 g5 _=>⟨g5,_,.lets hS (by omega),rfl⟩
 rintro _ s ⟨g,z,hz,rfl⟩;refine bA (fun ρ s=>Gr st p s/\∃z,Nm z/\ρ=[some (.ref p),some (.ref t),some (.str "abcdefghijklmnopqrstuvwxyz"),some (.str z)]) ?_ ?_
 ·walk_at "WPN";refine⟨p,12,rfl,g.pot,by decide,by decide,fun x s1 x0 x1 g1=>?_⟩;walk_at "WPN";refine a7 (fun c=>?_) fun c=>⟨g.trans g1,z,hz,rfl⟩;have G:=g.trans g1;refine⟨p,_,5,_,rfl,G.pot.app,by decide,by decide,qo G.ne aw,fun i s2 hi g2=>?_⟩;have hm:=qF (L:=[PV.str "tie",.str "ride",.str "waits",.str "end",.str "without"]) hi;have nm:∃z,ixF [PV.str "tie",.str "ride",.str "waits",.str "end",.str "without"] i=.str z/\Nm z:=by simp only[List.mem_cons,List.not_mem_nil,or_false] at hm;rcases hm with e|e|e|e|e <;> exact⟨_,e,by decide +kernel,by decide +kernel⟩
  obtain⟨z',e,hz'⟩:=nm;exact⟨G.app.trans g2,z',hz',e⟩
 rintro _ s ⟨g,z,hz,rfl⟩;have hn1:=g.get hn ht;refine bA (fun ρ s=>Gr st p s/\∃z,Nm z/\ρ=[some (.ref p),some (.ref t),some (.str "abcdefghijklmnopqrstuvwxyz"),some (.str z)]) ?_ ?_
 ·walk_at "WPN";refine .inl ⟨names,hn1,a7 (fun c=>?_) fun c=>⟨g,z,hz,rfl⟩⟩;rw[yY];obtain⟨cz,cl⟩:=hz.cut;have zl:=hz.len;refine⟨by simp[abc],?_⟩;generalize hC:iE (l7 z none (some 7))=C;have cl26:C.length=26:=by rw[<-hC];simp[iE,abc]
  refine cw Γm (fun i acc s'=>s'=s/\acc=sV (jl names (C.take i))) ⟨rfl,by simp[jl]⟩ ?_ ?_
  ·rintro i x acc s' hi ⟨rfl,rfl⟩;rw[K2] at hi;obtain⟨c,hc,rfl⟩:=LR.mp hi;have hx:C[i]?=some (l7 z none (some 7)++(⟨#[c]⟩:Str)):=by rw[<-hC];unfold iE;rw[K2,hc];rfl
   have l1:(l7 z none (some 7)).length+(⟨#[c]⟩:Str).length<=100000:=by show _+1<=100000;omega
   refine⟨trivial,?_⟩;walk_at "WPN";refine⟨by omega,l1,.inl ⟨names,hn1,a7 (fun c=>?_) fun c=>?_⟩⟩
   ·refine⟨by omega,l1,?_⟩;rw[yi hx c];simp[sV]
   ·rw[Ct hx (eq_true_of_ne_false c)]
  ·rintro acc s' ⟨rfl,rfl⟩;refine⟨trivial,?_⟩;have ea:(List.map (fun c=>PV.str ⟨#[c]⟩) abc).length=26:=by simp[abc]
   rw[ea,NU (by omega)];obtain⟨x,r,hf⟩:=vh (z:=l7 z none (some 7)) (names:=names) (by omega);rw[hC] at hf;have hf:jl names C=x::r:=hf;rw[hf];have hx:Nm x:=by have:x∈C:=(List.filter_sublist (p:=fun x=>!(names.any fun j=>j == x))).subset (by rw[show C.filter _=x::r from hf];exact KP);rw[<-hC] at this;obtain⟨c,hc,rfl⟩:=K7.mp this;exact cz.app cl hc
   refine⟨_,av aw,.str x,by simp[atI,ixN],?_⟩;exact .app (by rw[PV.bel]) ⟨g,x,hx,rfl⟩
 rintro _ s ⟨g,z,hz,rfl⟩;have hn1:=g.get hn ht;walk_at "WP";refine⟨⟨_,ax hn1⟩,_,hn1,by simp;omega,.inl (k z _ hz ⟨by rw[MV];exact g.len,fun i h1 h2 h3=>by rw[KU (Ne.symm h3)];exact g.old i h1 h2,?_⟩ ?_)⟩
 ·obtain⟨q,r,e,w⟩:=g.pot;exact⟨q,r,by rw[KU ht];exact e,w⟩
 ·rw[KR (ak hn1)];simp[sV]
theorem qk {n d:Nat}(hd:0<d)(h1:n<10 ^ 12)(h2:d<10 ^ 12):Fz (fw n d):=⟨MS (si n d) h1,MS (B8 n d) h2,uq hd⟩
theorem Hn {d:Nat}(h:d<10 ^ 12):d<2 ^ 8000:=MX h Ia
theorem JC {den:Nat}{a b c d:Nat}(hd:0<den)(h:den<10 ^ 12)(ha:a<10 ^ 12)(hb:b<=4*10 ^ 11)(hc:c<10 ^ 12)(hdd:d<10 ^ 12):RdT (.tup [fr (fw a den),fr (fw b den),fr (fw c den),fr (fw d den)]) :=
 ⟨_,_,_,_,rfl,qk hd ha h,qk hd (by omega) h,qk hd hc h,qk hd hdd h,K_ (si _ _) hb⟩
theorem tV {as st Q}(h:cK as st Q):aD Γ ej (frame 7 as) st (ai st Q):=by
 obtain⟨p,room,rfl,hp,r0,r1,k⟩:=h;unfold ej;refine bA (fun ρ s=>Gr st p s/\∃den:Nat,0<den/\den<=10 ^ 11/\ρ=[some (.ref p),some (.int room),some (.int den),none,none,none,none]) ?_ ?_
 ·walk_at "WPN";refine⟨Fd,?_⟩;have g0:Gr st p (st++[Cell.lst [PV.int 6,PV.int 100000000000]]):=(Gr.refl hp).app;obtain⟨v,ev,m,rfl,m0,m1⟩:=mF (L:=[PV.int 6,PV.int 100000000000]) (P:=fun v=>∃m:Int,v=.int m/\0<m/\m<=10 ^ 11) (fun v hv=>by
   simp only[List.mem_cons,List.not_mem_nil,or_false] at hv;rcases hv with rfl|rfl
   ·exact⟨6,rfl,by decide,by decide⟩
   ·exact⟨_,rfl,by decide,by decide⟩) (y:=b2z (decide (99<room))) (by unfold b2z;split <;> decide) (by unfold b2z;split <;> decide)
  refine⟨_,av aw,_,ev,g0.tmp (by rw[PV.bel]) fun s2 g2 _=>?_⟩;refine⟨p,m,rfl,g2.pot,m0,by omega,fun x s3 x0 x1 g3=>?_⟩;walk_at "WPN";exact⟨g2.trans g3,(1+x).toNat,by omega,by omega,by omega⟩
 rintro _ s ⟨g,den,d0,d1,rfl⟩;refine bA (fun ρ s=>Gr st p s/\∃a:Nat,a<2*10 ^ 11/\ρ=[some (.ref p),some (.int room),some (.int den),some (.int a),none,none,none]) ?_ ?_
 ·walk_at "WPN";refine⟨p,room,rfl,g.pot,r0,by omega,fun x s3 x0 x1 g3=>?_⟩;obtain⟨x,rfl⟩:∃m:Nat,x=m:=⟨x.toNat,by omega⟩;exact⟨g.trans g3,x,by omega,rfl⟩
 rintro _ s ⟨g,a,ha,rfl⟩;refine bA (fun ρ s=>Gr st p s/\∃b:Nat,b<4*10 ^ 11/\ρ=[some (.ref p),some (.int room),some (.int den),some (.int a),some (.int b),none,none]) ?_ ?_
 ·walk_at "WPN";refine⟨p,room,rfl,g.pot,r0,by omega,fun x s3 x0 x1 g3=>⟨p,4,rfl,g3.pot,by decide,by decide,fun y s4 y0 y1 g4=>?_⟩⟩;walk_at "WPN";have:=rQ (x:=x) (b:=decide (0<y)) x0;exact⟨qY,(g.trans g3).trans g4,(a+x*b2z (decide (0<y))).toNat,by omega,by omega⟩
 rintro _ s ⟨g,b,hb,rfl⟩;refine bA (fun ρ s=>Gr st p s/\∃c:Nat,c<4*10 ^ 11/\ρ=[some (.ref p),some (.int room),some (.int den),some (.int a),some (.int b),some (.int c),none]) ?_ ?_
 ·walk_at "WPN";refine⟨p,room,rfl,g.pot,r0,by omega,fun x s3 x0 x1 g3=>⟨p,3,rfl,g3.pot,by decide,by decide,fun y s4 y0 y1 g4=>?_⟩⟩;walk_at "WPN";have:=rQ (x:=x) (b:=decide (0<y)) x0;exact⟨qY,(g.trans g3).trans g4,(a+x*b2z (decide (0<y))).toNat,by omega,by omega⟩
 rintro _ s ⟨g,c,hc,rfl⟩;refine bA (fun ρ s=>Gr st p s/\∃d:Nat,d<6*10 ^ 11/\ρ=[some (.ref p),some (.int room),some (.int den),some (.int a),some (.int b),some (.int c),some (.int d)]) ?_ ?_
 ·walk_at "WPN";refine⟨p,room,rfl,g.pot,r0,by omega,fun x s3 x0 x1 g3=>⟨p,3,rfl,g3.pot,by decide,by decide,fun y s4 y0 y1 g4=>?_⟩⟩;walk_at "WPN";have:=rQ (x:=x) (b:=decide (0<y)) x0;exact⟨qY,(g.trans g3).trans g4,(b+x*b2z (decide (0<y))).toNat,by omega,by omega⟩
 rintro _ s ⟨g,d,hd,rfl⟩;refine bA (fun ρ s=>Gr st p s/\∃d:Nat,d<6*10 ^ 11/\ρ=[some (.ref p),some (.int room),some (.int den),some (.int a),some (.int b),some (.int c),some (.int d)]) ?_ ?_
 ·walk_at "WPN";exact a7 (fun z=>⟨g,c,by omega,rfl⟩) fun z=>⟨g,d,hd,rfl⟩
 rintro _ s ⟨g,d,hd,rfl⟩;walk_at "WP";refine⟨by decide,comp_map Γm (fun x=>match x with | .int z=>fr (fw z.toNat den)|v=>v) trivial (fun x hx=>?_) ?_⟩
 ·have be:=Hn (show den<10 ^ 12 by omega);simp only[List.mem_cons,List.not_mem_nil,or_false] at hx;rcases hx with rfl|rfl|rfl|rfl
  ·walk_at "WP";exact⟨a,den,rfl,d0,be,rfl,rfl⟩
  ·walk_at "WP";exact⟨b,den,rfl,d0,be,rfl,rfl⟩
  ·walk_at "WP";exact⟨c,den,rfl,d0,be,rfl,rfl⟩
  ·walk_at "WP";exact⟨d,den,rfl,d0,be,rfl,rfl⟩
 ·refine⟨_,av aw,.app ?_ (.inl (k _ _ (JC d0 (by omega) (by omega) (by omega) (by omega) (by omega)) g))⟩;simp[PV.bel,PV.bels,fr]
theorem tX {ps:List (Str × PV)}:(bF wk (kd ps)).length=ps.length:=by cases wk <;> simp[bF]
theorem C8 {ps:List (Str × PV)}{z:Str}(h:z ∉ ps.map (·.1)):ly (kd ps) (.inr z) v=kd (ps++[(z,v)]):=by
 unfold ly;have:((kd ps).any fun kv=>decide (kv.1=(.inr z:Key)))=false:=by rw[List.any_eq_false];intro x hx;obtain⟨p,hp,rfl⟩:=K7.mp hx;simp only[decide_eq_true_eq];exact fun e=>h (K7.mpr ⟨p,hp,OU e⟩)
 rw[this,KW KI];simp[kd]
theorem zO {ps:List (Str × PV)}{z:Str}(h:z∈ps.map (·.1)):ly (kd ps) (.inr z) v=kd (ps.map fun p=>if p.1=z then (p.1,v) else p):=by
 unfold ly;have:((kd ps).any fun kv=>decide (kv.1=(.inr z:Key)))=true:=by rw[List.any_eq_true];obtain⟨p,hp,rfl⟩:=K7.mp h;exact⟨_,K7.mpr ⟨p,hp,rfl⟩,by simp⟩
 rw[this,K1 rfl];unfold kd;rw[MA,MA];refine List.map_congr_left fun p _=>?_;simp only[Function.comp,Sum.inr.injEq];by_cases e:p.1=z
 ·rw[K1 e,K1 e]
 ·rw[KW e,KW e]
theorem mL {st:AH}{n:Nat}(h:st[n]?=some c):(st.set n d).set n c=st:=by rw[List.set_set];obtain⟨h1,h2⟩:=KQ.mp h;rw[<-h2];exact List.set_getElem_self h1
theorem get_last2 {st:AH}{a:Cell}:(st++[a,b])[st.length+1]?=some b:=by rw[ie (k:=1)];rfl
noncomputable abbrev gn:Ss:=(.cons (.set (.name 6) (.var 3)) (.cons (.set (.name 3) (.bin .Add (.bin .Add (.var 6) (.call 13 (.cons (.var 0) (.cons (.int 9) .nil)))) (.blt .int1 (.cons (.cmp .Gt (.var 5) (.int 0)) .nil)))) (.cons (.set (.name 7) (.bin .Add (.blt .max2 (.cons (.var 4) (.cons (.var 6) .nil))) (.bin .Mult (.call 13 (.cons (.var 0) (.cons (.int 4) .nil))) (.call 13 (.cons (.var 0) (.cons (.int 2) .nil)))))) (.cons (.set (.name 4) (.bin .Add (.blt .max2 (.cons (.var 7) (.cons (.var 3) .nil))) (.bin .Mult (.call 13 (.cons (.var 0) (.cons (.int 5) .nil))) (.blt .int1 (.cons (.cmp .Gt (.var 3) (.var 6)) .nil))))) (.cons (.set (.name 8) (.tmp (.blt .tuple1 (.cons (.comp (.call 16 (.cons (.var 0) (.cons (.var 1) .nil))) (.name 0) (.seq (.tup (.cons (.var 6) (.cons (.var 3) (.cons (.var 7) (.cons (.var 4) .nil)))))) .nil ["_law_number"] [1]) .nil)))) (.cons (.expr (.met .insert (.var 2) (.cons (.call 13 (.cons (.var 0) (.cons (.bin .Add (.blt .len (.cons (.var 2) .nil)) (.int 1)) .nil))) (.cons (.var 8) .nil)))) .nil))))))
noncomputable abbrev cF (p:Nat)(den:Nat)(F:Nat)(e h:Nat)(a b c d:Option PV):Fr:=[some (.ref p),some (.int den),some (.ref F),some (.int e),some (.int h),a,b,c,d]
theorem qK {as st Q}(h:cq as st Q):aD Γ dJ (frame 9 as) st (ai st Q):=by
 obtain⟨p,rfl,hp,k⟩:=h;have pl:=hp.lt;unfold dJ;refine bA (fun ρ s=>Gr st p s/\∃den:Nat,0<den/\den<=6/\ρ=[some (.ref p),some (.int den),none,none,none,none,none,none,none]) ?_ ?_
 ·walk_at "WPN";refine⟨p,6,rfl,hp,by decide,by decide,fun x s3 x0 x1 g3=>?_⟩;walk_at "WPN";exact⟨g3,(1+x).toNat,by omega,by omega,by omega⟩
 rintro _ s ⟨g,den,d0,d1,rfl⟩;have gl:=g.len;refine bA (fun ρ s'=>s'=s++[.lst []]/\ρ=[some (.ref p),some (.int den),some (.ref s.length),none,none,none,none,none,none]) (by walk_at "WPN") ?_;rintro _ _ ⟨rfl,rfl⟩;refine bA (fun ρ s'=>s'=s++[.lst []]/\ρ=cF p den s.length 0 0 none none none none) (by walk_at "WPN") ?_;rintro _ _ ⟨rfl,rfl⟩;refine bA (fun ρ s'=>∃(L:List PV) (e h:Nat) (a b c d:Option PV),Gr st p s'/\s'[s.length]?=some (.lst L)/\L.length<=3/\(∀v∈L,RdT v)/\ρ=cF p den s.length e h a b c d) ?_ ?_
 ·walk_at "WPN";refine⟨p,3,rfl,g.pot.app,by decide,by decide,fun x s1 x0 x1 g1=>?_⟩;walk_at "WPN";obtain⟨N,hN⟩:∃N:Nat,1+x=N:=⟨(1+x).toNat,by omega⟩;rw[hN];refine⟨by omega,by omega,?_⟩;refine iU Γm (fun i ρ s'=>∃(L:List PV) (e h:Nat) (a b c d:Option PV),Gr st p s'/\s'[s.length]?=some (.lst L)/\L.length=i/\(∀v∈L,RdT v)/\e<=i*10/\h<=i*30/\ρ=cF p den s.length e h a b c d)
   ⟨[],0,0,none,none,none,none,g.app.trans g1,g1.get aw (by omega),rfl,fun v hv=>(nomatch hv),KJ _,KJ _,rfl⟩ ?_ ?_
  ·rintro i v ρ s' hi ⟨L,e,h,a,b,c,d,G,hL,ll,hR,he,hh,rfl⟩;obtain⟨rfl,hi⟩:=iT hi;refine⟨trivial,?_⟩;show b7 Γ (.name 5) (.int i) (cF p den s.length e h a b c d) s' fun ρ2 st2=>aD Γ gn ρ2 st2 _;rw[fX];show aD Γ gn (cF p den s.length e h (some (.int i)) b c d) s' _;refine bA (fun ρ t=>t=s'/\ρ=cF p den s.length e h (some (.int i)) (some (.int e)) c d) (by walk_at "WPN") ?_;rintro _ _ ⟨rfl,rfl⟩;refine bA (fun ρ t=>Gr st p t/\t[s.length]?=some (.lst L)/\∃e':Nat,e<=e'/\e'<=(i+1)*10/\ρ=cF p den s.length e' h (some (.int i)) (some (.int e)) c d) ?_ ?_
   ·walk_at "WPN";refine⟨p,9,rfl,G.pot,by decide,by decide,fun y t y0 y1 k1=>?_⟩;walk_at "WPN";have:=bz (decide ((0:Int)<i));exact⟨G.trans k1,k1.get hL (by omega),(e+y+b2z (decide ((0:Int)<i))).toNat,by omega,by omega,by omega⟩
   rintro _ t ⟨G,hL,e',e0,e1,rfl⟩;refine bA (fun ρ t=>Gr st p t/\t[s.length]?=some (.lst L)/\∃lo:Nat,lo<=i*30+13/\ρ=cF p den s.length e' h (some (.int i)) (some (.int e)) (some (.int lo)) d) ?_ ?_
   ·walk_at "WPN";refine⟨p,4,rfl,G.pot,by decide,by decide,fun y t y0 y1 k1=>⟨p,2,rfl,k1.pot,by decide,by decide,fun z t2 z0 z1 k2=>?_⟩⟩;walk_at "WPN";have yz:0<=y*z/\y*z<=3:=by
     have:z=0\/z=1:=by omega
     rcases this with rfl|rfl <;> omega
    exact⟨oS (by omega) (by omega),(G.trans k1).trans k2,(k1.trans k2).get hL (by omega),((if (h:Int)<e then (e:Int) else h)+y*z).toNat,by split <;> omega,by split <;> omega⟩
   rintro _ t ⟨G,hL,lo,lo1,rfl⟩;refine bA (fun ρ t=>Gr st p t/\t[s.length]?=some (.lst L)/\∃h':Nat,h'<=(i+1)*30/\ρ=cF p den s.length e' h' (some (.int i)) (some (.int e)) (some (.int lo)) d) ?_ ?_
   ·walk_at "WPN";refine⟨p,5,rfl,G.pot,by decide,by decide,fun y t y0 y1 k1=>?_⟩;walk_at "WPN";have:=rQ (x:=y) (b:=decide ((e:Int)<e')) y0;exact⟨qY,G.trans k1,k1.get hL (by omega),((if (lo:Int)<e' then (e':Int) else lo)+y*b2z (decide ((e:Int)<e'))).toNat,by split <;> omega,by split <;> omega⟩
   rintro _ t ⟨G,hL,h',h1,rfl⟩;refine bA (fun ρ t=>Gr st p t/\t[s.length]?=some (.lst L)/\∃v,RdT v/\ρ=cF p den s.length e' h' (some (.int i)) (some (.int e)) (some (.int lo)) (some v)) ?_ ?_
   ·walk_at "WPN";refine⟨by decide,comp_map Γm (fun x=>match x with | .int z=>fr (fw z.toNat den)|v=>v) trivial (fun x hx=>?_) ?_⟩
    ·have be:=Hn (show den<10 ^ 12 by omega);simp only[List.mem_cons,List.not_mem_nil,or_false] at hx;rcases hx with rfl|rfl|rfl|rfl
     ·walk_at "WP";exact⟨e,den,rfl,d0,be,rfl,rfl⟩
     ·walk_at "WP";exact⟨e',den,rfl,d0,be,rfl,rfl⟩
     ·walk_at "WP";exact⟨lo,den,rfl,d0,be,rfl,rfl⟩
     ·walk_at "WP";exact⟨h',den,rfl,d0,be,rfl,rfl⟩
    ·refine⟨_,av aw,.app ?_ ⟨G,hL,_,JC (a:=e) (b:=e') (c:=lo) (d:=h') d0 (by omega) (by omega) (by omega) (by omega) (by omega),rfl⟩⟩;simp[PV.bel,PV.bels,fr]
   rintro _ t ⟨G,hL,v,hv,rfl⟩;walk_at "WP";refine⟨⟨_,ax hL⟩,_,av hL,p,_,rfl,G.pot,by omega,by omega,fun y t y0 y1 k1=>?_⟩;have hL2:=k1.get hL (by omega);refine⟨L,hL2,by omega,y0,by omega,(G.trans k1).setN (by omega),_,KR (ak hL2),?_,fun w hw=>?_,e',by omega,h',by omega,rfl,rfl⟩
   ·simp only[List.length_append,List.length_cons,List.length_take,List.length_drop];omega
   ·rcases LC.mp hw with hw|hw
    ·exact hR w (N1 hw)
    ·rcases K8.mp hw with rfl|hw
     ·exact hv
     ·exact hR w (N0 hw)
  ·rintro ρ s' ⟨L,e,h,a,b,c,d,G,hL,ll,hR,he,hh,rfl⟩;have hl:(bU 0 (N:Int).toNat).length=N:=by simp[bU]
   exact⟨trivial,G,L,hL,by omega,hR,e,h,a,b,c,d,rfl⟩
 rintro _ s' ⟨L,e,h,a,b,c,d,G,hL,ll,hR,rfl⟩;walk_at "WP";refine⟨p,4,rfl,G.pot,by decide,by decide,fun y t y0 y1 k1=>?_⟩;have hL2:=k1.get hL (by omega);have tl:=ak hL2;walk_at "WP";refine⟨lR (by decide) (by decide),_,ax hL2,?_⟩;have cl:(fE L none (some (y/3))).length<=1:=by
  have:y/3=0\/y/3=1:=by omega
  unfold fE;rw[MI];rcases this with e|e <;> rw[e]
  ·have:=HT.sIx_nat L.length L.length 0;rw[show ((0:Nat):Int)=(0:Int) from rfl] at this;rw[this];omega
  ·have:=HT.sIx_nat L.length L.length 1;rw[show ((1:Nat):Int)=(1:Int) from rfl] at this;rw[this];omega
 refine⟨_,br hL2,by omega,?_⟩;refine .inl (k _ (L++fE L none (some (y/3))) _ (G.trans k1).app ?_ get_last2 (fun v hv=>?_) (by rw[LJ];omega))
 ·have:=(G.trans k1).len;simp;omega
 ·rcases LC.mp hv with hv|hv
  ·exact hR v hv
  ·exact hR v (jj hv)
theorem ql {as st Q}(h:cj as st Q):aD Γ dE (frame 2 as) st (ai st Q):=by
 obtain⟨p,room,rfl,hp,r0,r1,k⟩:=h;unfold dE;walk_at "WP";refine⟨p,3,rfl,hp,by decide,by decide,fun x s1 x0 x1 g1=>?_⟩;walk_at "WP";refine a7 (fun z=>?_) fun z=>?_
 ·exact⟨p,rfl,g1.pot,fun n L s2 g2 nl hn hR ll=>⟨L,av hn,.inl (k L _ (g1.trans g2) hR ll)⟩⟩
 ·refine⟨p,4,rfl,g1.pot,by decide,by decide,fun y s2 y0 y1 g2=>?_⟩;obtain⟨y,rfl⟩:∃m:Nat,y=m:=⟨y.toNat,by omega⟩;have hj:(bU 0 (y:Int).toNat).length=y:=by simp[bU]
  refine⟨_,rfl,by omega,by omega,by omega,?_⟩;refine cw Γm (fun i acc s=>Gr s1 p s/\(∀v∈acc,RdT v)/\acc.length=i) ⟨g2,fun v hv=>(nomatch hv),rfl⟩ ?_ ?_
  ·rintro i v acc s hi ⟨g,hR,hl⟩;refine⟨trivial,?_⟩;walk_at "WP";refine⟨p,room,rfl,g.pot,r0,r1,fun v s3 hv g3=>⟨g.trans g3,fun w hw=>?_,hl⟩⟩;rcases LC.mp hw with hw|hw
   ·exact hR w hw
   ·rw[K4] at hw;subst hw;exact hv
  ·rintro acc s ⟨g,hR,hl⟩;refine⟨trivial,_,av aw,?_⟩;rw[hj] at hl;have gl:=g.len;refine g.app.tmp ?_ fun s5 g5 _=>.inl (k acc s5 (g1.trans g5) hR (by omega));rw[PV.bel];refine rM fun x hx=>?_;obtain⟨a,b,c,d,rfl,_⟩:=hR x hx;simp[PV.bel,PV.bels,fr]
theorem qT {i:Nat}(h:(bF .values (kd ps))[i]?=some x):∃p,ps[i]?=some p/\x=p.2:=by
 unfold bF kd at h;rw[K2,K2] at h;cases q:ps[i]? with
 | none=>rw[q] at h;cases h
 | some p=>rw[q] at h;cases h;exact⟨p,rfl,rfl⟩
theorem Fz.sz {p:Nat × Nat}(h:Fz p):Sz 60 p:=⟨by have:=h.a;omega,by have:=h.b;omega,h.p⟩
theorem vW {as st Q}(h:dD as st Q):aD Γ fo (frame 7 as) st (ai st Q):=by
 obtain⟨p,d,ps,rfl,hp,hdp,hd,hT,k⟩:=h;have dl:=ak hd;unfold fo;refine bA (fun ρ s=>st=s/\ρ=[some (.ref p),some (.ref d),some (fr (0,1)),none,none,none,none]) (by walk_at "WPN") ?_;rintro _ _ ⟨rfl,rfl⟩;refine bA (fun ρ s=>st=s/\∃(q:Nat × Nat) (a b c e:Option PV),Fz q/\q.1<=4*10 ^ 11/\ρ=[some (.ref p),some (.ref d),some (fr q),a,b,c,e]) ?_ ?_
 ·walk_at "WPN";refine⟨_,hd,?_⟩;refine iU Γm (fun i ρ s=>s=st.set d (.fz (kd ps))/\∃(q:Nat × Nat) (a b c e:Option PV),Fz q/\q.1<=4*10 ^ 11/\ρ=[some (.ref p),some (.ref d),some (fr q),a,b,c,e]) ⟨rfl,(0,1),none,none,none,none,⟨by decide,by decide,by decide⟩,by decide,rfl⟩ ?_ ?_
  ·rintro i v ρ s hi ⟨rfl,q,a,b,c,e,fq,q4,rfl⟩;obtain⟨t,ht,rfl⟩:=qT hi;obtain⟨za,zb,L,et,na,nb,hR,ll⟩:=hT t (K5 ht);rw[et];refine⟨trivial,?_⟩;walk_at "WPN";refine iU Γm (fun i ρ s=>s=st.set d (.fz (kd ps))/\∃(q:Nat × Nat) (e:Option PV),Fz q/\q.1<=4*10 ^ 11/\ρ=[some (.ref p),some (.ref d),some (fr q),some (.str za),some (.str zb),some (.tup L),e]) ⟨rfl,q,e,fq,q4,rfl⟩ ?_ ?_
   ·rintro i v ρ s hi ⟨rfl,q,e,fq,q4,rfl⟩;obtain⟨f1,f2,f3,f4,rfl,z1,z2,z3,z4,z5⟩:=hR v (K5 hi);refine⟨trivial,?_⟩;walk_at "WPN";refine⟨q,f2,rfl,fq.sz,z2.sz,?_⟩;walk_at "WPN";refine a7 (fun z=>?_) fun z=>?_
    ·exact⟨f2,z2,z5,rfl,rfl⟩
    ·exact⟨q,fq,q4,rfl,rfl⟩
   ·rintro ρ s ⟨rfl,q,e,fq,q4,rfl⟩;refine⟨trivial,?_⟩;walk_at "WPN";exact⟨q,fq,q4,rfl,rfl⟩
  ·rintro ρ s ⟨rfl,q,a,b,c,e,fq,q4,rfl⟩;refine⟨trivial,?_⟩;walk_at "WPN";refine⟨KR dl,(mL hd).symm,q,fq,q4,rfl,rfl⟩
 rintro _ _ ⟨rfl,q,a,b,c,e,fq,q4,rfl⟩;refine bA (fun ρ s=>Gr st p s/\∃(q:Nat × Nat),Fz q/\ρ=[some (.ref p),some (.ref d),some (fr q),a,b,c,e]) ?_ ?_
 ·walk_at "WPN";refine⟨p,3,rfl,hp,by decide,by decide,fun x s1 x0 x1 g1=>?_⟩;walk_at "WPN";refine a7 (fun z=>?_) fun z=>⟨g1,q,fq,rfl,rfl⟩;refine⟨lR (by have:=fq.p;omega) (by have:=fq.b;omega),p,5,rfl,g1.pot,by decide,by decide,fun y s2 y0 y1 g2=>?_⟩;walk_at "WPN";have:0<=(q.1:Int)/q.2/\(q.1:Int)/q.2<=q.1:=⟨Int.ediv_nonneg (by omega) (by omega),Int.ediv_le_self _ (by omega)⟩;exact⟨g1.trans g2,(((q.1:Int)/q.2+1+y).toNat,1),⟨by show _<_;omega,by show 1<10 ^ 12;decide,by show 0<1;decide⟩,by show _=((((q.1:Int)/q.2+1+y).toNat:Nat):Int);omega,rfl⟩
 rintro _ s ⟨g,q,fq,rfl⟩;walk_at "WP";exact .inl (k q _ fq g)
structure NS (st:AH)(p:Nat)(s:AH)(pl nm d:Nat)(names nms:List Str)(ps:List (Str × PV)):Prop where
 g:Gr st p s
 l1:st.length<=pl
 l2:pl≠nm
 l3:pl≠d
 l4:nm≠d
 l5:st.length<=nm
 l6:st.length<=d
 hp:s[pl]?=some (.lst (sV names))
 hn:s[nm]?=some (.lst (sV nms))
 hd:s[d]?=some (.dk (kd ps))
 P:∀q∈ps,Nm q.1/\TieT q.2
 N:∀z∈names,Nm z
 N2:2<=names.length
 N4:names.length<=4
 M:∀z∈nms,Nm z
theorem NS.mono (h:NS st p s pl nm d names nms ps)(g:Gr s p s'):NS st p s' pl nm d names nms ps:=by have:=h.g.was;have:=h.l1;have:=h.l5;have:=h.l6;exact⟨h.g.trans g,h.l1,h.l2,h.l3,h.l4,h.l5,h.l6,g.get h.hp (by omega),g.get h.hn (by omega),g.get h.hd (by omega),h.P,h.N,h.N2,h.N4,h.M⟩
theorem NS.named (h:NS st p s pl nm d names nms ps)(g:Gn s p nm s')(hz:Nm z)(e:s'[nm]?=some (.lst (sV (nms++[z])))):NS st p s' pl nm d names (nms++[z]) ps:=by
 have:=h.g.was;have:=h.l1;have:=h.l5;have:=h.l6;refine⟨Gn.gr h.g (by omega) g,h.l1,h.l2,h.l3,h.l4,h.l5,h.l6,g.get h.hp (by omega) h.l2,e,g.get h.hd (by omega) (Ne.symm h.l4),h.P,h.N,h.N2,h.N4,fun y hy=>?_⟩;rcases LC.mp hy with hy|hy
 ·exact h.M y hy
 ·rw[K4] at hy;subst hy;exact hz
theorem NS.put {qs:List (Str × PV)}(h:NS st p s pl nm d names nms ps)(hq:∀q∈qs,Nm q.1/\TieT q.2):NS st p (s.set d (.dk (kd qs))) pl nm d names nms qs :=
 ⟨h.g.setN h.l6,h.l1,h.l2,h.l3,h.l4,h.l5,h.l6,by rw[KU (Ne.symm h.l3)];exact h.hp,by rw[KU (Ne.symm h.l4)];exact h.hn,KR (ak h.hd),hq,h.N,h.N2,h.N4,h.M⟩
noncomputable def vo (ps:List (Str × PV))(z:Str)(v:PV):List (Str × PV):=if z∈ps.map (·.1) then ps.map fun p=>if p.1=z then (p.1,v) else p else ps++[(z,v)]
theorem uO:ly (kd ps) (.inr z) v=kd (vo ps z v):=by
 unfold vo;split
 ·rename_i h;exact zO h
 ·rename_i h;exact C8 h
theorem mO {ps:List (Str × PV)}:(vo ps z v).length<=ps.length+1:=by unfold vo;split <;> simp
theorem gR {q:Str × PV}(h:q∈vo ps z v):q∈ps\/q=(z,v):=by
 unfold vo at h;split at h
 ·obtain⟨x,hx,e⟩:=K7.mp h;split at e
  ·rename_i ez;subst e;exact .inr (by rw[ez])
  ·subst e;exact .inl hx
 ·rcases LC.mp h with h|h
  ·exact .inl h
  ·exact .inr (K4.mp h)
noncomputable abbrev nF (p t nm d pl:Nat)(room:Int)(k a b w:Option PV):Fr:=[some (.ref p),some (.ref t),some (.ref nm),some (.ref d),some (.ref pl),some (.int room),k,a,b,w]
noncomputable abbrev iN:Ss:=(.cons (.set (.name 7) (.call 13 (.cons (.var 0) (.cons (.blt .len (.cons (.var 4) .nil)) .nil)))) (.cons (.set (.name 8) (.bin .Mod (.bin .Add (.bin .Add (.var 7) (.int 1)) (.call 13 (.cons (.var 0) (.cons (.bin .Sub (.blt .len (.cons (.var 4) .nil)) (.int 1)) .nil)))) (.blt .len (.cons (.var 4) .nil)))) (.cons (.set (.sub (.var 3) (.call 15 (.cons (.var 0) (.cons (.var 2) .nil)))) (.tup (.cons (.ix (.var 4) (.var 7)) (.cons (.ix (.var 4) (.var 8)) (.cons (.call 20 (.cons (.var 0) (.cons (.var 5) .nil))) .nil))))) .nil)))
def NI (st:AH)(p t nm d pl:Nat)(room:Int)(names:List Str)(i:Nat)(ρ:Fr)(s:AH):Prop:=∃(nms:List Str) (ps:List (Str × PV)) (k a b:Option PV),NS st p s pl nm d names nms ps/\nms.length<=i/\ps.length<=i/\ρ=nF p t nm d pl room k a b none
theorem B9 {room:Int}{i:Nat}{D:a8}(r0:0<room)(r1:room<=2*10 ^ 11)(hi:i<6)(n:NS st p s pl nm d names nms ps)(nl:nms.length<=i)(pl':ps.length<=i) :
  aD Γ iN (nF p t nm d pl room (some (.int i)) a b none) s (LD (NI st p t nm d pl room names (i+1)) D):=by
 unfold iN;have N2:=n.N2;have N4:=n.N4;have e:(sV names).length=names.length:=by simp[sV]
 refine bA (fun ρ s=>NS st p s pl nm d names nms ps/\∃x:Int,0<=x/\x<names.length/\ρ=nF p t nm d pl room (some (.int i)) (some (.int x)) b none) ?_ ?_
 ·walk_at "WPN";exact⟨_,av n.hp,p,names.length,by simp[sV],n.g.pot,by omega,by omega,fun y s1 y0 y1 g1=>⟨n.mono g1,y,y0,y1,rfl⟩⟩
 rintro _ s1 ⟨n,x,x0,x1,rfl⟩;refine bA (fun ρ s=>NS st p s pl nm d names nms ps/\∃y:Int,0<=y/\y<names.length/\ρ=nF p t nm d pl room (some (.int i)) (some (.int x)) (some (.int y)) none) ?_ ?_
 ·walk_at "WPN";refine⟨_,av n.hp,p,(names.length:Int)-1,by simp[sV],n.g.pot,by omega,by omega,fun y s2 y0 y1 g1=>?_⟩;walk_at "WPN";have n2:=n.mono g1;exact⟨_,av n2.hp,by omega,n2,_,OG _ (by omega),by rw[e];exact N_ _ (by omega),rfl⟩
 rintro _ s2 ⟨n,y,y0,y1,rfl⟩;obtain⟨za,ea,na⟩:=Ej n.N x0 x1;obtain⟨zb,eb,nb⟩:=Ej n.N y0 y1;walk_at "WP";refine⟨_,av n.hp,_,ea,_,av n.hp,_,eb,p,room,rfl,n.g.pot,r0,r1,fun L s3 g3 hR ll=>?_⟩;walk_at "WP";have n3:=n.mono g3;have:=n3.g.was;have:=n3.l5;refine⟨p,nm,nms,rfl,n3.g.pot,by omega,n3.hn,by omega,n3.M,fun z s4 hz g4 e4=>?_⟩;have n4:=n3.named g4 hz e4;walk_at "WP";refine⟨_,n4.hd,by simp;omega,nms++[z],vo ps z (.tup [.str za,.str zb,.tup L]),some (.int i),some (.int x),some (.int y),?_,by simp;omega,by have:=mO (ps:=ps) (z:=z) (v:=.tup [.str za,.str zb,.tup L]);omega,rfl⟩;rw[uO];refine n4.put fun q hq=>?_;rcases gR hq with hq|rfl
 ·exact n4.P q hq
 ·exact⟨hz,za,zb,L,rfl,na,nb,hR,ll⟩
theorem vV {as st Q}(h:dB as st Q):aD Γ fj (frame 10 as) st (ai st Q):=by
 obtain⟨p,rfl,hp,k⟩:=h;have pl:=hp.lt;unfold fj;refine bA (fun ρ s=>s=st++[.lst [],.lst [],.dk []]/\ρ=[some (.ref p),some (.ref st.length),some (.ref (st.length+1)),some (.ref (st.length+2)),none,none,none,none,none,none]) ?_ ?_
 ·walk_at "WPN"
 rintro _ _ ⟨rfl,rfl⟩;have g0:Gr st p (st++[.lst [],.lst [],.dk []]):=(Gr.refl hp).app;have e1:(st++[Cell.lst [],.lst [],.dk []])[st.length+1]?=some (.lst []):=by rw[ie (k:=1)];rfl
 have e2:(st++[Cell.lst [],.lst [],.dk []])[st.length+2]?=some (.dk []):=by rw[ie (k:=2)];rfl
 have e0:(st++[Cell.lst [],.lst [],.dk []])[st.length]?=some (.lst []):=by rw[jr];rfl
 generalize st++[Cell.lst [],.lst [],.dk []]=s0 at g0 e0 e1 e2;refine bA (fun ρ s=>∃(pl:Nat) (names:List Str),NS st p s pl (st.length+1) (st.length+2) names [] []/\ρ=[some (.ref p),some (.ref st.length),some (.ref (st.length+1)),some (.ref (st.length+2)),some (.ref pl),none,none,none,none,none]) ?_ ?_
 ·obtain⟨P,hP⟩:∃P:Fr->AH->Prop,P=fun ρ s=>∃(pl:Nat) (names:List Str),NS st p s pl (st.length+1) (st.length+2) names [] []/\ρ=[some (.ref p),some (.ref st.length),some (.ref (st.length+1)),some (.ref (st.length+2)),some (.ref pl),none,none,none,none,none]:=⟨_,rfl⟩;rw[<-hP];walk_at "WPN";refine⟨p,3,rfl,g0.pot,by decide,by decide,fun x s1 x0 x1 g1=>?_⟩;walk_at "WPN";obtain⟨N,hN⟩:∃N:Nat,2+x=N:=⟨(2+x).toNat,by omega⟩;rw[hN];have hj:(bU 0 (N:Int).toNat).length=N:=by simp[bU]
  refine⟨by omega,by omega,by omega,?_⟩;refine cw Γm (fun i acc s=>∃names:List Str,acc=sV names/\names.length=i/\(∀z∈names,Nm z)/\Gr st p s/\s[st.length]?=some (.lst (sV names))/\s[st.length+1]?=some (.lst [])/\s[st.length+2]?=some (.dk [])) ⟨[],rfl,rfl,fun z hz=>(nomatch hz),g0.trans g1,g1.get e0 (by omega),g1.get e1 (by omega),g1.get e2 (by omega)⟩ ?_ ?_
  ·rintro i v acc s hi ⟨names,rfl,hl,hN,g,f0,f1,f2⟩;have:=(KQ.mp hi).1;refine⟨trivial,?_⟩;walk_at "WPN";refine⟨p,st.length,names,rfl,g.pot,by omega,f0,by omega,hN,fun z s2 hz g2 e3=>⟨names++[z],by simp[sV],by simp[hl],fun y hy=>?_,Gn.gr g (KJ _) g2,e3,g2.get f1 (by omega) (by omega),g2.get f2 (by omega) (by omega)⟩⟩;rcases LC.mp hy with hy|hy
   ·exact hN y hy
   ·rw[K4] at hy;subst hy;exact hz
  ·rintro acc s ⟨names,rfl,hl,hN,g,f0,f1,f2⟩;refine⟨trivial,?_⟩;rw[hj] at hl;rw[hP];have l0:=ak f2;exact⟨_,names,⟨g.app,g.len,by omega,by omega,by omega,by omega,by omega,aw,br f1,br f2,fun q hq=>(nomatch hq),hN,by omega,by omega,fun z hz=>(nomatch hz)⟩,rfl⟩
 rintro _ s ⟨plc,names,n,rfl⟩;refine bA (fun ρ s=>NS st p s plc (st.length+1) (st.length+2) names [] []/\∃room:Int,0<room/\room<=2*10 ^ 11/\ρ=nF p st.length (st.length+1) (st.length+2) plc room none none none none) ?_ ?_
 ·walk_at "WPN";have ne:s.length≠p:=n.g.ne;refine⟨Fd,oS (by decide) (by decide),?_⟩;refine⟨p,_,3,_,rfl,n.g.pot.app,by decide,by decide,qo ne aw,fun i s2 hi g2=>?_⟩;have hm:=qF (L:=[PV.int 12,.int 40,.int (2*100000000000)]) hi;have hr:∃r:Int,ixF [PV.int 12,.int 40,.int (2*100000000000)] i=.int r/\0<r/\r<=2*10 ^ 11:=by simp only[List.mem_cons,List.not_mem_nil,or_false] at hm;rcases hm with e|e|e <;> exact⟨_,e,by decide,by decide⟩
  obtain⟨r,er,r0,r1⟩:=hr;exact⟨n.mono ((Gr.refl n.g.pot).app.trans g2),r,r0,r1,er⟩
 rintro _ s ⟨n,room,r0,r1,rfl⟩;refine bA (fun ρ s=>NI st p st.length (st.length+1) (st.length+2) plc room names 5 ρ s) ?_ ?_
 ·walk_at "WPN";refine⟨p,6,rfl,n.g.pot,by decide,by decide,fun x s1 x0 x1 g1=>?_⟩;obtain⟨x,rfl⟩:∃m:Nat,x=m:=⟨x.toNat,by omega⟩;have hj:(bU 0 (x:Int).toNat).length=x:=by simp[bU]
  refine⟨_,rfl,by omega,by omega,?_⟩;refine iU Γm (NI st p st.length (st.length+1) (st.length+2) plc room names) ⟨[],[],none,none,none,n.mono g1,KJ _,KJ _,rfl⟩ ?_ ?_
  ·rintro i v ρ s hi ⟨nms,ps,kk,a,b,n,nl,pl',rfl⟩;obtain⟨rfl,hi⟩:=iT hi;exact⟨trivial,B9 r0 r1 (by omega) n nl pl'⟩
  ·rintro ρ s ⟨nms,ps,kk,a,b,n,nl,pl',rfl⟩;exact⟨trivial,nms,ps,kk,a,b,n,by omega,by omega,rfl⟩
 rintro _ s ⟨nms,ps,kk,a,b,n,nl,pl',rfl⟩;refine bA (fun ρ s=>NS st p s plc (st.length+1) (st.length+2) names nms ps/\∃ws:List Str,ws.length<=4/\(∀z∈ws,Nm z)/\ρ=nF p st.length (st.length+1) (st.length+2) plc room kk a b (some (.tup (sV ws)))) ?_ ?_
 ·walk_at "WPN";have N4:=n.N4;refine⟨_,av n.hp,by simp[sV];omega,?_⟩;refine cw Γm (fun i acc s=>∃ws:List Str,acc=sV ws/\ws.length<=i/\(∀z∈ws,Nm z)/\NS st p s plc (st.length+1) (st.length+2) names nms ps) ⟨[],rfl,KJ _,fun z hz=>(nomatch hz),n⟩ ?_ ?_
  ·rintro i v acc s' hi ⟨ws,rfl,wl,hw,n'⟩;rw[K2] at hi;obtain⟨z,hz,rfl⟩:=LR.mp hi;refine⟨by rw[ng,n.hp];exact n'.hp,?_⟩;walk_at "WPN";refine⟨p,2,rfl,n'.g.pot,by decide,by decide,fun y s2 y0 y1 g2=>?_⟩;walk_at "WPN";refine a7 (fun c=>⟨ws++[z],by simp[sV],by simp;omega,fun y hy=>?_,n'.mono g2⟩) fun c=>⟨ws,rfl,by omega,hw,n'.mono g2⟩;rcases LC.mp hy with hy|hy
   ·exact hw y hy
   ·rw[K4] at hy;subst hy;exact n.N _ (K5 hz)
  ·rintro acc s' ⟨ws,rfl,wl,hw,n'⟩;have wl4:ws.length<=4:=by
    have e:(sV names).length=names.length:=by simp[sV]
    omega
   refine⟨by rw[ng,n.hp];exact n'.hp,ws,ax aw,by omega,fun ss hp' hs=>⟨_,av get_last2,?_⟩⟩;refine⟨n'.mono (Gr.refl n'.g.pot).app,ss,by have:=hp'.length_eq;omega,fun z hz=>hw z (hp'.mem_iff.mp hz),rfl⟩
 rintro _ s ⟨n,ws,wl,hw,rfl⟩;walk_at "WP";have:=n.l6;refine⟨p,st.length+2,ps,rfl,n.g.pot,by omega,n.hd,fun q hq=>(n.P q hq).2,fun e s2 fe g2=>?_⟩;exact .inl (k e ws _ ps s2 (n.g.trans g2) (by omega) (g2.get n.hd (by omega)) ⟨wl,hw,by omega,fun q hq=>(n.P q hq).1,fun q hq=>(n.P q hq).2⟩ fe)
theorem uN {as st Q}(h:cB as st Q):aD Γ e_ (frame 1 as) st (ai st Q):=by
 obtain⟨v,rfl,hb,k⟩:=h;obtain⟨n,hn⟩:=aC hb;unfold e_;walk_at "WP";rw[l8 hn] at k;refine⟨n,hn,?_⟩;cases e:aH "int" n with
 | false =>rw[e] at k;exact .inl k
 | true =>rw[e] at k;exact JZ ⟨n,hn,.inl k⟩
theorem kA {as st Q}(h:a5 as st Q):aD Γ cf (frame 2 as) st (ai st Q):=by
 obtain⟨n,d,rfl,k⟩:=h;unfold cf;walk_at "WP";refine tu Γm (fun m ρ s=>∃a b:Nat,ρ=[some (.int a),some (.int b)]/\s=st/\Nat.gcd a b=Nat.gcd n d/\m=b) (n:=d) ⟨n,d,rfl,rfl,rfl,rfl⟩ ?_;rintro m ρ s ⟨a,b,rfl,rfl,hg,rfl⟩;walk_at "WP";by_cases hb:(m:Int)=0
 ·rw[KW (fun z=>z hb)];have:m=0:=by omega
  subst this;rw[Nat.gcd_zero_right] at hg;rw[hg];exact .inl k
 ·rw[K1 hb];refine⟨by omega,a % m,OP _ (by omega),m,rfl,a % m,?_,?_,rfl⟩
  ·simp
  ·rw[<-hg,NW a m,Nat.gcd_rec m a,NW]
theorem Ai {xs:List PV}(h:xs.length=2):∃x y,xs=[x,y]:=by
 match xs,h with
 | [x,y],_=>exact⟨x,y,rfl⟩
theorem uw {x:PV}(h:(PV.tup [x,y]).bel k=true):x.bel k=true/\y.bel k=true:=by rw[PV.bel,PV.bels,PV.bels,PV.bels,Bool.and_true,KM] at h;exact h
theorem oE {as st Q}(h:bu as st Q):aD Γ cX (frame 3 as) st (ai st Q):=by
 obtain⟨v,rfl,hb,k⟩:=h;obtain⟨n,hn⟩:=aC hb;unfold cX;walk_at "WP";refine⟨n,hn,?_⟩;obtain⟨kt,kf⟩:=a6 hn;cases e:aH "tuple" n with
 | false =>rw[kf e] at k;exact .inl k
 | true =>
  obtain⟨xs,rfl⟩:=kt e;walk_at "WP";by_cases hl:xs.length=2
  ·obtain⟨x,y,rfl⟩:=Ai hl;obtain⟨bx,by'⟩:=uw hb;rw[mr] at k;walk_at "WP";refine⟨x,rfl,bx,?_⟩;cases x with
   | int i =>
    simp only[b9];walk_at "WP";refine⟨y,rfl,by',?_⟩;cases y with
    | int j =>
     simp only[b9];walk_at "WP";by_cases h0:0<=i
     ·rw[K1 h0];by_cases h1:1<=j
      ·rw[K1 h1];refine⟨i.toNat,j.toNat,?_,?_⟩
       ·rw[NK h0,NK (by omega)]
       ·walk_at "WP";rw[sD h0 h1];exact .inl k
      ·rw[KW h1];simp only[h1,false_and,and_false,decide_false] at k;exact .inl k
     ·rw[KW h0];simp only[h0,false_and,decide_false] at k;exact .inl k
    | _=>simp only[b9];walk_at "WP";exact .inl k
   | _=>simp only[b9];walk_at "WP";exact .inl k
  ·rw[tI hl] at k;rw[K1 (by omega)];exact .inl k
theorem w4 {xs:List PV}(h:xs.length=4):∃a b c d,xs=[a,b,c,d]:=by
 match xs,h with
 | [a,b,c,d],_=>exact⟨a,b,c,d,rfl⟩
theorem pA {xs:List PV}(h:xs.length≠4):bN (.tup xs)=false:=by
 match xs,h with
 | [],_=>rfl
 | [_],_=>rfl
 | [_,_],_=>rfl
 | [_,_,_],_=>rfl
 | [_,_,_,_],h=>exact absurd rfl h
 | _::_::_::_::_::_,_=>rfl
theorem rL {p q:Nat × Nat}{k:Bool->Prop}(h:k (decide (p=q))):eqW st (fr p) (fr q) k:=by
 refine sA ?_;have:(decide ((p.1:Int)=q.1) && decide ((p.2:Int)=q.2))=decide (p=q):=by
  rw[MH];simp only[Bool.and_eq_true,decide_eq_true_eq];constructor
  ·rintro⟨h1,h2⟩;exact Prod.ext (by omega) (by omega)
  ·rintro rfl;exact⟨rfl,rfl⟩
 rw[this];exact h
theorem lU {a b c d:Nat}:decide ((a:Int)*b<c*d)=decide (a*b<c*d):=by rw[<-M_,<-M_];simp only[Int.ofNat_lt]
theorem uj {a b c d:Nat}:(decide ((a:Int)=c) && decide ((b:Int)=d))=decide ((a,b)=(c,d)):=by rw[MH];simp only[Bool.and_eq_true,decide_eq_true_eq,Prod.mk.injEq];omega
theorem wt {an bn cn dn:Nat}(h:(aG (fr (an,ad)) && aG (fr (bn,bd)) && aG (fr (cn,cd)) && aG (fr (dn,dd)))=true) :
  bN (.tup [fr (an,ad),fr (bn,bd),fr (cn,cd),fr (dn,dd)])=(!decide (bn*ad<an*bd) && !decide (cn*ad<an*cd) && !decide (dn*bd<bn*dd) && (!decide ((an,ad)=(bn,bd)) || decide ((cn,cd)=(dn,dd)))):=by
 show (aG (fr (an,ad)) && aG (fr (bn,bd)) && aG (fr (cn,cd)) && aG (fr (dn,dd)) && (!decide ((bn:Int)*ad<an*bd) && !decide ((cn:Int)*ad<an*cd) && !decide ((dn:Int)*bd<bn*dd) && (!(decide ((an:Int)=bn) && decide ((ad:Int)=bd)) || (decide ((cn:Int)=dn) && decide ((cd:Int)=dd)))))=_;rw[h,Bool.true_and];rw[lU,lU,lU,uj,uj]
theorem bw {x:PV}(h:cx (.tup xs)=true)(hx:x∈xs):cx x=true:=by rw[cx,KM] at h;exact qe h.2 hx
theorem jJ (h:cx (.tup xs)=true):xs.length<=6:=by rw[cx,KM] at h;exact LL h.1
theorem xc {x:PV}(h:(PV.tup xs).bel k=true)(hx:x∈xs):x.bel k=true:=nO (show PV.bels k xs=true from by rw[PV.bel] at h;exact h) hx
theorem bH {x:PV}(h:Any st (.tup xs))(hx:x∈xs):Any st x:=⟨xc h.1 hx,bw h.2 hx⟩
theorem jC (h:cx (.int i)=true):i.natAbs<10 ^ 12:=by rw[cx] at h;exact LL h
theorem ua (h:cx (.str z)=true):z.length<=9:=by rw[cx] at h;exact LL h
theorem gp {n:Nat}(h:cx (fr (n,d))=true)(p:0<d):Sz 60 (n,d):=by have h1:=jC (bw (x:=.int n) h (by simp));have h2:=jC (bw (x:=.int d) h (by simp));exact⟨by show n<2 ^ 60;omega,by show d<2 ^ 60;omega,p⟩
theorem mz (h:b9 v=true):∃i,v=.int i:=by
 cases v with
 | int i=>exact⟨i,rfl⟩
 | _=>cases h
theorem Ay (h:(b9 x && b9 y)=false):aG (.tup [x,y])=false:=by
 rw[mr];cases x with
 | int i =>
  cases y with
  | int j=>cases h
  | _=>rfl
 | _=>rfl
theorem AK {i j:Int}:aG (.tup [.int i,.int j])=decide (0<=i/\1<=j/\Nat.gcd i.natAbs j.natAbs=1):=by rw[mr]
theorem j_ {as st Q}(h:bh as st Q):aD Γ b_ (frame 1 as) st (ai st Q):=by
 obtain⟨v,rfl,⟨hb,ht⟩,k⟩:=h;obtain⟨n,hn⟩:=aC hb;unfold b_;walk_at "WP";refine⟨n,hn,?_⟩;obtain⟨kt,kf⟩:=a6 hn;cases e:aH "tuple" n with
 | false =>rw[kf e] at k;exact .inl k
 | true =>
  obtain⟨xs,rfl⟩:=kt e;walk_at "WP";by_cases hl:xs.length=2
  ·obtain⟨x,y,rfl⟩:=Ai hl;obtain⟨bx,by'⟩:=uw hb;walk_at "WP";refine⟨by decide,comp_map Γm (fun x=>.bl (!b9 x)) trivial (fun z hz=>?_) ?_⟩
   ·obtain⟨m,hm⟩:=aC (xc hb hz);walk_at "WP";refine⟨m,hm,?_⟩;rw[l8 hm];cases e1:aH "bool" m with
    | true=>walk_at "WP"
    | false=>walk_at "WP";exact⟨m,hm,by simp⟩
   ·refine⟨_,ax aw,_,a9 (f:=fun x=>!b9 x),.app rfl ?_⟩;have ea:(List.map (fun x=>!b9 x) [x,y]).any id=!(b9 x && b9 y):=by simp
    rw[ea];cases hw:(b9 x && b9 y) with
    | false =>rw[Ay hw] at k;walk_at "WP";exact .inl k
    | true =>
     rw[KM] at hw;obtain⟨i,rfl⟩:=mz hw.1;obtain⟨j,rfl⟩:=mz hw.2;have t1:=jC (bw (x:=.int i) ht (by simp));have t2:=jC (bw (x:=.int j) ht (by simp));rw[AK] at k;walk_at "WP";by_cases h0:i<0
     ·rw[K1 h0];rw[LG (by omega)] at k;exact .inl k
     ·rw[KW h0];by_cases h1:j<1
      ·rw[K1 h1];rw[LG (by omega)] at k;exact .inl k
      ·rw[KW h1];obtain⟨i,rfl⟩:∃m:Nat,i=m:=⟨i.toNat,by omega⟩;obtain⟨j,rfl⟩:∃m:Nat,j=m:=⟨j.toNat,by omega⟩;refine⟨i,j,rfl,by omega,Hn (by omega),?_⟩;refine sA (.inl ?_);have e2:(decide (((fw i j).1:Int)=i) && decide (((fw i j).2:Int)=j))=decide ((0:Int)<=i/\(1:Int)<=j/\Nat.gcd (i:Int).natAbs (j:Int).natAbs=1):=by
        rw[MH];simp only[Bool.and_eq_true,decide_eq_true_eq,Int.natAbs_natCast];constructor
        ·rintro⟨z1,z2⟩;refine⟨by omega,by omega,?_⟩;have:=uk (n:=i) (d:=j) (by omega);rw[show (fw i j).1=i by omega,show (fw i j).2=j by omega] at this;exact this
        ·rintro⟨_,_,z⟩;rw[xG z];exact⟨rfl,rfl⟩
       rw[e2];exact k
  ·rw[tI hl] at k;rw[K1 (by omega)];exact .inl k
theorem yV {as st Q}(h:bG as st Q):aD Γ fO (frame 5 as) st (ai st Q):=by
 obtain⟨v,rfl,⟨hb,hs⟩,k⟩:=h;unfold fO;walk_at "WP";obtain⟨n,hn⟩:=aC hb;refine⟨n,hn,?_⟩;by_cases ht:aH "tuple" n=true
 ·rw[KW (by rw[ht];decide)];obtain⟨xs,rfl⟩:=(a6 hn).1 ht;walk_at "WP";by_cases h4:xs.length=4
  ·obtain⟨a,b,c,d,rfl⟩:=w4 h4;walk_at "WP";refine⟨by decide,?_⟩;refine FW.comp_map Γm (fun x=>.bl (aG x)) trivial (fun x hx=>?_) ?_
   ·walk_at "WP";exact⟨x,rfl,nO (show PV.bels st.length [a,b,c,d]=true from by simpa[PV.bel] using hb) hx,rfl,rfl⟩
   ·refine⟨_,ax aw,_,a9 (f:=aG),.app rfl ?_⟩;have eall:(List.map aG [a,b,c,d]).all id=(aG a && aG b && aG c && aG d):=by simp[Bool.and_assoc]
    rw[eall];cases hc:(aG a && aG b && aG c && aG d) with
    | false =>
     have:bN (.tup [a,b,c,d])=false:=by simp only[bN,hc,Bool.false_and]
     rw[this] at k;walk_at "WP";exact .inl k
    | true =>
     have hc':=hc;simp only[Bool.and_eq_true] at hc';obtain⟨an,ad,rfl,pa⟩:=a0 hc'.1.1.1;obtain⟨bn,bd,rfl,pb⟩:=a0 hc'.1.1.2;obtain⟨cn,cd,rfl,pc'⟩:=a0 hc'.1.2;obtain⟨dn,dd,rfl,pd⟩:=a0 hc'.2;have za:=gp (n:=an) (bw hs (by simp)) pa;have zb:=gp (n:=bn) (bw hs (by simp)) pb;have zc:=gp (n:=cn) (bw hs (by simp)) pc';have zd:=gp (n:=dn) (bw hs (by simp)) pd;rw[wt hc] at k;walk_at "WP";refine⟨(bn,bd),(an,ad),rfl,zb,za,?_⟩;by_cases q1:bn*ad<an*bd
     ·rw[LF q1] at k |-
      walk_at "WP";exact .inl k
     ·rw[LG q1] at k |-
      walk_at "WP";refine⟨(cn,cd),(an,ad),rfl,zc,za,?_⟩;by_cases q2:cn*ad<an*cd
      ·rw[LF q2] at k |-
       walk_at "WP";exact .inl k
      ·rw[LG q2] at k |-
       walk_at "WP";refine⟨(dn,dd),(bn,bd),rfl,zd,zb,?_⟩;by_cases q3:dn*bd<bn*dd
       ·rw[LF q3] at k |-
        walk_at "WP";exact .inl k
       ·rw[LG q3] at k |-
        walk_at "WP";refine rL ?_;by_cases q4:(an,ad)=(bn,bd)
        ·rw[LF q4] at k |-
         rw[KW (by decide)];refine rL ?_;exact .inl k
        ·rw[LG q4] at k |-
         rw[K1 rfl];exact .inl k
  ·rw[K1 (by omega)];rw[pA h4] at k;exact .inl k
 ·rw[K1 (by simpa using ht)];have:bN v=false:=by
   cases v with
   | tup xs=>cases hn;exact absurd rfl ht
   | _=>rfl
  rw[this] at k;exact .inl k
theorem vi {as st Q}(h:dq as st Q):aD Γ fk (frame 1 as) st (ai st Q):=by
 obtain⟨v,rfl,⟨hb,hs⟩,k⟩:=h;unfold fk;walk_at "WP";obtain⟨n,hn⟩:=aC hb;refine⟨n,hn,?_⟩;by_cases ht:aH "tuple" n=true
 ·rw[K1 ht];obtain⟨xs,rfl⟩:=(a6 hn).1 ht;refine⟨xs,rfl,by have:=jJ hs;omega,?_⟩;refine comp_map Γm (fun x=>.bl (bN x)) trivial (fun x hx=>?_) ?_
  ·walk_at "WP";exact⟨x,rfl,bH ⟨hb,hs⟩ hx,rfl,rfl⟩
  ·refine⟨_,ax aw,_,a9 (f:=bN),.app rfl (.inl ?_)⟩;have:fP (.tup xs)=(xs.map bN).all id:=by simp[fP]
   rw[<-this];exact k
 ·rw[KW ht];have:fP v=false:=by
   cases v with
   | tup xs=>cases hn;exact absurd rfl ht
   | _=>rfl
  rw[this] at k;exact .inl k
theorem nN {as st Q}(h:dF as st Q):aD Γ cE (frame 5 as) st (ai st Q):=by
 obtain⟨v,rfl,⟨hb,hs⟩,k⟩:=h;unfold cE;walk_at "WP";obtain⟨n,hn⟩:=aC hb;refine⟨n,hn,?_⟩;by_cases ht:aH "tuple" n=true
 ·rw[KW (by rw[ht];decide)];obtain⟨xs,rfl⟩:=(a6 hn).1 ht;walk_at "WP";by_cases h4:xs.length=4
  ·obtain⟨a,b,c,d,rfl⟩:=w4 h4;walk_at "WP";refine⟨by decide,?_⟩;refine FW.comp_map Γm (fun x=>.bl (aG x)) trivial (fun x hx=>?_) ?_
   ·walk_at "WP";exact⟨x,rfl,bH ⟨hb,hs⟩ hx,rfl,rfl⟩
   ·refine⟨_,ax aw,_,a9 (f:=aG),.app rfl ?_⟩;have eall:(List.map aG [a,b,c,d]).all id=(aG a && aG b && aG c && aG d):=by simp[Bool.and_assoc]
    rw[eall];cases hc:(aG a && aG b && aG c && aG d) with
    | false =>
     have:bN (.tup [a,b,c,d])=false:=by simp only[bN,hc,Bool.false_and]
     rw[this] at k;walk_at "WP";exact .inl k
    | true =>
     have hc':=hc;simp only[Bool.and_eq_true] at hc';obtain⟨an,ad,rfl,pa⟩:=a0 hc'.1.1.1;obtain⟨bn,bd,rfl,pb⟩:=a0 hc'.1.1.2;obtain⟨cn,cd,rfl,pc'⟩:=a0 hc'.1.2;obtain⟨dn,dd,rfl,pd⟩:=a0 hc'.2;have za:=gp (n:=an) (bw hs (by simp)) pa;have zb:=gp (n:=bn) (bw hs (by simp)) pb;have zc:=gp (n:=cn) (bw hs (by simp)) pc';have zd:=gp (n:=dn) (bw hs (by simp)) pd;rw[wt hc] at k;walk_at "WP";refine⟨(bn,bd),(an,ad),rfl,zb,za,?_⟩;by_cases q1:bn*ad<an*bd
     ·rw[LF q1] at k |-
      walk_at "WP";exact .inl k
     ·rw[LG q1] at k |-
      walk_at "WP";refine⟨(cn,cd),(an,ad),rfl,zc,za,?_⟩;by_cases q2:cn*ad<an*cd
      ·rw[LF q2] at k |-
       walk_at "WP";exact .inl k
      ·rw[LG q2] at k |-
       walk_at "WP";refine⟨(dn,dd),(bn,bd),rfl,zd,zb,?_⟩;by_cases q3:dn*bd<bn*dd
       ·rw[LF q3] at k |-
        walk_at "WP";exact .inl k
       ·rw[LG q3] at k |-
        walk_at "WP";refine rL ?_;by_cases q4:(an,ad)=(bn,bd)
        ·rw[LF q4] at k |-
         rw[KW (by decide)];refine rL ?_;exact .inl k
        ·rw[LG q4] at k |-
         rw[K1 rfl];exact .inl k
  ·rw[K1 (by omega)];rw[pA h4] at k;exact .inl k
 ·rw[K1 (by simpa using ht)];have:bN v=false:=by
   cases v with
   | tup xs=>cases hn;exact absurd rfl ht
   | _=>rfl
  rw[this] at k;exact .inl k
theorem str_nil {z:Str}:(z=("":Str))↔z.length=0:=by
 constructor
 ·rintro rfl;decide +kernel
 ·intro h;obtain⟨c⟩:=z;have h:c.size=0:=h;have:=Array.size_eq_zero_iff.mp h;subst this;rfl
noncomputable def qu:PV->Bool
 | .str c=>!(Builtin.Str.occurrences letS c 0 letS.length 1).isEmpty
 | _=>false
theorem o5 (z:Str):(bo z).map qu=z.cps.toList.map GG:=by unfold bo;rw[MA];rfl
theorem sr (h:bc st v=some n):(aH "str" n=true->∃z,v=.str z)/\(aH "str" n=false->aB v=false):=by
 cases v with
 | str z=>exact⟨fun _=>⟨z,rfl⟩,fun e=>by cases h;cases e⟩
 | ref k =>refine⟨fun e=>?_,fun _=>rfl⟩;unfold bc at h;simp only at h;split at h <;> cases h <;> cases e
 | fn a=>exact⟨fun _=>(by cases h),fun _=>rfl⟩
 | _=>cases h;exact⟨fun e=>absurd e (by decide),fun _=>rfl⟩
theorem yU {as st Q}(h:bI as st Q):aD Γ fM (frame 1 as) st (ai st Q):=by
 obtain⟨v,rfl,⟨hb,ht⟩,k⟩:=h;obtain⟨n,hn⟩:=aC hb;unfold fM;walk_at "WP";refine⟨n,hn,?_⟩;obtain⟨kt,kf⟩:=sr hn;cases e:aH "str" n with
 | false =>rw[kf e] at k;exact .inl k
 | true =>
  obtain⟨z,rfl⟩:=kt e;have zl:=ua ht;walk_at "WP";by_cases h0:z=("":Str)
  ·rw[K1 h0];have:aB (.str z)=false:=by have:=str_nil.mp h0;simp only[aB];rw[LG (by omega)];rfl
   rw[this] at k;exact .inl k
  ·rw[KW h0];have l0:0<z.length:=Nat.pos_of_ne_zero fun q=>h0 (str_nil.mpr q);refine⟨by omega,?_⟩;by_cases h8:(8:Int)<z.length
   ·rw[K1 h8];have:aB (.str z)=false:=by simp only[aB];rw[LG (show ¬z.length<=8 by omega),N8,OI]
    rw[this] at k;exact .inl k
   ·rw[KW h8];have cl:(bo z).length=z.length:=by simp[bo];rfl
    refine⟨by omega,comp_map Γm (fun x=>.bl (qu x)) trivial (fun x hx=>?_) ?_⟩
    ·obtain⟨c,hc,rfl⟩:=K7.mp hx;walk_at "WP";rfl
    ·refine⟨_,ax aw,_,a9 (f:=qu),.app rfl (.inl ?_)⟩;rw[o5];have:aB (.str z)=(z.cps.toList.map GG).all id:=by simp only[aB];rw[LF l0,LF (show z.length<=8 by omega)];simp
     rw[<-this];exact k
theorem mH {as st Q}(h:dH as st Q):aD Γ cJ (frame 1 as) st (ai st Q):=by
 obtain⟨v,rfl,⟨hb,ht⟩,k⟩:=h;obtain⟨n,hn⟩:=aC hb;unfold cJ;walk_at "WP";refine⟨n,hn,?_⟩;obtain⟨kt,kf⟩:=sr hn;cases e:aH "str" n with
 | false =>rw[kf e] at k;exact .inl k
 | true =>
  obtain⟨z,rfl⟩:=kt e;have zl:=ua ht;walk_at "WP";refine⟨by omega,[1,2,3,4,5,6,7,8],rfl,?_⟩;have e8:([1,2,3,4,5,6,7,8]:List Int).any (fun j=>j == (z.length:Int))=(decide (0<z.length) && decide (z.length<=8)):=by rw[MH];simp only[List.any_cons,List.any_nil,Bool.or_eq_true,beq_iff_eq,Bool.or_false,Bool.and_eq_true,decide_eq_true_eq];omega
  rw[e8];cases h8:(decide (0<z.length) && decide (z.length<=8)) with
  | false =>
   have:aB (.str z)=false:=by simp only[aB];rw[h8];rfl
   rw[this] at k;walk_at "WP";exact .inl k
  | true =>
   have cl:(bo z).length=z.length:=by simp[bo];rfl
   walk_at "WP";refine⟨by omega,?_⟩;refine cw Γm (fun i acc s=>s=st/\acc=((bo z).take i).filter fun x=>!qu x) ⟨rfl,rfl⟩ ?_ ?_
   ·rintro i x acc s hi ⟨rfl,rfl⟩;have hx:=K5 hi;obtain⟨c,hc,ex⟩:=K7.mp hx;refine⟨trivial,?_⟩;subst ex;have tk:(bo z).take (i+1)=(bo z).take i++[.str ⟨#[c]⟩]:=by rw[MB,hi];rfl
    walk_at "WP";rw[tk,List.filter_append];refine a7 (fun q=>?_) fun q=>?_
    ·rw[List.filter_cons_of_pos (by simpa[qu] using q),N6]
    ·rw[List.filter_cons_of_neg (by simpa[qu] using q),N6,M8]
   ·rintro acc s ⟨rfl,rfl⟩;refine⟨trivial,_,ax aw,?_⟩;have:aB (.str z)=(((bo z).take (bo z).length).filter fun x=>!qu x).isEmpty:=by
     rw[MF];have e1:aB (.str z)=((bo z).map qu).all id:=by rw[o5];simp only[aB];rw[h8];simp
     rw[e1];generalize bo z=l
     induction l with
     | nil=>rfl
     | cons a r ih =>rw[KO,MD,ih,List.filter_cons];cases qu a <;> simp
    rw[<-this];exact .inr (.app rfl k)
noncomputable def ltV:PV->Bool
 | .tup [.str a,.str b]=>decide (a.cps.toList<b.cps.toList)
 | _=>false
theorem wL:∀ {xs:List PV},(∀x∈xs,∃z,x=.str z)->(dO xs (xs.drop 1)).all ltV=upP xs
 | [],_=>rfl
 | [x],h=>by obtain⟨z,rfl⟩:=h x KP;rfl
 | x::y::r,h=>by obtain⟨a,rfl⟩:=h x KP;obtain⟨b,rfl⟩:=h y (KN _ KP);have ih:=wL (xs:=.str b::r) fun z hz=>h z (KN _ hz);show (dO (.str a::.str b::r) (.str b::r)).all _=(decide (a.cps.toList<b.cps.toList) && upP (.str b::r));rw[<-ih];rfl
theorem dC (h:aB x=true):∃z,x=.str z:=by
 cases x with
 | str z=>exact⟨z,rfl⟩
 | _=>cases h
theorem vy {as st Q}(h:dA as st Q):aD Γ ft (frame 1 as) st (ai st Q):=by
 obtain⟨v,rfl,ha,k⟩:=h;obtain⟨n,hn⟩:=aC ha.1;unfold ft;walk_at "WP";refine⟨n,hn,?_⟩;obtain⟨kt,_⟩:=a6 hn;cases e:aH "tuple" n with
 | false =>
  have:cG v=false:=by
   cases v with
   | tup xs=>cases hn;cases e
   | _=>rfl
  rw[this] at k;exact .inl k
 | true =>
  obtain⟨xs,rfl⟩:=kt e;have xl:=jJ ha.2;walk_at "WP";refine⟨by omega,comp_map Γm (fun x=>.bl (aB x)) trivial (fun x hx=>?_) ?_⟩
  ·walk_at "WP";exact⟨x,rfl,bH ha hx,rfl,rfl⟩
  ·refine⟨_,ax aw,_,a9 (f:=aB),.app rfl ?_⟩;have e1:(xs.map aB).all id=xs.all aB:=by simp
   rw[e1];cases h1:xs.all aB with
   | false =>
    have:cG (.tup xs)=false:=by simp only[cG];rw[h1];rfl
    rw[this] at k;walk_at "WP";exact .inl k
   | true =>
    have hs:∀x∈xs,∃z,x=.str z:=fun x hx=>dC (ML.mp h1 x hx);walk_at "WP";rw[Ke];have zl:(dO xs (xs.drop 1)).length<=xs.length:=by
     have:∀(a b:List PV),(dO a b).length<=a.length:=fun a=>by
      induction a with
      | nil=>intro b;simp[dO]
      | cons x a ih=>intro b;cases b with
       | nil=>simp[dO]
       | cons y b=>simp[dO];exact ih b
     exact this _ _
    refine⟨by omega,cw Γm (fun i acc s=>s=st/\acc=((dO xs (xs.drop 1)).take i).map fun x=>PV.bl (ltV x)) ⟨rfl,rfl⟩ ?_ ?_⟩
    ·rintro i x acc s hi ⟨rfl,rfl⟩;have tk:(dO xs (xs.drop 1)).take (i+1)=(dO xs (xs.drop 1)).take i++[x]:=by rw[MB,hi];rfl
     obtain⟨a,b,e1,e2,rfl⟩:=mh hi;obtain⟨za,rfl⟩:=hs a (K5 e1);obtain⟨zb,rfl⟩:=hs b (N0 (K5 e2));refine⟨⟨trivial,trivial⟩,?_⟩;walk_at "WP";rw[tk,L8];rfl
    ·rintro acc s ⟨rfl,rfl⟩;rw[MF];refine⟨⟨trivial,trivial⟩,_,ax aw,_,a9 (f:=ltV),.app rfl (.inl ?_)⟩;have e2:((dO xs (xs.drop 1)).map ltV).all id=upP xs:=by rw[<-wL hs,List.all_map];rfl
     rw[e2];have:cG (.tup xs)=upP xs:=by simp only[cG];rw[h1];rfl
     rw[<-this];exact k
theorem pB (h:bN r=true):∃a b c d:Nat × Nat,r=.tup [fr a,fr b,fr c,fr d]/\0<a.2/\0<b.2/\0<c.2/\0<d.2:=by
 unfold bN at h;split at h
 ·rename_i a b c d;simp only[Bool.and_eq_true] at h;obtain⟨an,ad,rfl,pa⟩:=a0 h.1.1.1.1;obtain⟨bn,bd,rfl,pb⟩:=a0 h.1.1.1.2;obtain⟨cn,cd,rfl,pc'⟩:=a0 h.1.1.2;obtain⟨dn,dd,rfl,pd⟩:=a0 h.1.2;exact⟨(an,ad),(bn,bd),(cn,cd),(dn,dd),rfl,pa,pb,pc',pd⟩
 ·cases h
theorem Ag {e b:Nat × Nat}:jE (fr e) (fr b)=decide (e.1*b.2<b.1*e.2):=lU
theorem eE {xs:List PV}(h:xs.length=3):∃a b c,xs=[a,b,c]:=by
 match xs,h with
 | [a,b,c],_=>exact⟨a,b,c,rfl⟩
theorem nM {xs:List PV}(h:xs.length≠3):eN e (.tup xs)=false:=by
 match xs,h with
 | [],_=>rfl
 | [_],_=>rfl
 | [_,_],_=>rfl
 | [_,_,_],h=>exact absurd rfl h
 | _::_::c::_::_,_=>cases c <;> rfl
theorem wc:∀rs:List PV,(rs.map fun x=>bN x && !jE e (gQ x)).all id=(rs.all bN && rs.all fun r=>!jE e (gQ r))
 | []=>rfl
 | x::r=>by rw[KO,MD,MD,MD,wc r];cases bN x <;> cases jE e (gQ x) <;> simp
theorem Ge {a r:PV}:eN e (.tup [a,b,r])=(aB a && aB b && !eqS a b && fP r && (match r with | .tup rs=>rs.all fun r=>!jE e (gQ r)|_=>false)):=by
 cases r with
 | tup rs=>rfl
 | _=>simp[eN,fP]
theorem B4 {as st Q}(h:fC as st Q):aD Γ gC (frame 5 as) st (ai st Q):=by
 obtain⟨v,e,rfl,ha,he,k⟩:=h;obtain⟨n,hn⟩:=aC ha.1;unfold gC;walk_at "WP";refine⟨n,hn,?_⟩;obtain⟨kt,_⟩:=a6 hn;cases ek:aH "tuple" n with
 | false =>
  have:eN (fr e) v=false:=by
   cases v with
   | tup xs=>cases hn;cases ek
   | _=>rfl
  rw[this] at k;exact .inl k
 | true =>
  obtain⟨xs,rfl⟩:=kt ek;walk_at "WP";by_cases hl:xs.length=3
  ·obtain⟨a,b,r,rfl⟩:=eE hl;have aa:=bH ha (x:=a) (by simp);have ab:=bH ha (x:=b) (by simp);have ar:=bH ha (x:=r) (by simp);rw[Ge] at k;walk_at "WP";refine⟨a,rfl,aa,?_⟩;cases ea:aB a with
   | false=>rw[ea] at k;walk_at "WP";exact .inl k
   | true =>
    rw[ea] at k;walk_at "WP";refine⟨b,rfl,ab,?_⟩;cases eb:aB b with
    | false=>rw[eb] at k;walk_at "WP";exact .inl k
    | true =>
     rw[eb] at k;obtain⟨za,rfl⟩:=dC ea;obtain⟨zb,rfl⟩:=dC eb;walk_at "WP";by_cases q:za=zb
     ·rw[K1 q];have:eqS (.str za) (.str zb)=true:=LF q;rw[this] at k;exact .inl k
     ·rw[KW q];have:eqS (.str za) (.str zb)=false:=LG q;rw[this] at k;refine⟨r,rfl,ar,?_⟩;cases er:fP r with
      | false=>rw[er] at k;walk_at "WP";exact .inl (by simpa using k)
      | true =>
       rw[er] at k;cases r with
       | tup rs =>
        have rl:=jJ ar.2;walk_at "WP";refine⟨by omega,comp_map Γm (fun x=>.bl (jE (fr e) (gQ x))) trivial (fun x hx=>?_) ?_⟩
        ·have hr:bN x=true:=ML.mp er x hx;obtain⟨f1,f2,f3,f4,rfl,p1,p2,p3,p4⟩:=pB hr;have t2:=(bH (bH ar hx) (x:=fr f2) (by simp)).2;walk_at "WP";refine⟨e,f2,rfl,he,gp (n:=f2.1) (d:=f2.2) t2 p2,?_,rfl⟩;show _=PV.bl (jE (fr e) (fr f2));rw[Ag]
        ·refine⟨_,ax aw,_,a9 (f:=fun x=>jE (fr e) (gQ x)),.app rfl ⟨_,rfl,.inl ?_⟩⟩;have e2:(!(rs.map fun x=>jE (fr e) (gQ x)).any id)=rs.all fun r=>!jE (fr e) (gQ r):=by rw[List.any_map];exact List.not_any_eq_all_not ..
         rw[e2];simpa using k
       | _=>cases er
  ·rw[nM hl] at k;rw[K1 (by omega)];exact .inl k
theorem n9 {as st Q}(h:bS as st Q):aD Γ cV (frame 2 as) st (ai st Q):=by
 obtain⟨e,v,rfl,ha,he,k⟩:=h;obtain⟨n,hn⟩:=aC ha.1;unfold cV;walk_at "WP";refine⟨n,hn,?_⟩;obtain⟨kt,_⟩:=a6 hn;cases ek:aH "tuple" n with
 | false =>
  have:eN (fr e) v=false:=by
   cases v with
   | tup xs=>cases hn;cases ek
   | _=>rfl
  rw[this] at k;exact .inl k
 | true =>
  obtain⟨xs,rfl⟩:=kt ek;walk_at "WP";by_cases hl:xs.length=3
  ·obtain⟨a,b,r,rfl⟩:=eE hl;have aa:=bH ha (x:=a) (by simp);have ab:=bH ha (x:=b) (by simp);have ar:=bH ha (x:=r) (by simp);rw[Ge] at k;walk_at "WP";refine⟨a,rfl,aa,?_⟩;cases ea:aB a with
   | false=>rw[ea] at k;walk_at "WP";exact .inl k
   | true =>
    rw[ea] at k;walk_at "WP";refine⟨b,rfl,ab,?_⟩;cases eb:aB b with
    | false=>rw[eb] at k;walk_at "WP";exact .inl k
    | true =>
     rw[eb] at k;obtain⟨za,rfl⟩:=dC ea;obtain⟨zb,rfl⟩:=dC eb;walk_at "WP";by_cases q:za=zb
     ·rw[K1 q];have:eqS (.str za) (.str zb)=true:=LF q;rw[this] at k;exact .inl k
     ·rw[KW q];have:eqS (.str za) (.str zb)=false:=LG q;rw[this] at k;obtain⟨n2,hn2⟩:=aC ar.1;refine⟨n2,hn2,?_⟩;obtain⟨kt2,_⟩:=a6 hn2;cases ek2:aH "tuple" n2 with
      | false =>
       have:fP r=false:=by
        cases r with
        | tup xs=>cases hn2;cases ek2
        | _=>rfl
       rw[this] at k;walk_at "WP";exact .inl (by simpa using k)
      | true =>
       obtain⟨rs,rfl⟩:=kt2 ek2;have rl:=jJ ar.2;walk_at "WP";refine⟨by omega,comp_map Γm (fun x=>.bl (bN x && !jE (fr e) (gQ x))) trivial (fun x hx=>?_) ?_⟩
       ·walk_at "WP";refine⟨x,rfl,bH ar hx,?_⟩;cases hr:bN x with
        | false=>walk_at "WP"
        | true =>obtain⟨f1,f2,f3,f4,rfl,p1,p2,p3,p4⟩:=pB hr;have t2:=(bH (bH ar hx) (x:=fr f2) (by simp)).2;walk_at "WP";refine⟨e,f2,rfl,he,gp (n:=f2.1) (d:=f2.2) t2 p2,?_⟩;walk_at "WP";show _=(!jE (fr e) (fr f2));rw[Ag]
       ·refine⟨_,ax aw,_,a9 (f:=fun x=>bN x && !jE (fr e) (gQ x)),.app rfl (.inl ?_)⟩;rw[wc];have e3:fP (.tup rs)=rs.all bN:=rfl;rw[e3] at k;simpa using k
  ·rw[nM hl] at k;rw[K1 (by omega)];exact .inl k
theorem Ok.three {n:Nat}{a:PV}(h:Ok st (n+1) (.tup [a,b,c])):Ok st n a/\Ok st n b/\Ok st n c:=by
 cases h with
 | tup l h=>exact⟨h a (by simp),h b (by simp),h c (by simp)⟩
noncomputable def itV (e:PV):PV->Bool
 | .tup [k,t]=>aB k && eN e t
 | _=>false
theorem gO {xs:List PV}(h:xs.length≠3):qW st (.tup xs)=false:=by
 match xs,h with
 | [],_=>rfl
 | [_],_=>rfl
 | [_,_],_=>rfl
 | [_,_,_],h=>exact absurd rfl h
 | _::_::_::_::_,_=>rfl
inductive DictOk (st:AH)(k:Nat):List (PV × PV)->Prop where
 | dk {ps:List (Str × PV)} (e:st[k]?=some (.dk (kd ps))) (l:ps.length<=6) (hk:∀p∈ps,p.1.length<=9/\PyData.strOk p.1=true) (h:∀p∈ps,Ok st 4 p.2):DictOk st k (bp (kd ps))
 | od {kvs:List (PV × PV)} (e:st[k]?=some (.od kvs)) (l:kvs.length<=6) (hk:∀p∈kvs,ky p.1=true) (h:∀p∈kvs,Ok st 4 p.2) (b:∃p∈kvs,aB p.1=false):DictOk st k kvs
theorem wx (h:Ok st 5 v)(hn:bc st v=some n):(aH "dict" n=true->∃k kvs,v=.ref k/\DictOk st k kvs/\bf st v=some kvs)/\(aH "dict" n=false->bf st v=none):=by
 cases h with
 | lst e l h=>exact⟨fun q=>by simp only[bc,e] at hn;cases hn;exact absurd q (by decide),fun _=>by simp[bf,e]⟩
 | dk e l hk h=>exact⟨fun _=>⟨_,_,rfl,.dk e l hk h,by simp[bf,e]⟩,fun q=>by simp only[bc,e] at hn;cases hn;exact absurd q (by decide)⟩
 | od e l hk h b=>exact⟨fun _=>⟨_,_,rfl,.od e l hk h b,by simp[bf,e]⟩,fun q=>by simp only[bc,e] at hn;cases hn;exact absurd q (by decide)⟩
 | _=>cases hn;exact⟨fun q=>absurd q (by decide),fun _=>rfl⟩
theorem A3 {e:PV}:qW st (.tup [e,w,d])=(aG e && cG w && (match bf st d with|some kvs=>kvs.all fun p=>aB p.1 && eN e p.2|none=>false)):=rfl
theorem BM {kvs:List (PV × PV)}:((bB kvs).map (itV e)).all id=kvs.all fun p=>aB p.1 && eN e p.2:=by unfold bB;rw[MA,List.all_map];rfl
theorem p_:bF .items (kd ps)=bB (bp (kd ps)):=by unfold bF bB bp;rw[MA];rfl
theorem Any.set (h:Any st v):Any (st.set k c) v:=⟨by rw[MV];exact h.1,h.2⟩
theorem DictOk.at (h:DictOk st k kvs):kvs.length<=6/\∀p∈kvs,Any st p.1/\Any st p.2:=by
 cases h with
 | dk e l hk h =>refine⟨by simpa[bp] using l,fun p hp=>?_⟩;obtain⟨q,hq,rfl⟩:=K7.mp hp;obtain⟨r,hr,rfl⟩:=K7.mp hq;exact⟨⟨by show (PV.str r.1).bel _=true;rw[PV.bel],by show cx (.str r.1)=true;rw[cx];exact LF (hk r hr).1⟩,(h r hr).any⟩
 | od e l hk h b=>exact⟨l,fun p hp=>⟨Ds (hk p hp) _,(h p hp).any⟩⟩
theorem jq {s:AH}{k:Nat}(h:s[k]?=some x):((s.set k c).set k x++[Cell.lst xs])[(s.set k c).length]?=some (.lst xs):=by
 have:(s.set k c).length=((s.set k c).set k x).length:=by simp
 rw[this];exact aw
theorem BS {as st Q}(h:bW as st Q):aD Γ gI (frame 4 as) st (ai st Q):=by
 obtain⟨v,rfl,ho,kq⟩:=h;have ha:=ho.any;obtain⟨n,hn⟩:=aC ha.1;unfold gI;walk_at "WP";refine⟨n,hn,?_⟩;obtain⟨kt,_⟩:=a6 hn;cases ek:aH "tuple" n with
 | false =>
  have:qW st v=false:=by
   cases v with
   | tup xs=>cases hn;cases ek
   | _=>rfl
  rw[this] at kq;exact .inl kq
 | true =>
  obtain⟨xs,rfl⟩:=kt ek;walk_at "WP";by_cases hl:xs.length=3
  ·obtain⟨e,w,d,rfl⟩:=eE hl;obtain⟨oe,ow,od⟩:=ho.three;rw[A3] at kq;walk_at "WP";refine⟨e,rfl,oe.any.1,?_⟩;cases ee:aG e with
   | false=>rw[ee] at kq;walk_at "WP";exact .inl kq
   | true =>
    rw[ee] at kq;walk_at "WP";refine⟨w,rfl,ow.any,?_⟩;cases ew:cG w with
    | false=>rw[ew] at kq;walk_at "WP";exact .inl kq
    | true =>
     rw[ew] at kq;obtain⟨n2,hn2⟩:=aC od.any.1;walk_at "WP";refine⟨n2,hn2,?_⟩;obtain⟨dt,df⟩:=wx od hn2;cases ek2:aH "dict" n2 with
     | false=>rw[df ek2] at kq;walk_at "WP";exact .inl kq
     | true =>
      obtain⟨k,kvs,rfl,D,hi⟩:=dt ek2;obtain⟨en',ed',rfl,pd⟩:=a0 ee;have he:Sz 60 (en',ed'):=gp oe.any.2 pd;obtain⟨ef,hef⟩:∃ef:Nat × Nat,ef=(en',ed'):=⟨_,rfl⟩;rw[<-hef] at he kq |-
      walk_at "WP";obtain⟨dl,da⟩:=D.at;rw[hi] at kq;have fin:∀(s':AH) (acc:List PV),acc=(bB kvs).map (fun x=>PV.bl (itV (fr ef) x))->∃bs,gq acc=some bs/\bs.all id=(kvs.all fun p=>aB p.1 && eN (fr ef) p.2):=fun s' acc ea=>by rw[ea];exact⟨_,a9 (f:=itV (fr ef)),BM⟩
      cases D with
      | dk hd l hk h4 =>
       rename_i ps;have kl:=ak hd;refine .inl ⟨_,hd,by simp;omega,?_⟩;rw[p_];refine cw Γm (fun i acc s=>s=st.set k (.fz (kd ps))/\acc=((bB (bp (kd ps))).take i).map fun x=>PV.bl (itV (fr ef) x)) ⟨rfl,rfl⟩ ?_ ?_
       ·rintro i x acc s hx ⟨rfl,rfl⟩;have tk:(bB (bp (kd ps))).take (i+1)=(bB (bp (kd ps))).take i++[x]:=by rw[MB,hx];rfl
        obtain⟨p,hp,rfl⟩:=K7.mp (K5 hx);obtain⟨a1,a2⟩:=da p hp;refine⟨trivial,?_⟩;walk_at "WP";rw[tk,L8];refine⟨p.1,rfl,a1.set,?_⟩;cases en:aB p.1 with
        | false=>walk_at "WP";show _++[PV.bl false]=_++[PV.bl (aB p.1 && eN (fr ef) p.2)];rw[en];rfl
        | true=>walk_at "WP";exact⟨p.2,ef,rfl,a2.set,he,rfl,by show _++[PV.bl _]=_++[PV.bl (aB p.1 && eN (fr ef) p.2)];rw[en];rfl⟩
       ·rintro acc s ⟨rfl,rfl⟩;rw[MF];obtain⟨bs,hb1,hb2⟩:=fin st _ rfl;refine⟨trivial,KR kl,_,ax (jq hd),bs,hb1,?_⟩;rw[hb2,mL hd];exact .app rfl (.inl kq)
      | od hd l hk h4 b =>
       refine .inr ⟨_,hd,by omega,?_⟩;refine cw Γm (fun i acc s=>st=s/\acc=((bB kvs).take i).map fun x=>PV.bl (itV (fr ef) x)) ⟨rfl,rfl⟩ ?_ ?_
       ·rintro i x acc s hx ⟨rfl,rfl⟩;have tk:(bB kvs).take (i+1)=(bB kvs).take i++[x]:=by rw[MB,hx];rfl
        obtain⟨p,hp,rfl⟩:=K7.mp (K5 hx);obtain⟨a1,a2⟩:=da p hp;refine⟨trivial,?_⟩;walk_at "WP";rw[tk,L8];refine⟨p.1,rfl,a1,?_⟩;cases en:aB p.1 with
        | false=>walk_at "WP";show _++[PV.bl false]=_++[PV.bl (aB p.1 && eN (fr ef) p.2)];rw[en];rfl
        | true=>walk_at "WP";exact⟨p.2,ef,rfl,a2,he,rfl,by show _++[PV.bl _]=_++[PV.bl (aB p.1 && eN (fr ef) p.2)];rw[en];rfl⟩
       ·rintro acc s ⟨rfl,rfl⟩;rw[MF];obtain⟨bs,hb1,hb2⟩:=fin st _ rfl;refine⟨trivial,_,ax aw,bs,hb1,?_⟩;rw[hb2];exact .app rfl (.inl kq)
  ·rw[gO hl] at kq;rw[K1 (by omega)];exact .inl kq
theorem pQ:∀ {l:List Str}{x:Str},PyProof.Rows.risingS x l=true->(x::l).Pairwise fun a b:Str=>a.cps.toList<=b.cps.toList
 | [],x,_=>List.pairwise_singleton _ _
 | y::l,x,h=>by
  rw[PyProof.Rows.risingS,KM,PyProof.Rows.ltCps_eq] at h;have le:x.cps.toList<=y.cps.toList:=List.not_lt.mp (by simpa using h.1);have pw:=pQ h.2;refine M7.mpr ⟨fun z hz=>?_,pw⟩;rcases K8.mp hz with rfl|hz
  ·exact le
  ·exact List.le_trans le ((M7.mp pw).1 z hz)
theorem tP {a b:Str}(h:a.cps.toList<=b.cps.toList)(h':b.cps.toList<=a.cps.toList):a=b:=by have:=List.le_antisymm h h';obtain⟨⟨a⟩⟩:=a;obtain⟨⟨b⟩⟩:=b;cases this;rfl
theorem q9 (h:PyProof.Rows.sortedS l=true):l.Pairwise fun a b:Str=>a.cps.toList<=b.cps.toList:=by
 cases l with
 | nil=>exact .nil
 | cons x l=>exact pQ h
theorem xA {a b:List Str}(pa:a.Pairwise fun a b:Str=>a.cps.toList<=b.cps.toList)(pb:b.Pairwise fun a b:Str=>a.cps.toList<=b.cps.toList)(na:a.Nodup)(nb:b.Nodup)(h:∀i,i∈a↔i∈b):a=b :=
 List.Perm.eq_of_pairwise (fun a b _ _ h h'=>tP h h') pa pb ((List.perm_ext_iff_of_nodup na nb).mpr h)
theorem SrtOf.uniq (h1:SrtOf a L)(h2:SrtOf b L):a=b:=xA (q9 h1.so) (q9 h2.so) h1.nd h2.nd fun i=>(h1.mem i).trans (h2.mem i).symm
theorem EA:∀ {ss:List Str},upP (sV ss)=true↔ss.Pairwise fun a b:Str=>a.cps.toList<b.cps.toList
 | []=>by simp[upP]
 | [x]=>by simp[upP]
 | x::y::r=>by
  have ih:=EA (ss:=y::r);show (decide (x.cps.toList<y.cps.toList) && upP (sV (y::r)))=true↔_;rw[KM,decide_eq_true_eq,ih];constructor
  ·rintro⟨h1,h2⟩;refine M7.mpr ⟨fun z hz=>?_,h2⟩;rcases K8.mp hz with rfl|hz
   ·exact h1
   ·exact List.lt_trans h1 ((M7.mp h2).1 z hz)
  ·intro h;rw[M7] at h;exact⟨h.1 y KP,h.2⟩
theorem Ha (h:SrtOf tt ss):upP (sV ss)=decide (ss=tt):=by
 rw[MH,EA,decide_eq_true_eq];constructor
 ·intro p;refine xA (p.imp fun h=>List.le_of_lt h) (q9 h.so) ?_ h.nd fun i=>(h.mem i).symm;exact p.imp fun h e=>by subst e;exact List.lt_irrefl _ h
 ·rintro rfl;have:=(q9 h.so).and h.nd;exact this.imp fun {a b} ⟨le,ne⟩=>by
   by_cases q:a.cps.toList<b.cps.toList
   ·exact q
   ·exact absurd (tP le (List.not_lt.mp q)) ne
theorem jW:∀ {ss:List Str},PV.toDs (sV ss)=some (ss.map PyData.str)
 | []=>by simp[PV.toDs]
 | x::r=>by rw[show sV (x::r)=PV.str x::sV r from rfl,PV.toDs,jW,PV.toD];rfl
theorem uu:∀ {ss:List Str},(∀z∈ss,PyData.strOk z=true)->PyData.canLayAll0 (ss.map PyData.str)=true/\PyData.depthAll (ss.map PyData.str)=0
 | [],_=>⟨by simp[PyData.canLayAll0],by simp[PyData.depthAll]⟩
 | x::r,h=>by
  obtain⟨h1,h2⟩:=uu (ss:=r) fun z hz=>h z (KN _ hz);refine⟨?_,?_⟩
  ·simp only[List.map_cons,PyData.canLayAll0,PyData.canLay0,h x List.mem_cons_self,Bool.true_and];exact h1
  ·simp only[List.map_cons,PyData.depthAll,h2,PyData.depth];rfl
theorem kT {ss:List Str}(h:∀z∈ss,PyData.strOk z=true):SeqAt.shaped (.list (ss.map PyData.str))=true:=by obtain⟨h1,h2⟩:=uu h;simp only[SeqAt.shaped,PyData.canLay0,h1,PyData.depth,h2];rfl
theorem tD:∀ {ss tt:List Str},PyData.eqvAll (ss.map PyData.str) (tt.map PyData.str)=decide (ss=tt)
 | [],[]=>by simp[PyData.eqvAll]
 | [],_::_=>by simp[PyData.eqvAll]
 | _::_,[]=>by simp[PyData.eqvAll]
 | x::r,y::t=>by rw[KO,KO,PyData.eqvAll,tD (ss:=r) (tt:=t),MH];simp[PyData.eqv]
theorem mG {st:AH}{n m:Nat}{k:Bool->Prop}(h1:st[n]?=some (.lst (sV ss)))(h2:st[m]?=some (.lst (sV tt)))(o1:∀z∈ss,PyData.strOk z=true)(o2:∀z∈tt,PyData.strOk z=true)(h:k (decide (ss=tt))):eqW st (.ref n) (.ref m) k:=by refine⟨.list (ss.map PyData.str),.list (tt.map PyData.str),by simp only[lC,h1,jW];rfl,by simp only[lC,h2,jW];rfl,kT o1,kT o2,?_⟩;rw[show PyData.eqv (.list (ss.map PyData.str)) (.list (tt.map PyData.str))=PyData.eqvAll (ss.map PyData.str) (tt.map PyData.str) by simp only[PyData.eqv],tD];exact h
theorem fb:∀ {xs:List PV},xs.all aB=true->∃ss:List Str,xs=sV ss
 | [],_=>⟨[],rfl⟩
 | x::r,h=>by rw[MD,KM] at h;obtain⟨z,rfl⟩:=dC h.1;obtain⟨ss,rfl⟩:=fb h.2;exact⟨z::ss,rfl⟩
theorem y_ {g:AH}(o:Ok st 5 d):bf (st++g) d=bf st d:=by
 cases o with
 | lst e l h=>simp only[bf,br e,e]
 | dk e l hk h=>simp only[bf,br e,e]
 | od e l hk h b=>simp only[bf,br e,e]
 | _=>rfl
theorem oC {as st Q}(h:eG as st Q):aD Γ cY (frame 1 as) st (ai st Q):=by
 obtain⟨v,rfl,ho,kq⟩:=h;have ha:=ho.any;obtain⟨n,hn⟩:=aC ha.1;unfold cY;walk_at "WP";refine⟨n,hn,?_⟩;obtain⟨kt,_⟩:=a6 hn;cases ek:aH "tuple" n with
 | false =>
  have:qW st v=false:=by
   cases v with
   | tup xs=>cases hn;cases ek
   | _=>rfl
  rw[this] at kq;exact .inl kq
 | true =>
  obtain⟨xs,rfl⟩:=kt ek;walk_at "WP";by_cases hl:xs.length=3
  ·obtain⟨e,w,d,rfl⟩:=eE hl;obtain⟨oe,ow,od⟩:=ho.three;rw[A3] at kq;walk_at "WP";refine⟨e,rfl,oe.any,?_⟩;cases ee:aG e with
   | false=>rw[ee] at kq;walk_at "WP";exact .inl kq
   | true =>
    rw[ee] at kq;obtain⟨n1,hn1⟩:=aC ow.any.1;walk_at "WP";refine⟨n1,hn1,?_⟩;cases ek1:aH "tuple" n1 with
    | false =>
     have:cG w=false:=by
      cases w with
      | tup xs=>cases hn1;cases ek1
      | _=>rfl
     rw[this] at kq;walk_at "WP";exact .inl kq
    | true =>
     obtain⟨ws,rfl⟩:=(a6 hn1).1 ek1;have wl:=jJ ow.any.2;walk_at "WP";refine⟨by omega,comp_map Γm (fun x=>.bl (aB x)) trivial (fun x hx=>?_) ?_⟩
     ·walk_at "WP";exact⟨x,rfl,bH ow.any hx,rfl,rfl⟩
     ·refine⟨_,ax aw,_,a9 (f:=aB),.app rfl ?_⟩;have e1:(ws.map aB).all id=ws.all aB:=by simp
      rw[e1];cases h1:ws.all aB with
      | false =>
       have:cG (.tup ws)=false:=by simp only[cG];rw[h1];rfl
       rw[this] at kq;walk_at "WP";exact .inl kq
      | true =>
       have en:cG (.tup ws)=upP ws:=by simp only[cG];rw[h1];rfl
       rw[en] at kq;obtain⟨ss,rfl⟩:=fb h1;have so:∀z∈ss,PyData.strOk z=true:=fun z hz=>by
        cases ow with
        | tup _ h=>cases h (.str z) (K7.mpr ⟨z,hz,rfl⟩) with
         | str _ o=>exact o
       walk_at "WP";refine⟨ss,rfl,by simpa using (show ss.length<60 by simp at wl;omega),fun tt t1 t2 t3 t4=>?_⟩;have S:SrtOf tt ss:=⟨t1,t2,t3⟩;rw[Ha S] at kq;refine mG (ss:=ss) (tt:=tt) (by rw[jr];rfl) get_last2 so (fun z hz=>so z ((t3 z).mp hz)) ?_;by_cases q:ss=tt
       ·rw[LF q] at kq |-
        obtain⟨s0,hs0⟩:∃s0,s0=st++[Cell.lst (sV ss),Cell.lst (sV tt)]:=⟨_,rfl⟩;have od':Ok s0 5 d:=od.pre (by rw[hs0];exact Pre.app);have ei:bf s0 d=bf st d:=by rw[hs0];exact y_ od
        rw[<-ei] at kq;simp only[Bool.true_and] at kq;have kq:Tmp st Q (.bl (match bf s0 d with|some kvs=>kvs.all fun p=>aB p.1 && eN e p.2|none=>false)) s0:=by have t:=Tmp.app (g:=[Cell.lst (sV ss),Cell.lst (sV tt)]) (Q:=Q) rfl kq;rw[<-hs0] at t;exact t
        rw[<-hs0];clear hs0 od ei;obtain⟨n2,hn2⟩:=aC od'.any.1;walk_at "WP";refine⟨n2,hn2,?_⟩;obtain⟨dt,df⟩:=wx od' hn2;cases ek2:aH "dict" n2 with
        | false=>rw[df ek2] at kq;walk_at "WP";exact .inr kq
        | true =>
         obtain⟨k,kvs,rfl,D,hi⟩:=dt ek2;obtain⟨en',ed',rfl,pd⟩:=a0 ee;have he:Sz 60 (en',ed'):=gp oe.any.2 pd;obtain⟨ef,hef⟩:∃ef:Nat × Nat,ef=(en',ed'):=⟨_,rfl⟩;rw[<-hef] at he kq |-
         walk_at "WP";obtain⟨dl,da⟩:=D.at;rw[hi] at kq;have fin:∀(s':AH) (acc:List PV),acc=(bB kvs).map (fun x=>PV.bl (itV (fr ef) x))->∃bs,gq acc=some bs/\bs.all id=(kvs.all fun p=>aB p.1 && eN (fr ef) p.2):=fun s' acc ea=>by rw[ea];exact⟨_,a9 (f:=itV (fr ef)),BM⟩
         cases D with
         | dk hd l hk h4 =>
          rename_i ps;have kl:=ak hd;refine .inl ⟨_,hd,by simp;omega,?_⟩;rw[p_];refine cw Γm (fun i acc s=>s=s0.set k (.fz (kd ps))/\acc=((bB (bp (kd ps))).take i).map fun x=>PV.bl (itV (fr ef) x)) ⟨rfl,rfl⟩ ?_ ?_
          ·rintro i x acc s hx ⟨rfl,rfl⟩;have tk:(bB (bp (kd ps))).take (i+1)=(bB (bp (kd ps))).take i++[x]:=by rw[MB,hx];rfl
           obtain⟨p,hp,rfl⟩:=K7.mp (K5 hx);obtain⟨a1,a2⟩:=da p hp;refine⟨trivial,?_⟩;walk_at "WP";rw[tk,L8];refine⟨p.1,rfl,a1.set,?_⟩;cases en:aB p.1 with
           | false=>walk_at "WP";show _++[PV.bl false]=_++[PV.bl (aB p.1 && eN (fr ef) p.2)];rw[en];rfl
           | true=>walk_at "WP";exact⟨ef,p.2,rfl,a2.set,he,rfl,by show _++[PV.bl _]=_++[PV.bl (aB p.1 && eN (fr ef) p.2)];rw[en];rfl⟩
          ·rintro acc s ⟨rfl,rfl⟩;rw[MF];obtain⟨bs,hb1,hb2⟩:=fin s0 _ rfl;refine⟨trivial,KR kl,_,ax (jq hd),bs,hb1,?_⟩;rw[hb2,mL hd];exact .app rfl (.inr kq)
         | od hd l hk h4 b =>
          refine .inr ⟨_,hd,by omega,?_⟩;refine cw Γm (fun i acc s=>s0=s/\acc=((bB kvs).take i).map fun x=>PV.bl (itV (fr ef) x)) ⟨rfl,rfl⟩ ?_ ?_
          ·rintro i x acc s hx ⟨rfl,rfl⟩;have tk:(bB kvs).take (i+1)=(bB kvs).take i++[x]:=by rw[MB,hx];rfl
           obtain⟨p,hp,rfl⟩:=K7.mp (K5 hx);obtain⟨a1,a2⟩:=da p hp;refine⟨trivial,?_⟩;walk_at "WP";rw[tk,L8];refine⟨p.1,rfl,a1,?_⟩;cases en:aB p.1 with
           | false=>walk_at "WP";show _++[PV.bl false]=_++[PV.bl (aB p.1 && eN (fr ef) p.2)];rw[en];rfl
           | true=>walk_at "WP";exact⟨ef,p.2,rfl,a2,he,rfl,by show _++[PV.bl _]=_++[PV.bl (aB p.1 && eN (fr ef) p.2)];rw[en];rfl⟩
          ·rintro acc s ⟨rfl,rfl⟩;rw[MF];obtain⟨bs,hb1,hb2⟩:=fin s0 _ rfl;refine⟨trivial,_,ax aw,bs,hb1,?_⟩;rw[hb2];exact .app rfl (.inr kq)
       ·rw[LG q] at kq |-
        walk_at "WP";exact .inr (.app rfl kq)
  ·rw[gO hl] at kq;rw[K1 (by omega)];exact .inl kq
theorem wR {ps:List (Str × PV)}{i:Nat}(h:ps[i]?=some p)(e:p.2=.tup [.str a,.str b,r]):plL ws (ps.take (i+1))=plL ws (ps.take i)++[a,b]:=by unfold plL;rw[MB,h];simp only[Option.toList_some,List.map_append,List.flatten_append,List.map_cons,List.map_nil,e,yT];simp
theorem vS {ws:List Str}{ps:List (Str × PV)}(h1:ws.length<=6)(h2:ps.length<=6)(h:∀p∈ps,∃a b r,p.2=.tup [.str a,.str b,r]):(plL ws ps).length<=18:=by
 have:∀qs:List (Str × PV),(qs.map fun p=>yT p.2).flatten.length<=2*qs.length:=fun qs=>by
  induction qs with
  | nil=>simp
  | cons q qs ih =>
   have:(yT q.2).length<=2:=by unfold yT;split <;> simp
   simp only[List.map_cons,List.flatten_cons,List.length_append,List.length_cons];omega
 have:=this ps;unfold plL;rw[LJ];omega
theorem xu {ws:List Str}{ps:List (Str × PV)}(h1:ws.length<=6)(h2:ps.length<=6)(h:∀p∈ps,∃a b r,p.2=.tup [.str a,.str b,r])(i:Nat):(plL ws (ps.take i)).length<=18 :=
 vS h1 (by rw[MI];omega) fun p hp=>h p (N1 hp)
def Wk (st:AH)(d:Nat)(kvs:List (Key × PV))(s:AH):Prop:=∀j,j<st.length->s[j]?=(st.set d (.fz kvs))[j]?
theorem Wk.len (h:Wk st d kvs s):st.length<=s.length:=by have:=Pre.len (st:=st.set d (.fz kvs)) (s:=s) fun i hi=>h i (by simpa using hi);simpa using this
theorem Wk.app {g:AH}(h:Wk st d kvs s):Wk st d kvs (s++g):=fun j hj=>by rw[K9 (KZ hj h.len)];exact h j hj
theorem Wk.set {n:Nat}(h:Wk st d kvs s)(hn:st.length<=n):Wk st d kvs (s.set n c):=fun j hj=>by rw[KU (by omega)];exact h j hj
theorem Wk.fz (h:Wk st d kvs s)(hd:st[d]?=some (.dk kvs)):s[d]?=some (.fz kvs):=by rw[h d (ak hd),KR (ak hd)]
theorem Wk.back (h:Wk st d kvs s)(hd:st[d]?=some (.dk kvs)):Pre st (s.set d (.dk kvs)):=fun j hj=>by
 by_cases e:d=j
 ·subst e;rw[KR (KZ hj h.len),hd]
 ·rw[KU e,h j hj,KU e]
theorem uv {as st Q}(h:aX as st Q):aD Γ eA (frame 8 as) st (ai st Q):=by
 obtain⟨e,ws,d,ps,rfl,hd,wl,pl,ht,k⟩:=h;have dl:=ak hd;unfold eA;refine bA (fun ρ s=>st=s/\ρ=[some (.tup [e,.tup (sV ws),.ref d]),some e,some (.tup (sV ws)),some (.ref d),none,none,none,none]) (by walk_at "WPN") ?_;rintro _ _ ⟨rfl,rfl⟩;refine bA (fun ρ s=>s=st++[.lst (sV ws)]/\ρ=[some (.tup [e,.tup (sV ws),.ref d]),some e,some (.tup (sV ws)),some (.ref d),some (.ref st.length),none,none,none]) (by walk_at "WPN") ?_;rintro _ _ ⟨rfl,rfl⟩;refine bA (fun ρ s=>(Pre st s/\s[st.length]?=some (.lst (sV (plL ws ps))))/\∃(a b c:Option PV),ρ=[some (.tup [e,.tup (sV ws),.ref d]),some e,some (.tup (sV ws)),some (.ref d),some (.ref st.length),a,b,c]) ?_ ?_
 ·obtain⟨P,hP⟩:∃P:Fr->AH->Prop,P=fun ρ s=>(Pre st s/\s[st.length]?=some (.lst (sV (plL ws ps))))/\∃(a b c:Option PV),ρ=[some (.tup [e,.tup (sV ws),.ref d]),some e,some (.tup (sV ws)),some (.ref d),some (.ref st.length),a,b,c]:=⟨_,rfl⟩;rw[<-hP];walk_at "WPN";refine⟨_,br hd,?_⟩;refine iU Γm (fun i ρ s=>Wk st d (kd ps) s/\s[st.length]?=some (.lst (sV (plL ws (ps.take i))))/\∃(a b c:Option PV),ρ=[some (.tup [e,.tup (sV ws),.ref d]),some e,some (.tup (sV ws)),some (.ref d),some (.ref st.length),a,b,c]) ⟨fun j hj=>?_,?_,none,none,none,rfl⟩ ?_ ?_
  ·by_cases q:d=j
   ·subst q;rw[KR (by simp;omega),KR dl]
   ·rw[KU q,KU q,K9 hj]
  ·rw[KU (by omega),aw];simp[plL]
  ·rintro i v ρ s hi ⟨hw,hn,a,b,c,rfl⟩;obtain⟨q,hq,rfl⟩:=qT hi;obtain⟨za,zb,r,eq⟩:=ht q (K5 hq);rw[eq];refine⟨trivial,?_⟩;have ll:=xu wl pl ht i;have sl:=ak hn;walk_at "WPN";refine⟨_,br hn,by simp;omega,hw.app.set (KJ _),?_⟩;rw[KR (by simp;omega),wR hq eq];simp[sV]
  ·rintro ρ s ⟨hw,hn,a,b,c,rfl⟩;refine⟨trivial,?_⟩;have wlen:(bF .values (kd ps)).length=ps.length:=tX;rw[wlen,MF] at hn;walk_at "WPN";refine⟨hw.fz hd,?_⟩;rw[hP];refine⟨⟨hw.back hd,?_⟩,a,b,c,rfl⟩;rw[KU (by omega)];exact hn
 rintro _ s ⟨⟨hs,hn⟩,a,b,c,rfl⟩;walk_at "WP";have ll:=vS wl pl ht;refine⟨_,av hn,by omega,fun ss h1 h2 h3 h4=>.inl (k ss _ _ ⟨h1,h2,h3⟩ (by omega) (hs.trans Pre.app) hs.len aw)⟩
theorem oF {as st Q}(h:eM as st Q):aD Γ cW (frame 5 as) st (ai st Q):=by
 obtain⟨e,ws,d,ps,rfl,hd,wl,pl,ht,k⟩:=h;have dl:=ak hd;unfold cW;refine bA (fun ρ s=>s=st++[.lst (sV ws)]/\ρ=[some (.tup [e,.tup (sV ws),.ref d]),some (.ref st.length),none,none,none]) (by walk_at "WPN") ?_;rintro _ _ ⟨rfl,rfl⟩;refine bA (fun ρ s=>Pre st s/\∃(n:Nat) (a b c:Option PV),s[n]?=some (.lst (sV (plL ws ps)))/\ρ=[some (.tup [e,.tup (sV ws),.ref d]),some (.ref n),a,b,c]) ?_ ?_
 ·obtain⟨P,hP⟩:∃P:Fr->AH->Prop,P=fun ρ s=>Pre st s/\∃(n:Nat) (a b c:Option PV),s[n]?=some (.lst (sV (plL ws ps)))/\ρ=[some (.tup [e,.tup (sV ws),.ref d]),some (.ref n),a,b,c]:=⟨_,rfl⟩;rw[<-hP];walk_at "WPN";refine⟨_,br hd,?_⟩;refine iU Γm (fun i ρ s=>Wk st d (kd ps) s/\∃(n:Nat) (a b c:Option PV),st.length<=n/\s[n]?=some (.lst (sV (plL ws (ps.take i))))/\ρ=[some (.tup [e,.tup (sV ws),.ref d]),some (.ref n),a,b,c]) ⟨fun j hj=>?_,st.length,none,none,none,KJ _,?_,rfl⟩ ?_ ?_
  ·by_cases q:d=j
   ·subst q;rw[KR (by simp;omega),KR dl]
   ·rw[KU q,KU q,K9 hj]
  ·rw[KU (by omega),aw];simp[plL]
  ·rintro i v ρ s hi ⟨hw,n,a,b,c,nl,hn,rfl⟩;obtain⟨q,hq,rfl⟩:=qT hi;obtain⟨za,zb,r,eq⟩:=ht q (K5 hq);rw[eq];refine⟨trivial,?_⟩;have ll:=xu wl pl ht i;have sl:=ak hn;have wl':=hw.len;walk_at "WPN";refine⟨_,br hn,by simp;omega,hw.app,_,by omega,get_last2.trans ?_,rfl⟩;rw[wR hq eq];simp[sV]
  ·rintro ρ s ⟨hw,n,a,b,c,nl,hn,rfl⟩;refine⟨trivial,?_⟩;have wlen:(bF .values (kd ps)).length=ps.length:=tX;rw[wlen,MF] at hn;walk_at "WPN";refine⟨hw.fz hd,?_⟩;rw[hP];refine⟨hw.back hd,n,a,b,c,?_,rfl⟩;rw[KU (by omega)];exact hn
 rintro _ s ⟨hs,n,a,b,c,hn,rfl⟩;walk_at "WP";have ll:=vS wl pl ht;refine⟨_,av hn,by omega,fun ss h1 h2 h3 h4=>.inl (k ss _ _ ⟨h1,h2,h3⟩ (by omega) (hs.trans Pre.app) hs.len aw)⟩
theorem Ok.nat {i:Nat}(h:i<10 ^ 12):Ok st n (.int i):=.int (by simpa using h)
theorem C3 {n y:Nat}(h:y<n):ixN n (y:Int)=some y:=by unfold ixN;rw[K1 (by omega)];simp[h]
theorem vL {as st Q}(h:bR as st Q):aD Γ ff (frame 4 as) st (ai st Q):=by
 obtain⟨p,xs,x,rfl,hp,xl,k⟩:=h;have pl:=hp.lt;unfold ff;walk_at "WP";refine⟨xs,ax aw,?_⟩;cases xs with
 | nil =>refine a7 (fun _=>?_) fun c=>(absurd rfl c);exact .inl (k [x] _ (Gr.refl hp).app (by simp) fun y hy=>.inl (K4.mp hy))
 | cons a r =>
  refine a7 (fun c=>(by cases c)) fun _=>?_;refine⟨_,av aw,p,_,rfl,(Gr.refl hp).app.pot,by simp,by simp at xl;simp;omega,fun y s1 y0 y1 g1=>?_⟩;obtain⟨y,rfl⟩:∃m:Nat,y=m:=⟨y.toNat,by omega⟩;have hl:=g1.get (aw (st:=st)) (by omega);have il:y<(a::r).length:=by simp at y1 |-;omega
  rw[BU];refine⟨_,hl,y,C3 il,?_⟩;refine⟨_,av (KR (ak hl)),.inl (k _ _ (((Gr.refl hp).app.trans g1).setN (KJ _)) (by rw[MV];exact xl) fun z hz=>?_)⟩;exact(List.mem_or_eq_of_mem_set hz).symm
noncomputable def okA:PV->Bool
 | .non=>true
 | .bl _=>true
 | .int i=>decide (i.natAbs<10 ^ 12)
 | .str z=>decide (z.length<=9) && PyData.strOk z
 | _=>false
noncomputable def okB:PV->Bool
 | .tup xs=>decide (xs.length<=6) && xs.all okA
 | .ref _=>true
 | v=>okA v
noncomputable def uK:List PV->List Nat
 | []=>[]
 | .ref m::xs=>m::uK xs
 | _::xs=>uK xs
theorem td:∀ {L:List PV}{m:Nat},PV.ref m∈L->m∈uK L
 | x::xs,m,h=>by
  rcases K8.mp h with rfl|h
  ·exact KP
  ·have:=td h;cases x <;> first|exact this|exact KN _ this
theorem iV (h:okA v=true):Ok st n v:=by
 cases v with
 | non=>exact .non n
 | bl b=>exact .bl n b
 | int i=>exact .int (LL h)
 | str z=>exact .str (LL ((KM _ _).mp h).1) ((KM _ _).mp h).2
 | tup xs=>cases h
 | ref k=>cases h
 | rdl xs=>cases h
 | fn k=>cases h
theorem He (h:okB v=true)(hr:∀m,v=.ref m->Ok st 1 v):Ok st 1 v:=by
 cases v with
 | non=>exact .non _
 | bl b=>exact .bl _ b
 | int i=>exact iV h
 | str z=>exact iV h
 | tup xs =>have:=(KM _ _).mp h;exact .tup (LL this.1) fun x hx=>iV (ML.mp this.2 x hx)
 | ref k=>exact hr k rfl
 | rdl xs=>cases h
 | fn k=>cases h
theorem Ok.nilL {st:AH}{n k:Nat}(e:st[k]?=some (.lst [])):Ok st (n+1) (.ref k):=.lst e (by decide) fun x hx=>nomatch hx
theorem Ok.nilD {st:AH}{n k:Nat}(e:st[k]?=some (.dk [])):Ok st (n+1) (.ref k):=.dk (ps:=[]) e (by decide) (fun x hx=>nomatch hx) fun x hx=>nomatch hx
theorem Ok.oneL {st:AH}{n k:Nat}(e:st[k]?=some (.lst [.int 1,.int 1])):Ok st (n+1) (.ref k):=.lst e (by decide) fun x hx=>by
 have:x=.int 1:=by simpa using hx
 subst this;exact .int (by decide)
theorem aW {st g:AH}{j:Nat}(h:g[j]?=some c):(st++g)[st.length+j]?=some c:=by rw[LH (OB _ _),Nat.add_sub_cancel_left];exact h
theorem qS {s:AH}{n:Nat}{Q:EK}(e:s[n]?=some (.lst L))(hp:Pot s p)(ne:n≠p)(l0:0<L.length)(l1:L.length<=1000)(k:∀v s',v∈L->Gr s p s'->Q v s'):bK [.ref p,.ref n] s Q :=
 ⟨p,_,L.length,_,rfl,hp,l0,l1,qo ne e,fun _ s1 hi g=>k _ s1 (qF hi) g⟩
theorem OkA.gr {A:Nat->Prop}(o:OkA A s n v)(g:Gr s p s')(hp:∀i,A i->i≠p):OkA A s' n v:=fun t h=>o t fun i a l=>(h i a (KZ l g.len)).trans (g.old i l (hp i a))
theorem OkA.mono {A B:Nat->Prop}(o:OkA A s n v)(h:∀i,A i->B i):OkA B s n v:=fun t ht=>o t fun i a l=>ht i (h i a) l
theorem OkA.up {A:Nat->Prop}{m:Nat}(o:OkA A s n v)(h:n<=m):OkA A s m v:=fun t ht=>(o t ht).up h
theorem OkA.ok {A:Nat->Prop}(o:OkA A s n v):Ok s n v:=o s fun _ _ _=>rfl
theorem OkA.set {A:Nat->Prop}(o:OkA A s n v)(h:¬A k):OkA A (s.set k c) n v:=fun t ht=>o t fun i a l=>by rw[ht i a (by rw[MV];exact l),KU (fun e=>h (by rw[e];exact a))]
theorem OkA.tup {A:Nat->Prop}{ys:List PV}(l:ys.length<=6)(h:∀y∈ys,OkA A s n y):OkA A s (n+1) (.tup ys):=fun t ht=>.tup l fun y hy=>h y hy t ht
theorem OkA.lst {A:Nat->Prop}{s:AH}{k:Nat}(e:s[k]?=some (.lst ys))(a:A k)(l:ys.length<=6)(h:∀y∈ys,OkA A s n y):OkA A s (n+1) (.ref k):=fun t ht=>.lst ((ht k a (ak e)).trans e) l fun y hy=>h y hy t ht
theorem Ok.fr {n:Nat}(h:Fz q):Ok s (n+1) (fr q):=.tup (by simp) fun x hx=>by
 simp only[List.mem_cons,List.not_mem_nil,or_false] at hx;rcases hx with rfl|rfl
 ·exact .nat h.a
 ·exact .nat h.b
theorem RdT.mem (h:RdT v):∃xs,v=.tup xs/\xs.length=4/\∀x∈xs,∃q,x=My.fr q/\Fz q:=by
 obtain⟨a,b,c,d,rfl,ha,hb,hc,hd,_⟩:=h;refine⟨_,rfl,rfl,fun x hx=>?_⟩;simp only[List.mem_cons,List.not_mem_nil,or_false] at hx;rcases hx with rfl|rfl|rfl|rfl
 ·exact⟨_,rfl,ha⟩
 ·exact⟨_,rfl,hb⟩
 ·exact⟨_,rfl,hc⟩
 ·exact⟨_,rfl,hd⟩
theorem RdT.ok {n:Nat}(h:RdT v):Ok s (n+2) v:=by obtain⟨xs,rfl,l,h⟩:=h.mem;exact .tup (by omega) fun x hx=>by obtain⟨q,rfl,z⟩:=h x hx;exact .fr z
theorem Nm.sok (h:Nm z):Ok s n (.str z):=.str (by have:=h.len;omega) h.ok
theorem TieT.ok {n:Nat}(h:TieT v):Ok s (n+4) v:=by
 obtain⟨a,b,L,rfl,ha,hb,hL,l⟩:=h;refine .tup (by simp) fun x hx=>?_;simp only[List.mem_cons,List.not_mem_nil,or_false] at hx;rcases hx with rfl|rfl|rfl
 ·exact ha.sok
 ·exact hb.sok
 ·exact .tup (by omega) fun x hx=>(hL x hx).ok
theorem u4 {as st Q}(h:cy as st Q):aD Γ e7 (frame 2 as) st (ai st Q):=by
 obtain⟨p,rfl,hp,k⟩:=h;have pl:=hp.lt;unfold e7;walk_at "WP";refine⟨⟨by decide,by decide,by decide⟩,qS (aW (j:=7) rfl) hp.app (by omega) (Nat.succ_pos _) (LL rfl) fun v s1 hm g=>.inl (k _ _ ((Gr.refl hp).app.trans g) fun t ht=>?_)⟩;refine He (ML.mp ?_ _ hm) fun m e=>?_
 ·kernel_rfl
 ·subst e;have:m∈[st.length,st.length+1,st.length+3]:=td hm;simp only[List.mem_cons,List.not_mem_nil,or_false] at this;rcases this with rfl|rfl|rfl
  ·have:=g.get (aW (j:=0) rfl) (by omega);exact .nilL ((ht _ (KJ _) (ak this)).trans this)
  ·have:=g.get (aW (j:=1) rfl) (by omega);exact .nilD ((ht _ (by omega) (ak this)).trans this)
  ·have:=g.get (aW (j:=3) rfl) (by omega);exact .oneL ((ht _ (by omega) (ak this)).trans this)
theorem sm {A:Nat->Prop}{p:Nat}{xs:List PV}{Q:EK}(hA:∀i,A i->i≠p)(hp:Pot s p)(xl:xs.length<=6)(hx:∀y∈xs,OkA A s n y)(ho:OkA A s n x)(k:∀ys s',Gr s p s'->OkA A s' (n+1) (.tup ys)->Q (.tup ys) s'):bR [.ref p,.tup xs,x] s Q :=
 ⟨p,xs,x,rfl,hp,xl,fun ys s' g yl hy=>k ys s' g (.tup yl fun y h=>(hy y h).elim (fun e=>e ▸ ho.gr g hA) fun z=>(hx y z).gr g hA)⟩
theorem RdT.dat (h:RdT v):aV 2 v=true:=by obtain⟨xs,rfl,l,h⟩:=h.mem;rw[aV];exact hU fun x hx=>by obtain⟨q,rfl,_⟩:=h x hx;simp[aV,cT,My.fr]
theorem Df {L:List PV}{k:Bool->Prop}(h:∀v∈L,RdT v)(q:k L.isEmpty):eqW st (.tup L) (.tup []) k:=by
 refine D5 (n:=3) (by decide) (by rw[aV];exact hU fun x hx=>(h x hx).dat) (by simp[aV,cT]) ?_;cases L with
 | nil=>simpa[PV.same,PV.sames] using q
 | cons a r=>simpa[PV.same,PV.sames] using q
theorem zy:(fE L none (some 1)).length<=1:=by unfold fE;have:=HT.sIx_nat L.length L.length 1;rw[show ((1:Nat):Int)=(1:Int) from rfl] at this;rw[HT.sIx_none,this,MI,NY];omega
theorem iz {as st Q}(h:aZ as st Q):aD Γ bJ (frame 4 as) st (ai st Q):=by
 obtain⟨p,L,rfl,hp,hL,ll,k⟩:=h;have pl:=hp.lt;generalize hA:(fun i=>st.length<=i)=A at k;have A1:∀i,st.length<=i->A i:=fun i h=>by rw[<-hA];exact h
 have A2:∀i,A i->i≠p:=fun i h=>by rw[<-hA] at h;have:st.length<=i:=h;omega
 unfold bJ;walk_at "WP";refine⟨p,6,rfl,hp,by decide,by decide,fun x s1 x0 x1 g1=>?_⟩;have hO:∀(s:AH) (n:Nat),∀v∈L,OkA A s (n+2) v:=fun s n v hv _ _=>(hL v hv).ok;have up:∀ {s:AH}{v:PV},OkA (fun i=>s1.length<=i) s 1 v->OkA A s 1 v:=fun o=>o.mono fun i h=>A1 i (K_ g1.len h);have B:cy [PV.ref p] s1 fun x st1=>L.length<=99999/\Ret st Q (PV.tup (L++[x])) st1:=⟨p,rfl,g1.pot,fun v s2 g2 o2=>⟨by omega,.inl (k _ _ (g1.trans g2) (.tup (by simp;omega) fun y hy=>by
  rcases LC.mp hy with hy|hy
  ·exact hO _ 0 y hy
  ·rw[K4.mp hy];exact(up o2).up (by decide)))⟩⟩
 show eqW _ _ _ _;rw[oP];refine a7 (fun _=>.inl (k _ _ g1.app (.lst aw (A1 _ g1.len) (by omega) (hO _ 0)))) fun _=>?_;rw[oP];refine a7 (fun _=>B) fun _=>?_;refine Df hL ?_;refine a7 (fun _=>B) fun ne=>?_;cases L with
 | nil=>exact absurd rfl ne
 | cons r L' =>
 obtain⟨xs,rfl,xl,hx⟩:=(hL r KP).mem;have hX:∀(s:AH) (n:Nat),∀v∈xs,OkA A s (n+1) v:=fun s n v hv _ _=>by obtain⟨q,rfl,z⟩:=hx v hv;exact .fr z
 have fin:∀ {s:AH}{x:PV},Gr st p s->OkA A s 2 x->bR [PV.ref p,PV.tup (.tup xs::L'),x] s fun v st1=>Ret st Q v st1:=fun g o=>sm A2 g.pot (by omega) (hO _ 0) o fun ys s' g' o'=>.inl (k _ _ (g.trans g') o');refine⟨_,mS,?_⟩;rw[oP];refine a7 (fun _=>⟨p,rfl,g1.pot,fun v s2 g2 o2=>sm A2 g2.pot (by omega) (hX _ 0) (up o2) fun ys s3 g3 o3=>fin ((g1.trans g2).trans g3) o3⟩) fun _=>?_;rw[oP];refine a7 (fun _=>⟨p,4,rfl,g1.pot,by decide,by decide,fun y s2 y0 y1 g2=>?_⟩) fun _=>?_
 ·obtain⟨v,ev,hv⟩:=mF (fun v hv=>hX s2 0 v hv) y0 (by omega);exact⟨xs,rfl,v,ev,sm A2 g2.pot (by omega) (hX _ 0) hv fun ys s3 g3 o3=>fin ((g1.trans g2).trans g3) o3⟩
 ·walk_at "WP";have c1:=zy (L:=xs);refine⟨by omega,p,4,rfl,g1.pot.app,by decide,by decide,fun y s2 y0 y1 g2=>?_⟩;have ne1:=g1.ne;have n1:s1.length+1≠p:=by have:=g1.pot.lt;omega
  have l1:=g2.get (aW (j:=0) rfl) ne1;have l2:=g2.get (aW (j:=1) rfl) n1;obtain⟨v,ev,hv⟩:=mF (P:=OkA A s2 2) (L:=[PV.tup (xs++fE xs none (some 1)),PV.tup (fE xs none (some 3)),PV.ref (List.length s1),PV.tup xs.reverse]) (fun v hv=>by
   simp only[List.mem_cons,List.not_mem_nil,or_false] at hv;rcases hv with rfl|rfl|rfl|rfl
   ·exact .tup (by rw[LJ];omega) fun y hy=>hX _ 0 y ((LC.mp hy).elim id jj)
   ·exact .tup (K_ (wF _ _ _) (by omega)) fun y hy=>hX _ 0 y (jj hy)
   ·exact .lst l1 (A1 _ g1.len) (by omega) (hX _ 0)
   ·exact .tup (by rw[NJ];omega) fun y hy=>hX _ 0 y (List.mem_reverse.mp hy)) y0 y1
  exact⟨_,av l2,v,ev,fin (g1.app.trans g2) hv⟩
theorem Ij {P:PV->Prop}(h1:P x)(h2:P y):∀z∈[x,y],P z:=fun z hz=>by
 rcases K8.mp hz with rfl|hz
 ·exact h1
 ·rw[K4.mp hz];exact h2
theorem iQ {P:PV->Prop}(h1:P x)(h2:P y)(h3:P w):∀z∈[x,y,w],P z:=fun z hz=>by
 rcases K8.mp hz with rfl|hz
 ·exact h1
 ·exact Ij h2 h3 z hz
theorem CS {P:PV->Prop}(h1:P x)(h2:P y)(h3:P w)(h4:P u):∀z∈[x,y,w,u],P z:=fun z hz=>by
 rcases K8.mp hz with rfl|hz
 ·exact h1
 ·exact iQ h2 h3 h4 z hz
theorem jv {as st Q}(h:ba as st Q):aD Γ bV (frame 6 as) st (ai st Q):=by
 obtain⟨p,v,rfl,hp,⟨a,b,L,rfl,ha,hb,hL,ll⟩,k⟩:=h;have pl:=hp.lt;generalize hA:(fun i=>st.length<=i)=A at k;have A1:∀i,st.length<=i->A i:=fun i h=>by rw[<-hA];exact h
 have A2:∀i,A i->i≠p:=fun i h=>by rw[<-hA] at h;have:st.length<=i:=h;omega
 have oa:∀ {s:AH}{n:Nat},OkA A s n (.str a):=fun _ _=>ha.sok;have ob:∀ {s:AH}{n:Nat},OkA A s n (.str b):=fun _ _=>hb.sok;have oL:∀ {s:AH}{n:Nat},OkA A s (n+3) (.tup L):=fun _ _=>.tup (by omega) fun x hx=>(hL x hx).ok;unfold bV;walk_at "WP";refine⟨p,8,rfl,hp,by decide,by decide,fun x s1 x0 x1 g1=>?_⟩;walk_at "WP";refine a7 (fun _=>⟨p,L,rfl,g1.pot,hL,ll,fun v s2 g2 o=>.inl (k _ _ (g1.trans g2) (.tup (by simp) (iQ oa ob (o.mono fun i h=>A1 i (K_ g1.len h)))))⟩) fun c=>?_;refine a7 (fun _=>⟨p,rfl,g1.pot,fun v s2 g2 o=>sm A2 g2.pot (by simp) (iQ oa ob oL) ((o.mono fun i h=>A1 i (K_ g1.len h)).up (by decide)) fun ys s3 g3 o=>.inl (k _ _ ((g1.trans g2).trans g3) o)⟩) fun c'=>?_;refine⟨_,av (aW (j:=1) rfl),?_⟩;obtain⟨v,ev,hv⟩:=mF (P:=OkA A (s1++[Cell.lst [PV.str a,PV.str b,PV.tup L],Cell.lst [PV.tup [PV.str a,PV.str a,PV.tup L],PV.tup [PV.str a,PV.str b],PV.tup [PV.str a,PV.str b,PV.tup L,PV.tup L],PV.ref (List.length s1)]]) 4) (L:=[PV.tup [PV.str a,PV.str a,PV.tup L],PV.tup [PV.str a,PV.str b],PV.tup [PV.str a,PV.str b,PV.tup L,PV.tup L],PV.ref (List.length s1)]) (CS (.tup (by simp) (iQ oa oa oL)) (.tup (by simp) (Ij oa ob)) (.tup (by simp) (CS oa ob oL oL)) (.lst (aW (j:=0) rfl) (A1 _ g1.len) (by simp) (iQ oa ob oL))) (y:=x-4) (by omega) (by simp;omega);exact⟨v,ev,.inl (k _ _ g1.app hv)⟩
theorem TieT.dt (h:TieT v):∃d,v.toD=some d/\SeqAt.shaped d=true:=by
 obtain⟨a,b,L,rfl,ha,hb,hL,ll⟩:=h;obtain⟨d,e,h1,h2⟩:=fG (n:=3) (v:=.tup L) (by rw[aV];exact hU fun x hx=>(hL x hx).dat);have e':Option.map PyData.tuple (PV.toDs L)=some d:=by simpa[PV.toD] using e
 refine⟨.tuple [.str a,.str b,d],by simp[PV.toD,PV.toDs,e'],?_⟩;simp[SeqAt.shaped,PyData.canLay0,PyData.canLayAll0,PyData.depth,PyData.depthAll,h1,ha.ok,hb.ok];omega
theorem CY {ps:List (Str × PV)}{z:Str}(h:z∈ps.map (·.1)):∃q∈ps,fD (kd ps) (.inr z)=some q.2:=by
 induction ps with
 | nil=>cases h
 | cons q r ih =>
  by_cases e:q.1=z
  ·exact⟨q,KP,by simp[fD,kd,e]⟩
  ·rw[KO,K8] at h;obtain⟨q',hq,e'⟩:=ih (h.resolve_left fun z=>e z.symm);refine⟨q',KN _ hq,?_⟩;simp only[fD,kd,List.map_cons,List.find?_cons] at e' |-
   rw[LG (fun z=>e (OU z))];exact e'
theorem OkA.dk {A:Nat->Prop}{s:AH}{k:Nat}(e:s[k]?=some (.dk (kd qs)))(a:A k)(l:qs.length<=6)(hk:∀p∈qs,p.1.length<=9/\PyData.strOk p.1=true)(h:∀p∈qs,OkA A s n p.2):OkA A s (n+1) (.ref k):=fun t ht=>.dk ((ht k a (ak e)).trans e) l hk fun y hy=>h y hy t ht
theorem OkA.od {A:Nat->Prop}{s:AH}{k:Nat}(e:s[k]?=some (.od kvs))(a:A k)(l:kvs.length<=6)(hk:∀p∈kvs,ky p.1=true)(h:∀p∈kvs,OkA A s n p.2)(b:∃p∈kvs,aB p.1=false):OkA A s (n+1) (.ref k):=fun t ht=>.od ((ht k a (ak e)).trans e) l hk (fun y hy=>h y hy t ht) b
noncomputable abbrev Bg:List PV:=[PV.int 7,PV.non,PV.str (Str.ofString ""),PV.str (Str.ofString "A"),PV.tup [PV.str (Str.ofString "a")],PV.str (Str.ofString "abcdefghi"),PV.bl true,PV.str (Str.ofString "b")]
noncomputable abbrev yD:PV:=PV.tup [PV.str (Str.ofString "a"),PV.str (Str.ofString "b"),PV.tup []]
theorem wU {A:Nat->Prop}{n:Nat}:OkA A s (n+2) yD:=.tup (by simp) (iQ (fun _ _=>iV (by decide +kernel)) (fun _ _=>iV (by decide +kernel)) (.tup (by simp) fun y hy=>nomatch hy))
theorem Dl {s:AH}{p m:Nat}{kS:AH->Prop}{v:PV}(hv:v∈Bg)(hm:s[m]?=some (.dk (kd ps)))(ne:m≠p)(l:ps.length<=5)(hk:∀q∈ps,Nm q.1)(ht:∀q∈ps,TieT q.2)(k:∀c,OkA (fun i=>i≠p) (s.set m c) 5 (.ref m)->kS (s.set m c)):sv m v yD s kS:=by
 have kl:(kd ps).length<=1000:=by simp;omega
 have ml:=ak hm;have strC:∀z:Str,z.length<=9->PyData.strOk z=true->sv m (.str z) yD s kS:=fun z zl zo=>by
  refine⟨kd ps,hm,kl,?_⟩;show kS _;rw[uO];refine k _ (.dk (KR ml) ne (K_ mO (by omega)) (fun q hq=>?_) fun q hq=>?_)
  ·rcases gR hq with hq|rfl
   ·exact⟨K_ (hk q hq).len (by decide),(hk q hq).ok⟩
   ·exact⟨zl,zo⟩
  ·rcases gR hq with hq|rfl
   ·exact fun _ _=>(ht q hq).ok
   ·exact wU
 have oddC:∀i:PV,ky i=true->aB i=false->kS (s.set m (.od (bp (kd ps)++[(i,yD)]))):=fun i h1 h2=>by
  refine k _ (.od (KR ml) ne (by simp[bp];omega) (fun q hq=>?_) (fun q hq=>?_) ⟨(i,yD),by simp,h2⟩)
  ·rcases LC.mp hq with hq|hq
   ·simp only[bp,kd,List.map_map,List.mem_map] at hq;obtain⟨r,hr,rfl⟩:=hq;have:=(hk r hr).len;show (decide (r.1.length<=9) && PyData.strOk r.1)=true;rw[(hk r hr).ok,LF (by omega)];rfl
   ·rw[K4.mp hq];exact h1
  ·rcases LC.mp hq with hq|hq
   ·simp only[bp,kd,List.map_map,List.mem_map] at hq;obtain⟨r,hr,rfl⟩:=hq;exact fun _ _=>(ht r hr).ok
   ·rw[K4.mp hq];exact wU
 have tx:Hi (kd ps):=⟨ps.map (·.1),by simp[kd],fun z hz=>by obtain⟨q,hq,rfl⟩:=K7.mp hz;exact(hk q hq).ok⟩;simp only[Bg,List.mem_cons,List.not_mem_nil,or_false] at hv;rcases hv with rfl|rfl|rfl|rfl|rfl|rfl|rfl|rfl
 ·exact⟨kd ps,hm,kl,rfl,tx,oddC _ (by decide +kernel) rfl⟩
 ·exact⟨kd ps,hm,kl,rfl,tx,oddC _ rfl rfl⟩
 ·exact strC _ (by decide +kernel) (by decide +kernel)
 ·exact strC _ (by decide +kernel) (by decide +kernel)
 ·exact⟨kd ps,hm,kl,by decide +kernel,tx,oddC _ (by decide +kernel) rfl⟩
 ·exact strC _ (by decide +kernel) (by decide +kernel)
 ·exact⟨kd ps,hm,kl,rfl,tx,oddC _ rfl rfl⟩
 ·exact strC _ (by decide +kernel) (by decide +kernel)
theorem n8 {as st Q}(h:bQ as st Q):aD Γ cU (frame 9 as) st (ai st Q):=by
 obtain⟨p,e,ws,d,ps,rfl,hp,dp,hd,hN,he,k⟩:=h;have pl:=hp.lt;have wl:(sV ws).length<=4:=by simp[sV];exact hN.wl
 have pL:=hN.pl;have oe:∀ {s:AH}{n:Nat},OkA (fun i=>i≠p) s (n+1) (fr e):=fun _ _=>.fr he;have ow':∀ {s:AH}{n:Nat},∀v∈sV ws,OkA (fun i=>i≠p) s n v:=fun v hv _ _=>by obtain⟨z,hz,rfl⟩:=K7.mp hv;exact(hN.wn z hz).sok
 have ow:∀ {s:AH}{n:Nat},OkA (fun i=>i≠p) s (n+1) (.tup (sV ws)):=.tup (by omega) ow';have nk:∀q∈ps,q.1.length<=9/\PyData.strOk q.1=true:=fun q hq=>⟨K_ (hN.pn q hq).len (by decide),(hN.pn q hq).ok⟩;have od:∀ {s:AH},Gr st p s->OkA (fun i=>i≠p) s 5 (.ref d):=fun g=>.dk (g.get hd dp) dp (by omega) nk fun q hq _ _=>(hN.pt q hq).ok;have fin:∀ {s:AH}{w:PV},Gr st p s->OkA (fun i=>i≠p) s 6 w->Ret st Q w s:=fun g o=>.inl (k _ _ g o.ok);unfold cU;walk_at "WP";refine⟨p,12,rfl,hp,by decide,by decide,fun x s1 x0 x1 g1=>?_⟩;walk_at "WP";have n0:=g1.ne;have p1:=g1.pot.lt;have l1:=g1.len;have md:∀ {s:AH}{n:Nat}{v:PV},OkA (fun i=>s1.length<=i) s n v->OkA (fun i=>i≠p) s n v:=fun o=>o.mono fun i h=>by omega
 refine a7 (fun _=>⟨p,rfl,g1.pot,fun v s2 g2 o=>.inl (k _ _ (g1.trans g2) (o.ok.up (by decide)))⟩) fun _=>?_;refine a7 (fun _=>⟨p,rfl,g1.pot,fun v s2 g2 o=>sm (fun i h=>h) g2.pot (by simp) (iQ oe ow (od (g1.trans g2))) ((md o).up (by decide)) fun ys s3 g3 o=>fin ((g1.trans g2).trans g3) o⟩) fun _=>?_;have c1:=zy (L:=sV ws);refine a7 (fun _=>⟨by omega,fin g1 (.tup (by simp) (iQ oe (.tup (by rw[LJ];omega) fun y hy=>ow' y ((LC.mp hy).elim id jj)) (od g1)))⟩) fun _=>?_;refine a7 (fun _=>⟨by omega,p,3,rfl,g1.pot.app,by decide,by decide,fun y s2 y0 y1 g2=>?_⟩) fun _=>?_
 ·have c1:=g2.get (aW (j:=0) rfl) n0;have c2:=g2.get (aW (j:=1) rfl) (by omega);have G:=g1.app.trans g2;obtain ⟨v,ev,hv⟩:=mF (P:=OkA (fun i=>i≠p) s2 5) (L:=[PV.ref (List.length s1),PV.tup (sV ws).reverse,PV.tup (sV ws++[PV.str (Str.ofString "a")])]) (iQ (.lst c1 n0 (by omega) ow') (.tup (by rw [NJ];omega) fun y hy=>ow' y (List.mem_reverse.mp hy)) (.tup (by simp at wl |-;omega) fun y hy=>by
   rcases LC.mp hy with hy|hy
   ·exact ow' y hy
   ·rw[K4.mp hy];exact fun _ _=>iV (by decide +kernel))) y0 y1
  exact⟨_,av c2,v,ev,fin G (.tup (by simp) (iQ oe hv (od G)))⟩
 refine a7 (fun _=>⟨kd ps,br (g1.get hd dp),by simp;omega,p,4,rfl,g1.pot.app,by decide,by decide,fun y s2 y0 y1 g2=>?_⟩) fun _=>?_
 ·have c1:=g2.get (aW (j:=0) rfl) n0;have c2:=g2.get (aW (j:=1) rfl) (by omega);have c3:=g2.get (aW (j:=2) rfl) (by omega);have G:=g1.app.trans g2;have M:=iQ (P:=OkA (fun i=>i≠p) s2 5) oe ow (od G);obtain⟨v,ev,hv⟩:=mF (P:=OkA (fun i=>i≠p) s2 6) (L:=[PV.ref (List.length s1),PV.tup [fr e,PV.tup (sV ws),PV.ref d,PV.int 1],PV.tup (fE [fr e,PV.tup (sV ws),PV.ref d] none (some 2)),PV.tup [fr e,PV.tup (sV ws),PV.ref (List.length s1+1)]]) (CS (.lst c1 n0 (by simp) M) (.tup (by simp) (CS oe ow (od G) fun _ _=>iV rfl)) (.tup (K_ (wF _ _ _) (by simp)) fun y hy=>M y (jj hy)) (.tup (by simp) (iQ oe ow (.lst c2 (by omega) (by simp;omega) fun y hy=>by simp only[kd,List.map_map,List.mem_map] at hy;obtain⟨q,hq,rfl⟩:=hy;exact fun _ _=>.str (nk q hq).1 (nk q hq).2)))) y0 y1
  exact⟨_,av c3,v,ev,fin G hv⟩
 have K:∀ {s:AH},Gr st p s->s[s1.length]?=some (.dk (kd ps))->∀v∈Bg,sv s1.length v yD s fun s3=>Ret st Q (.tup [fr e,.tup (sV ws),.ref s1.length]) s3:=fun g hm v hv =>
  Dl hv hm n0 pL hN.pn hN.pt fun c o=>fin (g.setN l1) (.tup (by simp) (iQ oe ow o))
 refine⟨kd ps,g1.get hd dp,a7 (fun _=>?_) fun _=>?_⟩
 ·exact qS (aW (j:=1) rfl) g1.pot.app (by omega) (by decide) (by decide) fun v s2 hv g2=>K (g1.app.trans g2) (g2.get (aW (j:=0) rfl) n0) v hv
 have hd1:=g1.get hd dp;by_cases emp:ps=[]
 ·refine .inl ⟨.inr ⟨d,_,rfl,rfl,.inr ⟨d,_,kd ps,[],rfl,rfl,br hd1,aW (j:=1) rfl,by rw[emp];rfl,fun q hq=>by rw[emp] at hq;cases hq⟩⟩,?_⟩;exact qS (aW (j:=2) rfl) g1.pot.app (by omega) (by decide) (by decide) fun v s2 hv g2=>K (g1.app.trans g2) (g2.get (aW (j:=0) rfl) n0) v hv
 ·have pz:0<ps.length:=List.length_pos_iff.mpr emp;refine .inr ⟨⟨d,_,kd ps,[],rfl,rfl,br hd1,aW (j:=1) rfl,fun q hq=>?_,fun q hq=>(nomatch hq),.inl (by simp;omega)⟩,kd ps,.inl (br hd1),ps.map (·.1),by simp[kd],by simp;omega,fun ss' pe _=>?_⟩
  ·obtain⟨r,hr,rfl⟩:=K7.mp hq;exact(hN.pt r hr).dt
  have sl:=pe.length_eq;rw[LA] at sl;refine qS (aW (j:=2) rfl) g1.pot.app (by omega) (by rw[LA];omega) (by rw[LA];omega) fun v s2 hv g2=>?_;obtain⟨z,hz,rfl⟩:=K7.mp hv;obtain⟨q,hq,eq⟩:=CY (pe.mem_iff.mp hz);have G:=g1.app.trans g2;rw[Bd];refine⟨kd ps,q.2,.inl (g2.get (br hd1) dp),eq,p,q.2,rfl,g2.pot,hN.pt q hq,fun w s3 g3 o3=>?_⟩;have cm:=g3.get (g2.get (aW (j:=0) rfl) n0) n0;refine⟨kd ps,cm,by simp;omega,?_⟩;rw[uO];have l2:=g2.len;simp only[List.length_append,List.length_cons] at l2;obtain⟨r,hr,er⟩:=K7.mp (pe.mem_iff.mp hz);refine fin ((G.trans g3).setN l1) (.tup (by simp) (iQ oe ow (.dk (KR (ak cm)) n0 (K_ mO (by omega)) (fun u hu=>?_) fun u hu=>?_)))
  ·rcases gR hu with hu|rfl
   ·exact nk u hu
   ·rw[<-er];exact nk r hr
  ·rcases gR hu with hu|rfl
   ·exact fun _ _=>(hN.pt u hu).ok
   ·exact(o3.set (by omega)).mono fun i h=>by omega
open PySem L2 HX FW
structure Gd (w k:Nat)(d:PyData):Prop where
 sh:d.showable=true
 lv:d.leavesShort 13=true
 bk:d.bulk<=w
 dp:d.depth<=k
noncomputable def Wt:Nat->Nat
 | 0=>9
 | n+1=>6*(Wt n+11)
theorem zG:∀n,9<=Wt n
 | 0=>KJ _
 | n+1=>by have:=zG n;rw[Wt];omega
theorem Gd.up {w' k':Nat}(h:Gd w k d)(h1:w<=w')(h2:k<=k'):Gd w' k' d:=⟨h.sh,h.lv,K_ h.bk h1,K_ h.dp h2⟩
theorem Gd.non:Gd 9 0 .none:=⟨rfl,rfl,by decide,by decide⟩
theorem Gd.bl:Gd 9 0 (.bool b):=⟨rfl,rfl,by simp[PyData.bulk],by simp[PyData.depth]⟩
theorem Gd.int {i:Int}(h:i.natAbs<10 ^ 12):Gd 9 0 (.int i):=by
 refine⟨?_,?_,by simp[PyData.bulk],by simp[PyData.depth]⟩
 ·rw[PyData.showable];refine LF ?_;by_cases z:i.natAbs=0
  ·rw[z];decide
  ·rw[OL z];exact MX h (by decide +kernel)
 ·rw[PyData.leavesShort];exact LF (PyData.shown_int_le h)
theorem Gd.str {z:Str}(h:z.length<=9)(o:PyData.strOk z=true):Gd 9 0 (.str z):=by refine⟨by simp[PyData.showable],?_,by rw[PyData.bulk];exact h,by simp[PyData.depth]⟩;rw[PyData.leavesShort,ML];intro c hc;have:z.cps.all (fun c=>decide (c<0x110000))=true:=o;rw[Array.all_eq_true_iff_forall_mem] at this;have:=LL (this c (Array.mem_toList_iff.mp hc));exact LF (by omega)
theorem Gd.all:∀ {ds:List PyData},(∀d∈ds,Gd w k d)->PyData.showableAll ds=true/\PyData.leavesShortAll 13 ds=true/\PyData.bulkAll ds<=ds.length*(w+1)/\PyData.depthAll ds<=k
 | [],_=>⟨by rw[PyData.showableAll],by rw[PyData.leavesShortAll],by rw[PyData.bulkAll];exact LS _,by rw[PyData.depthAll];exact LS _⟩
 | d::ds,h=>by obtain⟨a,b,c,e⟩:=Gd.all fun x hx=>h x (KN _ hx);have g:=h d KP;have gb:=g.bk;have gd:=g.dp;refine⟨by rw[PyData.showableAll,g.sh,a];rfl,by rw[PyData.leavesShortAll,g.lv,b];rfl,?_,by rw[PyData.depthAll];omega⟩;rw[PyData.bulkAll,LZ,Nat.add_mul];omega
theorem Gd.kv:∀ {es ds:List PyData},(∀d∈es,Gd 9 k d)->(∀d∈ds,Gd w k d)->PyData.showableKv (es.zip ds)=true/\PyData.leavesShortKv 13 (es.zip ds)=true/\PyData.bulkKv (es.zip ds)<=es.length*(w+11)/\PyData.depthKv (es.zip ds)<=k
 | [],ds,_,_=>by rw[List.zip_nil_left];exact⟨by rw[PyData.showableKv],by rw[PyData.leavesShortKv],by rw[PyData.bulkKv];exact LS _,by rw[PyData.depthKv];exact LS _⟩
 | e::es,[],_,_=>by rw[List.zip_nil_right];exact⟨by rw[PyData.showableKv],by rw[PyData.leavesShortKv],by rw[PyData.bulkKv];exact LS _,by rw[PyData.depthKv];exact LS _⟩
 | x::es,d::ds,h1,h=>by obtain⟨a,b,c,e⟩:=Gd.kv (fun y hy=>h1 y (KN _ hy)) fun y hy=>h y (KN _ hy);have g:=h d KP;have g':=h1 x KP;have gb:=g.bk;have gd:=g.dp;have gb':=g'.bk;have gd':=g'.dp;rw[List.zip_cons_cons];refine⟨by rw[PyData.showableKv,g'.sh,g.sh,a];rfl,by rw[PyData.leavesShortKv,g'.lv,g.lv,b];rfl,?_,by rw[PyData.depthKv];omega⟩;rw[PyData.bulkKv,LZ,Nat.add_mul];omega
theorem Gd.tup {ds:List PyData}(l:ds.length<=6)(h:∀d∈ds,Gd w k d):Gd (6*(w+11)) (k+1) (.tuple ds):=by obtain⟨a,b,c,e⟩:=Gd.all h;have:=N3 (w+1) l;exact⟨by rw[PyData.showable,a],by rw[PyData.leavesShort,b],by rw[PyData.bulk];omega,by rw[PyData.depth];omega⟩
theorem Gd.lst {ds:List PyData}(l:ds.length<=6)(h:∀d∈ds,Gd w k d):Gd (6*(w+11)) (k+1) (.list ds):=by obtain⟨a,b,c,e⟩:=Gd.all h;have:=N3 (w+1) l;exact⟨by rw[PyData.showable,a],by rw[PyData.leavesShort,b],by rw[PyData.bulk];omega,by rw[PyData.depth];omega⟩
theorem Gd.dct {es ds:List PyData}(l:es.length<=6)(h1:∀d∈es,Gd 9 k d)(h:∀d∈ds,Gd w k d):Gd (6*(w+11)) (k+1) (.dict (es.zip ds)):=by obtain⟨a,b,c,e⟩:=Gd.kv h1 h;have:=N3 (w+11) l;exact⟨by rw[PyData.showable,a],by rw[PyData.leavesShort,b],by rw[PyData.bulk];omega,by rw[PyData.depth];omega⟩
theorem kg {α:Type}{n:Nat}{f:AH->Nat->α->Option PyData}{G:PyData->Prop}:∀ {xs:List α},(∀x∈xs,∃d,(∀s m,Pre st s->n<=m->f s m x=some d)/\G d)->∃ds,(∀s m,Pre st s->n<=m->dw (xs.map (f s m))=some ds)/\ds.length=xs.length/\∀d∈ds,G d
 | [],_=>⟨[],fun _ _ _ _=>rfl,rfl,fun d hd=>nomatch hd⟩
 | x::xs,h=>by
  obtain⟨d,hd,g⟩:=h x KP;obtain⟨ds,hs,l,G'⟩:=kg fun y hy=>h y (KN _ hy);refine⟨d::ds,fun s m p q=>?_,by rw[LZ,l,LZ],fun y hy=>?_⟩
  ·rw[KO,hd s m p q,dw,hs s m p q];rfl
  ·rcases K8.mp hy with rfl|hy
   ·exact g
   ·exact G' y hy
theorem Dh (h:ky v=true)(k:Nat):∃d,(∀(s:AH) (m:Nat),1<=m->shX s m v=some d)/\Gd 9 (k+1) d:=by
 unfold ky at h;split at h
 ·rename_i z;have h:=(KM _ _).mp h;exact⟨.str z,fun s m _=>by rw[shX],(Gd.str (LL h.1) h.2).up (KJ _) (LS _)⟩
 ·exact⟨.int _,fun s m _=>by rw[shX],(Gd.int (LL h)).up (KJ _) (LS _)⟩
 ·exact⟨.none,fun s m _=>by rw[shX],Gd.non.up (KJ _) (LS _)⟩
 ·exact⟨.bool _,fun s m _=>by rw[shX],Gd.bl.up (KJ _) (LS _)⟩
 ·rename_i z;have h:=(KM _ _).mp h;have zl:=LL h.1;have g:=Gd.str (z:=z) (by omega) h.2;refine⟨.tuple [.str z],fun s m hm=>?_,⟨by rw[PyData.showable,PyData.showableAll,g.sh];rfl,by rw[PyData.leavesShort,PyData.leavesShortAll,g.lv];rfl,?_,by simp[PyData.depth,PyData.depthAll]⟩⟩
  ·obtain⟨m,rfl⟩:∃j,m=j+1:=⟨m-1,by omega⟩;rw[shX,KO,shX];rfl
  ·have:z.cps.size<=1:=zl;simp only[PyData.bulk,PyData.bulkAll];omega
 ·cases h
theorem Ok.show (o:Ok st n v):∃d,(∀s m,Pre st s->n+1<=m->shX s m v=some d)/\Gd (Wt n) (n+1) d:=by
 induction o with
 | non n=>exact⟨.none,fun s m _ _=>by rw[shX],Gd.non.up (zG n) (LS _)⟩
 | bl n b=>exact⟨.bool b,fun s m _ _=>by rw[shX],Gd.bl.up (zG n) (LS _)⟩
 | int h=>exact⟨.int _,fun s m _ _=>by rw[shX],(Gd.int h).up (zG _) (LS _)⟩
 | str h o=>exact⟨.str _,fun s m _ _=>by rw[shX],(Gd.str h o).up (zG _) (LS _)⟩
 | tup l _ ih =>obtain⟨ds,h1,h2,h3⟩:=kg (f:=fun s m x=>shX s m x) ih;refine⟨.tuple ds,fun s m p hm=>?_,Gd.tup (by omega) h3⟩;obtain⟨m,rfl⟩:∃j,m=j+1:=⟨m-1,by omega⟩;rw[shX,h1 s m p (by omega)];rfl
 | lst e l _ ih =>obtain⟨ds,h1,h2,h3⟩:=kg (f:=fun s m x=>shX s m x) ih;refine⟨.list ds,fun s m p hm=>?_,Gd.lst (by omega) h3⟩;obtain⟨m,rfl⟩:∃j,m=j+1:=⟨m-1,by omega⟩;rw[shX,p.get e];dsimp only;rw[h1 s m p (by omega)];rfl
 | dk e l hk _ ih =>
  rename_i n k ps _;obtain⟨ds,h1,h2,h3⟩:=kg (f:=fun s m (kv:Key × PV)=>shX s m kv.2) (xs:=kd ps) fun x hx=>by obtain⟨q,hq,rfl⟩:=K7.mp hx;exact ih q hq
  refine⟨.dict (((kd ps).map fun kv=>kD kv.1).zip ds),fun s m p hm=>?_,Gd.dct (by simp;omega) (fun x hx=>?_) h3⟩
  ·obtain⟨m,rfl⟩:∃j,m=j+1:=⟨m-1,by omega⟩;rw[shX,p.get e];dsimp only;rw[h1 s m p (by omega)];rfl
  ·simp only[kd,List.map_map,List.mem_map] at hx;obtain⟨q,hq,rfl⟩:=hx;exact(Gd.str (hk q hq).1 (hk q hq).2).up (KJ _) (LS _)
 | od e l hk _ b ih =>
  rename_i n k kvs _;obtain⟨ds,h1,h2,h3⟩:=kg (f:=fun s m (kv:PV × PV)=>shX s m kv.2) ih;obtain⟨es,k1,k2,k3⟩:=kg (st:=st) (n:=n+1) (f:=fun s m (kv:PV × PV)=>shX s m kv.1) (G:=Gd 9 (n+1)) (xs:=kvs) fun x hx=>by obtain⟨d,h1,h2⟩:=Dh (hk x hx) n;exact⟨d,fun s m _ hm=>h1 s m (by omega),h2⟩
  refine⟨.dict (es.zip ds),fun s m p hm=>?_,Gd.dct (by omega) k3 h3⟩;obtain⟨m,rfl⟩:∃j,m=j+1:=⟨m-1,by omega⟩;rw[shX,p.get e];dsimp only;rw[k1 s m p (by omega)];dsimp only;rw[h1 s m p (by omega)];rfl
theorem Ok.repr (o:Ok st 6 v):∃z:Str,∀(s:AH) (Q:EK),Pre st s->Q (.str z) s->k9 s Q v:=by
 obtain⟨d,h,g⟩:=o.show;have fit:d.showable=true/\d.depth<=60/\d.shown.length<=sizeLine:=⟨g.sh,K_ g.dp (by decide),PyData.shown_fits_bulk (B:=13) (by decide) (by decide) g.lv (K_ g.bk (by decide +kernel))⟩;cases v with
 | non=>exact⟨_,fun s Q _ q=>q⟩
 | bl b=>exact⟨_,fun s Q _ q=>q⟩
 | int i =>have:=h st 9 Pre.refl (by decide);rw[shX] at this;cases this;exact⟨_,fun s Q _ q=>⟨by have:=g.sh;rw[PyData.showable] at this;exact LL this,q⟩⟩
 | str z =>have:=h st 9 Pre.refl (by decide);rw[shX] at this;cases this;exact⟨_,fun s Q _ q=>⟨fit.2.2,q⟩⟩
 | tup xs=>exact⟨_,fun s Q p q=>⟨d,h s 9 p (by decide),fit,q⟩⟩
 | ref k=>exact⟨_,fun s Q p q=>⟨d,h s 9 p (by decide),fit,q⟩⟩
 | rdl xs=>cases o
 | fn k=>cases o
theorem yJ (o:Ok st 5 d)(h:Pre st s):bf s d=bf st d:=by
 cases o with
 | lst e l _=>simp only[bf,h.get e,e]
 | dk e l hk _=>simp only[bf,h.get e,e]
 | od e l hk _ b=>simp only[bf,h.get e,e]
 | _=>rfl
theorem Dc (o:Ok st 6 v)(h:Pre st s):qW s v=qW st v:=by
 cases v with
 | tup xs =>
  by_cases hl:xs.length=3
  ·obtain⟨a,b,c,rfl⟩:=eE hl;rw[A3,A3,yJ o.three.2.2 h]
  ·rw[gO hl,gO hl]
 | _=>rfl
theorem Ok.text (o:Ok st n (.str z)):PyData.strOk z=true:=by
 cases o with
 | str h o=>exact o
structure NetE (st:AH)(ws:List Str)(d:Nat)(ps:List (Str × PV)):Prop where
 hd:st[d]?=some (.dk (kd ps))
 wl:ws.length<=6
 pl:ps.length<=6
 pt:∀p∈ps,∃a b r,p.2=.tup [.str a,.str b,r]
 ok:∀z∈plL ws ps,PyData.strOk z=true
theorem Be (o:Ok st 6 v)(h:qW st v=true):∃e ws d ps,v=.tup [e,.tup (sV ws),.ref d]/\NetE st ws d ps:=by
 cases v with
 | tup xs =>
  by_cases hl:xs.length=3
  ·obtain⟨e,w,d,rfl⟩:=eE hl;rw[A3,KM,KM] at h;obtain⟨⟨_,hw⟩,hi⟩:=h;obtain⟨_,ow,od⟩:=o.three;cases w with
   | tup ws =>
    obtain⟨ws,rfl⟩:=fb ((KM _ _).mp hw).1;cases ow with
    | tup wl hw =>
    cases od with
    | lst e l _=>simp only[bf,e] at hi;cases hi
    | dk e' l hk ht =>
     rename_i k ps;simp only[bf,e',List.all_eq_true] at hi;have tie:∀p∈ps,∃a b r,p.2=.tup [.str a,.str b,r]/\PyData.strOk a=true/\PyData.strOk b=true:=fun p hp=>by
      have h1:=hi (.str p.1,p.2) (K7.mpr ⟨(Sum.inr p.1,p.2),K7.mpr ⟨p,hp,rfl⟩,rfl⟩);have h2:=((KM _ _).mp h1).2;have h3:=ht p hp;generalize hv:p.2=v at h2 h3;cases v with
      | tup xs =>
       by_cases h5:xs.length=3
       ·obtain⟨a,b,r,rfl⟩:=eE h5;rw[Ge] at h2;simp only[Bool.and_eq_true] at h2;obtain⟨za,rfl⟩:=dC h2.1.1.1.1;obtain⟨zb,rfl⟩:=dC h2.1.1.1.2;exact⟨za,zb,r,rfl,h3.three.1.text,h3.three.2.1.text⟩
       ·rw[nM h5] at h2;cases h2
      | _=>cases h2
     refine⟨e,ws,k,ps,rfl,e',by simpa[sV] using wl,l,fun p hp=>by obtain⟨a,b,r,h,_⟩:=tie p hp;exact⟨a,b,r,h⟩,fun z hz=>?_⟩;rcases LC.mp hz with hz|hz
     ·exact(hw (.str z) (K7.mpr ⟨z,hz,rfl⟩)).text
     ·obtain⟨l,hl,hz⟩:=List.mem_flatten.mp hz;obtain⟨p,hp,rfl⟩:=K7.mp hl;obtain⟨a,b,r,e,oa,ob⟩:=tie p hp;rw[e] at hz;simp only[yT,List.mem_cons,List.not_mem_nil,or_false] at hz;rcases hz with rfl|rfl
      ·exact oa
      ·exact ob
    | od e' l hk ht b =>simp only[bf,e',List.all_eq_true] at hi;obtain⟨p,hp,np⟩:=b;have:=hi p hp;rw[np] at this;cases this
    | _=>cases hi
   | _=>cases hw
  ·rw[gO hl] at h;cases h
 | _=>cases h
theorem HM:k9 st Q (.bl b)=Q (.str (if b then "True" else "False")) st:=rfl
theorem D4 {s:AH}{d:Nat}(hd:s[d]?=some (.dk (kd ps)))(hN:DP ws ps)(he:Fz e):Ok s 6 (.tup [fr e,.tup (sV ws),.ref d]):=by have:=hN.wl;have:=hN.pl;exact .tup (by simp) (iQ (.fr he) (.tup (by simp[sV];omega) fun v hv=>by obtain⟨z,hz,rfl⟩:=K7.mp hv;exact(hN.wn z hz).sok) (.dk hd (by omega) (fun q hq=>⟨K_ (hN.pn q hq).len (by decide),(hN.pn q hq).ok⟩) fun q hq=>(hN.pt q hq).ok))
theorem NetE.pre (h:NetE st ws d ps)(g:Pre st s):NetE s ws d ps:=⟨g.get h.hd,h.wl,h.pl,h.pt,h.ok⟩
theorem NetE.pla {e:PV}{Q:EK}(h:NetE s ws d ps)(k:∀ss n s',SrtOf ss (plL ws ps)->(∀z∈ss,PyData.strOk z=true)->ss.length<=18->Pre s s'->s.length<=n->s'[n]?=some (.lst (sV ss))->Q (.ref n) s'):aX [.tup [e,.tup (sV ws),.ref d]] s Q :=
 ⟨e,ws,d,ps,rfl,h.hd,h.wl,h.pl,h.pt,fun ss n s' so l p nl en=>k ss n s' so (fun z hz=>h.ok z ((so.mem z).mp hz)) l p nl en⟩
theorem Pre.setN {n:Nat}(h:Pre st s)(hn:st.length<=n):Pre st (s.set n c):=fun i hi=>by rw[KU (by omega)];exact h i hi
theorem w5 {α:Type}[DecidableEq α]{x:α}{A B:Prop}(h:B):if decide (x=x)=false then A else B:=by rw[KW (by simp)];exact h
theorem Jc {A B:AH->Prop}(h:B s):k9 s (fun x st1=>k9 st1 (fun y st2=>eqW st2 x y fun k=>if k=false then A st2 else B st2) (.bl b)) (.bl b):=by rw[HM,HM,xE];exact w5 h
theorem Jv {as st Q}(h:iD as st Q):aD Γ nC (frame 7 as) st (ai st Q):=by
 obtain⟨ns,rfl,hl,k⟩:=h;unfold nC;walk_at "WP";rw[LA];obtain⟨N,hN,hN6⟩:∃N:Nat,(if 1<if 10<(ns.length:Int) then 10 else (ns.length:Int) then if 10<(ns.length:Int) then 10 else (ns.length:Int) else 1)=(N:Int)/\N<=10:=by refine⟨(if 1<if 10<(ns.length:Int) then 10 else (ns.length:Int) then if 10<(ns.length:Int) then 10 else (ns.length:Int) else 1).toNat,?_,?_⟩ <;> (repeat' split) <;> omega
 rw[hN];refine⟨by omega,by omega,?_⟩;refine iU Γm (fun i ρ s=>∃a b c d e f,ρ=[some (.rdl (ns.map PV.int)),a,b,c,d,e,f]) ⟨_,_,_,_,_,_,rfl⟩ ?_ ?_
 ·rintro i v ρ s hi ⟨a,b,c,d,e,f,rfl⟩;obtain⟨rfl,hi⟩:=iT hi;refine⟨trivial,?_⟩;refine bA (fun ρ s=>∃p,Pot s p/\ρ=[some (.rdl (ns.map PV.int)),some (.int i),some (.ref p),c,d,e,f]) ?_ ?_
  ·walk_at "WPN";exact⟨ns,i,rfl,hl,by omega,fun q r z=>⟨_,⟨q,r,aw,z⟩,rfl⟩⟩
  rintro _ s ⟨p,hp,rfl⟩;refine bA (fun ρ s=>∃(x:Nat × Nat) (ws:List Str) (dd:Nat) (ps:List (Str × PV)),Pot s p/\dd≠p/\s[dd]?=some (.dk (kd ps))/\DP ws ps/\Fz x/\ρ=[some (.rdl (ns.map PV.int)),some (.int i),some (.ref p),some (.tup [fr x,.tup (sV ws),.ref dd]),d,e,f]) ?_ ?_
  ·walk_at "WPN";exact⟨p,rfl,hp,fun x ws dd ps s' g h1 h2 h3 h4=>⟨g.pot,x,ws,dd,by have:=hp.lt;omega,ps,h2,h3,h4,rfl⟩⟩
  rintro _ s ⟨x,ws,dd,ps,hp,ne,hd,hN,hx,rfl⟩;refine bA (fun ρ s=>∃v,Ok s 6 v/\ρ=[some (.rdl (ns.map PV.int)),some (.int i),some (.ref p),some v,d,e,f]) ?_ ?_
  ·walk_at "WPN";refine⟨p,2,rfl,hp,by decide,by decide,fun y s1 _ _ g1=>?_⟩;walk_at "WPN";refine a7 (fun _=>?_) fun _=>⟨_,D4 (g1.get hd ne) hN hx,rfl⟩;exact⟨p,x,ws,dd,ps,rfl,g1.pot,ne,g1.get hd ne,hN,hx,fun w s2 g2 o=>⟨w,o,rfl⟩⟩
  rintro _ s ⟨v,o,rfl⟩;generalize some (PV.ref p)=p;obtain⟨z,hz⟩:=o.repr;obtain⟨due,hdue⟩:∃b,b=qW s v:=⟨_,rfl⟩;refine bA (fun ρ s'=>s=s'/\ρ=[some (.rdl (ns.map PV.int)),some (.int i),p,some v,some (.bl due),e,f]) ?_ ?_
  ·walk_at "WPN";exact⟨v,rfl,o,by rw[hdue];exact⟨rfl,rfl⟩⟩
  rintro _ _ ⟨rfl,rfl⟩;refine bA (fun ρ s'=>s=s'/\ρ=[some (.rdl (ns.map PV.int)),some (.int i),p,some v,some (.bl due),some (.str z),f]) ?_ ?_
  ·walk_at "WPN";exact hz _ _ Pre.refl ⟨rfl,rfl⟩
  rintro _ _ ⟨rfl,rfl⟩;refine bA (fun ρ s'=>s=s'/\ρ=[some (.rdl (ns.map PV.int)),some (.int i),p,some v,some (.bl due),some (.str z),f]) ?_ ?_
  ·walk_at "WPN";refine⟨v,rfl,o,?_⟩;rw[<-hdue];exact Jc rfl
  rintro _ _ ⟨rfl,rfl⟩;refine bA (fun ρ s'=>Pre s s'/\∃f,ρ=[some (.rdl (ns.map PV.int)),some (.int i),p,some v,some (.bl due),some (.str z),f]) ?_ ?_
  ·cases due with
   | false =>walk_at "WPN";exact Pre.refl
   | true =>obtain⟨x,ws,d,ps,rfl,hE⟩:=Be o hdue.symm;walk_at "WPN";refine hE.pla fun ss n s1 so ok l p1 nl en=>⟨"list",by simp only [bc,en],?_⟩;rw[KW (by decide)];refine(hE.pre p1).pla fun tt m s2 so2 ok2 l2 p2 ml em=>?_;have et:=so2.uniq so;subst et;refine mG (p2.get en) em ok ok2 (w5 ?_);refine⟨⟨_,ax (p2.get en)⟩,_,p2.get en,by rw[LA];omega,?_⟩;have P3:=(p1.trans p2).setN (c:=Cell.lst (sV tt++[PV.str (Str.ofString "zz")])) nl;refine(hE.pre P3).pla fun ss n s3 so ok l p3 nl en=>?_;refine(hE.pre (P3.trans p3)).pla fun tt m s4 so2 ok2 l2 p4 ml em=>?_;have et:=so2.uniq so;subst et;exact mG (p4.get en) em ok ok2 (w5 ((P3.trans p3).trans p4))
  rintro _ s' ⟨hs,f',rfl⟩;walk_at "WP";refine hz s' _ hs ?_;show eqW _ _ _ _;rw[xE];refine w5 ⟨v,rfl,o.pre hs,?_⟩;rw[Dc o hs,<-hdue];exact Jc trivial
 ·rintro ρ s ⟨a,b,c,d,e,f,rfl⟩;refine⟨trivial,?_⟩;walk_at "WP";exact .inl (k _)
local macro_rules | `(tactic| walk_at "AR")=>`(tactic| first|exact fun _ _ _ _ _ _ us hl=>ar1 (P:=fun us=>bindArgs _ { pos:=us }=pure (List.zip _ us)) (fun _=>rfl) us hl|exact fun _ _ _ _ _ _ us hl=>ar2 (P:=fun us=>bindArgs _ { pos:=us }=pure (List.zip _ us)) (fun _ _=>rfl) us hl|exact fun _ _ _ _ _ _ us hl=>ar3 (P:=fun us=>bindArgs _ { pos:=us }=pure (List.zip _ us)) (fun _ _ _=>rfl) us hl|exact fun _ _ _ _ _ _ us hl=>ar4 (P:=fun us=>bindArgs _ { pos:=us }=pure (List.zip _ us)) (fun _ _ _ _=>rfl) us hl|exact fun _ _ _ _ _ _ us hl=>ar5 (P:=fun us=>bindArgs _ { pos:=us }=pure (List.zip _ us)) (fun _ _ _ _ _=>rfl) us hl)
abbrev zn (K:W.Frag)(n:Str):Prop:=W.nsIn K mainGlobals n=some none
theorem all_mk {l:W.OpenLaw}{K:W.Frag}(X:K.In h)(G:h.Ns mainGlobals mg)(hfa:mg "law"=some (.ref fa))(sy:K.lookup sysModules=none)(d0:DI K "is_whole" fK)(d1:DI K "common_divisor" b8)(d2:DI K "is_fraction" c8)(d3:DI K "is_below" fR)(d4:DI K "is_ride" gW)(d5:DI K "is_rides" fZ)(d6:DI K "is_name" gU)(d7:DI K "is_names" gc)(d8:DI K "is_tie" jm)(d9:DI K "is_net" jf)(d10:DI K "places_of" eR)(d11:DI K "_law_at" g_)(d12:DI K "_law_pot" f7)(d13:DI K "_law_take" eX)(d14:DI K "_law_drawn" dS)(d15:DI K "_law_name" eP)(d16:DI K "_law_low" gf)(d17:DI K "_law_under" dQ)(d18:DI K "_law_ride" eY)(d19:DI K "_law_chain" dN)(d20:DI K "_law_rides" dR)(d21:DI K "_law_end" fT)(d22:DI K "_law_net" gk)(d23:DI K "_law_is_moment" bZ)(d24:DI K "_law_is_ride" cI)(d25:DI K "_law_is_name" cH)(d26:DI K "_law_is_tie" dh)(d27:DI K "_law_is_net" de)(d28:DI K "_law_odd" gj)(d29:DI K "_law_put" fU)(d30:DI K "_law_spoilt_rides" bt)(d31:DI K "_law_spoilt_tie" bM)(d32:DI K "_law_spoilt" c6)(d33:DI K "_law_places" c9)(d34:DI K "law" kI)(z0:zn K "isinstance")(z1:zn K "bool")(z2:zn K "int")(z3:zn K "len")(z4:zn K "tuple")(z5:zn K "all")(z6:zn K "str")(z7:zn K "zip")(z8:zn K "any")(z9:zn K "dict")(z10:zn K "sorted")(z11:zn K "set")(z12:zn K "list")(z13:zn K "max")(z14:zn K "divmod")(z15:zn K "range")(z16:zn K "min")(z17:zn K "repr")(tz0:zn K "coming")(tz1:zn K "latest")(tz2:zn K "through")(ga0_:W.nsIn K mainGlobals "LETTERS"=some (some (.str "abcdefghijklmnopqrstuvwxyz" tg0)))(ga1_:W.nsIn K mainGlobals "MOST_LETTERS"=some (some (.int 8 tg1)))
  : ∃fd:FuncData,(∀(s:Shared) (v:Value),BindsTo s fd ⟨[v],[]⟩ [("_law_script",v)])/\Dw K/\(∀x∈bg,W.tabIn K x=none\/∃d,(PyProof.Rows.recsOf q).find? (fun e=>e.name == x)=some d)/\∀base:Heap,K.In base->base.Ns mainGlobals mg->lX K mg base->oo l.prog w K mg base CX0 35 fa fd ["_law_script"] (eC K iD):=by
 obtain⟨f,oc,od,kV,dc,pm,an,cd,ct,sl,aL,lL,cL,kL⟩:=d34;have e:=hfa.symm.trans (W.mg_of X G aL);cases e;have hb:∀x∈Gs,mg x=none:=by
  intro x hx;simp only[Gs,List.mem_cons,List.not_mem_nil,or_false] at hx;rcases hx with rfl|rfl|rfl|rfl|rfl|rfl|rfl|rfl|rfl|rfl|rfl|rfl|rfl|rfl|rfl|rfl|rfl|rfl
  ·exact L1 X G z0
  ·exact L1 X G z1
  ·exact L1 X G z2
  ·exact L1 X G z3
  ·exact L1 X G z4
  ·exact L1 X G z5
  ·exact L1 X G z6
  ·exact L1 X G z7
  ·exact L1 X G z8
  ·exact L1 X G z9
  ·exact L1 X G z10
  ·exact L1 X G z11
  ·exact L1 X G z12
  ·exact L1 X G z13
  ·exact L1 X G z14
  ·exact L1 X G z15
  ·exact L1 X G z16
  ·exact L1 X G z17
 have hgl:∀x v,glL.lookup x=some v->∃u y,mg x=some u/\RelV y u/\∀m H,R K m H v y:=by
  intro x v hx;by_cases q0:x=("LETTERS":Str)
  ·subst q0;have e:v=fL:=by have:glL.lookup ("LETTERS":Str)=some fL:=rfl;rw[this] at hx;cases hx;rfl
   subst e;exact ⟨_,.str "abcdefghijklmnopqrstuvwxyz",W.mg_of X G ga0_,⟨tg0,rfl⟩,fun m H=>R_str.mpr rfl⟩
  by_cases q1:x=("MOST_LETTERS":Str)
  ·subst q1;have e:v=cu:=by have:glL.lookup ("MOST_LETTERS":Str)=some cu:=rfl;rw[this] at hx;cases hx;rfl
   subst e;exact⟨_,.int 8,W.mg_of X G ga1_,⟨tg1,rfl⟩,fun m H=>R_int.mpr rfl⟩
  exact absurd hx (by simp only[glL,List.lookup_cons,List.lookup_nil];simp only[beq_eq_false_iff_ne.mpr q0,beq_eq_false_iff_ne.mpr q1];exact fun z=>nomatch z)
 have t_coming:=vO tz0;have t_latest:=vO tz1;have t_through:=vO tz2;refine ⟨W.fnOf "law" "law" (c_ kI) (ah kI) (af kI) .none kV dc pm an cd ct,fun s v=>.of_eq rfl,?lk,?lq,fun base _ _ B=>?_⟩
 case lk =>
  refine DN sy fun x hx=>?_;simp only[bg,List.mem_cons,List.not_mem_nil,or_false] at hx;rcases hx with rfl|rfl|rfl
  ·exact .inl t_coming
  ·exact .inl t_latest
  ·exact .inl t_through
 case lq =>
  intro x hx;simp only[bg,List.mem_cons,List.not_mem_nil,or_false] at hx;rcases hx with rfl|rfl|rfl
  ·exact .inl t_coming
  ·exact .inl t_latest
  ·exact .inl t_through
 have G0:GOk l.prog w K mg base mX Γ:=⟨fun f x hf=>absurd hf (MW _),hb,hgl,Γm⟩;have G1:GOk l.prog w K mg base fH Γ:=G0.nx X G d0 sX vM qC uN (by walk_at "AR");have G2:GOk l.prog w K mg base iC Γ:=G1.nx X G d1 ji kh i6 kA (by walk_at "AR");have G3:GOk l.prog w K mg base ny Γ:=G2.nx X G d2 nj oi lN oE (by walk_at "AR");have G4:GOk l.prog w K mg base pH Γ:=G3.nx X G d3 uA uZ jF uS (by walk_at "AR");have G5:GOk l.prog w K mg base l_ Γ:=G4.nx X G d4 uM yI kX yV (by walk_at "AR");have G6:GOk l.prog w K mg base oZ Γ:=G5.nx X G d5 tL vA qv vi (by walk_at "AR");have G7:GOk l.prog w K mg base m9 Γ:=G6.nx X G d6 uY xY k6 yU (by walk_at "AR");have G8:GOk l.prog w K mg base ud Γ:=G7.nx X G d7 tq u5 qV vy (by walk_at "AR");have G9:GOk l.prog w K mg base sZ Γ:=G8.nx X G d8 yn BY va B4 (by walk_at "AR");have G10:GOk l.prog w K mg base kN Γ:=G9.nx X G d9 yf Cn mQ BS (by walk_at "AR");have G11:GOk l.prog w K mg base pO Γ:=G10.nx X G d10 qB su iL uv (by walk_at "AR");have G12:GOk l.prog w K mg base mD Γ:=G11.nx X G d11 vd yj sx yg (by walk_at "AR");have G13:GOk l.prog w K mg base k_ Γ:=G12.nx X G d12 uh vb qw vG (by walk_at "AR");have G14:GOk l.prog w K mg base ju Γ:=G13.nx X G d13 qR sL om ui (by walk_at "AR");have G15:GOk l.prog w K mg base lr Γ:=G14.nx X G d14 nV rJ my qJ (by walk_at "AR");have G16:GOk l.prog w K mg base mf Γ:=G15.nx X G d15 qx sU ot tG (by walk_at "AR");have G17:GOk l.prog w K mg base jD Γ:=G16.nx X G d16 tJ vI qi uV (by walk_at "AR");have G18:GOk l.prog w K mg base k8 Γ:=G17.nx X G d17 nS qA mT qD (by walk_at "AR");have G19:GOk l.prog w K mg base jz Γ:=G18.nx X G d18 qP sY og tV (by walk_at "AR");have G20:GOk l.prog w K mg base jt Γ:=G19.nx X G d19 n_ rT mP qK (by walk_at "AR");have G21:GOk l.prog w K mg base mN Γ:=G20.nx X G d20 ox qy lZ ql (by walk_at "AR");have G22:GOk l.prog w K mg base mU Γ:=G21.nx X G d21 sE uW rE vW (by walk_at "AR");have G23:GOk l.prog w K mg base fv Γ:=G22.nx X G d22 uB uJ rD vV (by walk_at "AR");have G24:GOk l.prog w K mg base gS Γ:=G23.nx X G d23 jk kC i7 j_ (by walk_at "AR");have G25:GOk l.prog w K mg base gF Γ:=G24.nx X G d24 lF mI j6 nN (by walk_at "AR");have G26:GOk l.prog w K mg base iM Γ:=G25.nx X G d25 lu mR ku mH (by walk_at "AR");have G27:GOk l.prog w K mg base iG Γ:=G26.nx X G d26 ma oK lP n9 (by walk_at "AR");have G28:GOk l.prog w K mg base mV Γ:=G27.nx X G d27 nL nX lD oC (by walk_at "AR");have G29:GOk l.prog w K mg base m5 Γ:=G28.nx X G d28 sf v5 rK u4 (by walk_at "AR");have G30:GOk l.prog w K mg base dM Γ:=G29.nx X G d29 tK vj qf vL (by walk_at "AR");have G31:GOk l.prog w K mg base eS Γ:=G30.nx X G d30 gP iy gA iz (by walk_at "AR");have G32:GOk l.prog w K mg base iP Γ:=G31.nx X G d31 iW jy iw jv (by walk_at "AR");have G33:GOk l.prog w K mg base iO Γ:=G32.nx X G d32 mJ oJ lB n8 (by walk_at "AR");have G34:GOk l.prog w K mg base Fl Γ:=G33.nx X G d33 nP ou lK oF (by walk_at "AR");exact DT (qual:="law") (Br (st:=kI) lL cL kL) GX rfl rfl Jl G34 (fun as st Q=>D6) (fun as st Q=>Jv)
end My
namespace PySem.W.Fast
def tw8147034771128550000:=Nat
def tw4616170124495579876:=Nat
def tw10857418908864960865:=Nat
def tw16092659758566681116:=Nat
def tw11543498388904332518:=Nat
def tw1236701648968072581:=Nat
def tw15245595860736231544:=Nat
def tw6333106006735177463:=Nat
def tw8363189392782702901:=Nat
def tw10298388410357447287:=Nat
def tw17086371305880978278:=Nat
def tw8663361386182977730:=Nat
def tw2693141012914083983:=Nat
def tw8065028675861681374:=Nat
def tw15721059905616813388:=Nat
def tw475439713332785884:=Nat
def tw5402462657951500414:=Nat
def tw7028578595873980332:=Nat
def tw5447149593289418923:=Nat
def tw6325048394546742603:=Nat
def tw7269953340442708538:=Nat
def tw9517390104708159016:=Nat
def tw14213101398184212795:=Nat
def tw13366468229297073580:=Nat
def tw9623098622300821269:=Nat
def tw3630433051088825058:=Nat
def tw971451071652486980:=Nat
def tw17062996880991371758:=Nat
def tw12075646763238205441:=Nat
def tw2314768998812295877:=Nat
def tw15554958261188073815:=Nat
def tw18289420776044241709:=Nat
def tw14695582633103396308:=Nat
def tw6869418210020306329:=Nat
def tw3885615959700094791:=Nat
def tw897931785915529574:=Nat
def tw724335004637569516:=Nat
def tw2427374884287159618:=Nat
def tw3861906042340580800:=Nat
def tw9121049795041488017:=Nat
def tw17520642310226462977:=Nat
def tw4603645624247423563:=Nat
def tw1562518413128978602:=Nat
def tw7844284549236897999:=Nat
def tw4911695167565119736:=Nat
def tw16029156261294755202:=Nat
def tw9424079571103479119:=Nat
def tw11630363504138088014:=Nat
def tw10067250203244329965:=Nat
def tw6630363053229950668:=Nat
def tw805859635681328051:=Nat
def tw2806410615793264208:=Nat
def tw5176470213220904063:=Nat
def tw18101300853467968684:=Nat
def tw2336373081693326104:=Nat
def tw13906783310207611482:=Nat
def tw6782352373009447473:=Nat
def tw4989799062765133037:=Nat
def tw8659168367555859237:=Nat
def tw7813936021662049655:=Nat
def tw8658430464881646382:=Nat
def tw5842434440193272893:=Nat
def tw5764289194533352497:=Nat
def tw2508331199392725239:=Nat
def tw16812482193624825808:=Nat
def tw7938548987600142796:=Nat
def tw8250718538135150641:=Nat
def tw8311040912699306253:=Nat
def tw15818687210607271607:=Nat
def tw7884135843472365117:=Nat
def tw15727229984733012692:=Nat
def tw18442212416368340356:=Nat
def tw10882387518878112268:=Nat
def tw17032139634235542477:=Nat
def tw951507908278744464:=Nat
def tw74419638889769185:=Nat
def tw10058808407794458898:=Nat
def tw1541559447103158338:=Nat
def tw70736217656787240:=Nat
def tw433853128667740099:=Nat
def tw3554423772461639220:=Nat
def tw124727625761143956:=Nat
def tw5765123417739240497:=Nat
def tw16538344177844522277:=Nat
def tw1542010478712513785:=Nat
def tw10603100447118130950:=Nat
def tw12507889500769392039:=Nat
def tw8617382536050410612:=Nat
def tw8241663890053935404:=Nat
def tw7642092094626874535:=Nat
def tw750201582056442188:=Nat
def tw7405040226155721141:=Nat
def tw7319895078641628894:=Nat
def tw6903868147152229447:=Nat
def tw6748730836419021932:=Nat
def tw5420720441847462493:=Nat
def tw4890114174612243742:=Nat
def tw3428624839913693013:=Nat
def tw2739204040053788053:=Nat
def tw2631795985973375995:=Nat
def tw14751639132869046735:=Nat
def tw13822458886092394359:=Nat
def tw1033837644015589439:=Nat
def tw98937976248648301:=Nat
def tw7622222039992816707:=Nat
def tw8239092557912008983:=Nat
def tw8888986542279003781:=Nat
def tw8829400555819009920:=Nat
def tw8492393471149461236:=Nat
def tw6583323669706763520:=Nat
def tw470498957510524106:=Nat
def tw3965804046415104682:=Nat
def tw3055456365932447895:=Nat
def tw2862606935418597143:=Nat
def tw16328059167392980166:=Nat
def tw14865130015135849538:=Nat
def tw14756747119292115220:=Nat
def tw14193514579746599418:=Nat
def tw13326809926004357592:=Nat
def tw12870881163540658934:=Nat
def tw11521721439730945845:=Nat
def tw11265267314526611753:=Nat
def tw967260880302528798:=Nat
def tw7676522639856309929:=Nat
def tw11371530290367746203:=Nat
def tw10764389542214357079:=Nat
def tw4469288246227026387:=Nat
def tw10339810121823659947:=Nat
def tw4034410601599128510:=Nat
def tw1177924631164833458:=Nat
def tw13864225043206272491:=Nat
def tw5734579407012178950:=Nat
def tw14847245479548032740:=Nat
def tw14791413616273726:=Nat
def tw8396198050227009377:=Nat
def tw8115754738577561444:=Nat
def tw17332502448753980324:=Nat
def tw16997665882434419565:=Nat
def tw9965359570383935225:=Nat
def tw7521107857598986969:=Nat
def tw617552162433057506:=Nat
def tw16462400257692406964:=Nat
def tw12325677360936270939:=Nat
def tw11323259946858633894:=Nat
def tw4047546977282761007:=Nat
def tw13446139172647412109:=Nat
def tw9750133021148510263:=Nat
def tw9608939057012218201:=Nat
def tw9483257905924817745:=Nat
def tw9100764502971595097:=Nat
def tw8957182426145687482:=Nat
def tw8811838023076686254:=Nat
def tw8793584839544886346:=Nat
def tw7912677221168185843:=Nat
def tw7831554148822614592:=Nat
def tw757571684595416115:=Nat
def tw6913575981930268127:=Nat
def tw6838214621496874194:=Nat
def tw681463717644203726:=Nat
def tw671328303811342019:=Nat
def tw6613743081636198339:=Nat
def tw591364667275632677:=Nat
def tw5243425499947316187:=Nat
def tw4956478575639362194:=Nat
def tw4709868842844398009:=Nat
def tw4704010177036812488:=Nat
def tw4575564589108133080:=Nat
def tw4376801215669952274:=Nat
def tw4147302014949979617:=Nat
def tw4139349977486706313:=Nat
def tw2249744701268832146:=Nat
def tw2115746835330167654:=Nat
def tw1871871775970438684:=Nat
def tw17839206848390429473:=Nat
def tw17576945405152890615:=Nat
def tw17524314930516205848:=Nat
def tw17220578392834206707:=Nat
def tw171602111730629250:=Nat
def tw16891919743460515820:=Nat
def tw16811774449345998459:=Nat
def tw16564359845102922680:=Nat
def tw16537578491444098919:=Nat
def tw15570997408586323491:=Nat
def tw15530732767232993597:=Nat
def tw15296683325821224324:=Nat
def tw14873739095097437617:=Nat
def tw14868616276316464105:=Nat
def tw12958232477181914385:=Nat
def tw12616613666719692728:=Nat
def tw12110318513344753442:=Nat
def tw11881040231578995441:=Nat
def tw11663690513222136665:=Nat
def tw11643982193976421810:=Nat
def tw1159867602917513011:=Nat
def tw11373198367446235699:=Nat
def tw11045395603223999326:=Nat
def tw1087068839975534078:=Nat
def tw10864627449928095652:=Nat
def tw103859166323963076:=Nat
def tw1007672684637411961:=Nat
def tw10003966683509977871:=Nat
def tw9722080650572926761:=Nat
def tw9711869586089208634:=Nat
def tw9564692803562150570:=Nat
def tw8953327634857955615:=Nat
def tw8297559960540206473:=Nat
def tw8232203711599085284:=Nat
def tw8179436939621849406:=Nat
def tw8080173908618315388:=Nat
def tw6649865057716832726:=Nat
def tw5857404443243785988:=Nat
def tw559739358346852101:=Nat
def tw3341015458583817324:=Nat
def tw3339077045058433647:=Nat
def tw2915936540418101606:=Nat
def tw2784183007294807004:=Nat
def tw2445469206561281573:=Nat
def tw1834037950922211972:=Nat
def tw18231118015664864565:=Nat
def tw16917856507218522728:=Nat
def tw16906489278962897551:=Nat
def tw16477536703338541906:=Nat
def tw16303467704807603916:=Nat
def tw15802342605319492069:=Nat
def tw15528205840894542677:=Nat
def tw15445061022805339132:=Nat
def tw13908775935420194917:=Nat
def tw13760470520570044879:=Nat
def tw13169919690334881752:=Nat
def tw13079675401003329058:=Nat
def tw12120109019777260015:=Nat
def tw11339006089262430243:=Nat
def tw11132087193759755816:=Nat
def tw10680213473714660916:=Nat
def tw1067839198936280210:=Nat
def tw10462198362936768787:=Nat
def tw10424353525995934162:=Nat
end PySem.W.Fast
open PySem PySem.W PyProof.Rows
local macro_rules | `(tactic| walk_at "DI")=>`(tactic| (refine' FW.DI_mk ?a ?l ?c ?k;(case a=>k_is);(case l=>k_is);(case c=>k_is);(case k=>k_is)))
set_option maxRecDepth 100000 in
set_option maxHeartbeats 0 in
theorem PySem.Challenge.cw_hourstairs_k51_nets_known_holds : PySem.Challenge.rw_hourstairs_k51_nets_known.Holds := by
 w_on;o_law;k_head;(case hw=>w_witness2)
 k_fill
 refine FW.walkF (l:=PySem.Challenge.rw_hourstairs_k51_nets_known) (k:=35) (x:="_law_script") (by decide +kernel) rfl rfl ⟨rfl,by decide,by decide,rfl⟩ (fun w h Y=>PySem.W.kIn_of Y) ?F
 case F =>
  intro w mg fa h KX G hmg
  refine' My.all_mk KX G hmg ?sy ?d0 ?d1 ?d2 ?d3 ?d4 ?d5 ?d6 ?d7 ?d8 ?d9 ?d10 ?d11 ?d12 ?d13 ?d14 ?d15 ?d16 ?d17 ?d18 ?d19 ?d20 ?d21 ?d22 ?d23 ?d24 ?d25 ?d26 ?d27 ?d28 ?d29 ?d30 ?d31 ?d32 ?d33 ?d34 ?z0 ?z1 ?z2 ?z3 ?z4 ?z5 ?z6 ?z7 ?z8 ?z9 ?z10 ?z11 ?z12 ?z13 ?z14 ?z15 ?z16 ?z17 ?tz0 ?tz1 ?tz2 ?ga0_ ?ga1_
  all_goals first|delta My.zn|skip
  (case sy=>rfl)
  (case d0=>walk_at "DI")
  (case d1=>walk_at "DI")
  (case d2=>walk_at "DI")
  (case d3=>walk_at "DI")
  (case d4=>walk_at "DI")
  (case d5=>walk_at "DI")
  (case d6=>walk_at "DI")
  (case d7=>walk_at "DI")
  (case d8=>walk_at "DI")
  (case d9=>walk_at "DI")
  (case d10=>walk_at "DI")
  (case d11=>walk_at "DI")
  (case d12=>walk_at "DI")
  (case d13=>walk_at "DI")
  (case d14=>walk_at "DI")
  (case d15=>walk_at "DI")
  (case d16=>walk_at "DI")
  (case d17=>walk_at "DI")
  (case d18=>walk_at "DI")
  (case d19=>walk_at "DI")
  (case d20=>walk_at "DI")
  (case d21=>walk_at "DI")
  (case d22=>walk_at "DI")
  (case d23=>walk_at "DI")
  (case d24=>walk_at "DI")
  (case d25=>walk_at "DI")
  (case d26=>walk_at "DI")
  (case d27=>walk_at "DI")
  (case d28=>walk_at "DI")
  (case d29=>walk_at "DI")
  (case d30=>walk_at "DI")
  (case d31=>walk_at "DI")
  (case d32=>walk_at "DI")
  (case d33=>walk_at "DI")
  (case d34=>walk_at "DI")
  (case z0=>k_is)
  (case z1=>k_is)
  (case z2=>k_is)
  (case z3=>k_is)
  (case z4=>k_is)
  (case z5=>k_is)
  (case z6=>k_is)
  (case z7=>k_is)
  (case z8=>k_is)
  (case z9=>k_is)
  (case z10=>k_is)
  (case z11=>k_is)
  (case z12=>k_is)
  (case z13=>k_is)
  (case z14=>k_is)
  (case z15=>k_is)
  (case z16=>k_is)
  (case z17=>k_is)
  (case tz0=>k_is)
  (case tz1=>k_is)
  (case tz2=>k_is)
  (case ga0_=>k_is)
  (case ga1_=>k_is)
